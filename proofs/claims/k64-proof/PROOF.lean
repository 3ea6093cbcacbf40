import PyProof.Rows.All
import Wide.All
import OpenK.AllK
import Wide.FinOn
import Lean
import PyProof.EqAt
import PyProof.EqKinds
import PyProof.TupleCall
import PyProof.NeKinds
import PySem.Challenge.RW_oddbases_k64_whole_machine_is_settling
set_option Elab.async false
set_option linter.all false
set_option maxRecDepth 100000
namespace L2
open PySem PySem.Spec PyProof.Rows
abbrev Key:=Sum Int Str
def X1:Key→Value→Bool
 | .inl k,v=>Value.isInt k v
 | .inr x,v=>Value.isStrOf x v
def QJ (w:World):Key→Int
 | .inl k=>hashInt k
 | .inr x=>hashStr w x
theorem zT:∀ {k:Key} {v:Value},X1 k v=true→(∃ i t,k=Sum.inl i∧v=Value.int i t)∨(∃ x t,k=Sum.inr x∧v=Value.str x t)
 | .inl i,v,h=>by
  obtain ⟨t,e⟩:=Value.isInt_shape (k:=i) (v:=v) h
  exact .inl ⟨i,t,rfl,e⟩
 | .inr x,v,h=>by
  obtain ⟨t,e⟩:=Value.isStrOf_shape (x:=x) (v:=v) h
  exact .inr ⟨x,t,rfl,e⟩
theorem To (a b:Int):decide ((Sum.inl a:Key)=Sum.inl b)=(a == b):=by
 by_cases e:a=b
 ·subst e; simp
 ·have h:¬ (Sum.inl a:Key)=Sum.inl b:=fun q=>e (Sum.inl.inj q)
  rw [decide_eq_false h]
  exact (beq_eq_false_iff_ne.mpr e).symm
theorem Tl (a b:Str):decide ((Sum.inr a:Key)=Sum.inr b)=decide (a=b):=by
 by_cases e:a=b
 ·subst e; simp
 ·have h:¬ (Sum.inr a:Key)=Sum.inr b:=fun q=>e (Sum.inr.inj q)
  rw [decide_eq_false h,decide_eq_false e]
theorem Tn (a:Int) (b:Str):decide ((Sum.inl a:Key)=Sum.inr b)=false:=decide_eq_false (fun q=>nomatch q)
theorem Tm (a:Str) (b:Int):decide ((Sum.inr a:Key)=Sum.inl b)=false:=decide_eq_false (fun q=>nomatch q)
def oo (prog:Program) (w:World):PySem.KeyKind prog w Key where
 is:=X1
 hash:=QJ w
 inj:=fun v a b ha hb=>by
  rcases zT ha with ⟨i,t,rfl,rfl⟩ | ⟨x,t,rfl,rfl⟩
  ·rcases zT hb with ⟨j,u,rfl,e⟩ | ⟨y,u,rfl,e⟩
   ·injection e with e1 _; rw [e1]
   ·exact nomatch e
  ·rcases zT hb with ⟨j,u,rfl,e⟩ | ⟨y,u,rfl,e⟩
   ·exact nomatch e
   ·injection e with e1 _; rw [e1]
 byValue:=fun k v h=>by
  rcases zT h with ⟨i,t,rfl,rfl⟩ | ⟨x,t,rfl,rfl⟩ <;> rfl
 pyHash:=fun hv h=>by
  rcases zT hv with ⟨i,t,rfl,rfl⟩ | ⟨x,t,rfl,rfl⟩
  ·exact wpAny_pyHash_int h
  ·exact wpAny_pyHash_str h
 eqBool:=fun hu hv h=>by
  rcases zT hu with ⟨i,t,rfl,rfl⟩ | ⟨x,t,rfl,rfl⟩
  ·rcases zT hv with ⟨j,u,rfl,rfl⟩ | ⟨y,u,rfl,rfl⟩
   ·rw [To] at h; exact wpAny_eqBool_int h
   ·rw [Tn] at h; exact SeqAt.EqAt.int_str i t y u _ _ _ _ h
  ·rcases zT hv with ⟨j,u,rfl,rfl⟩ | ⟨y,u,rfl,rfl⟩
   ·rw [Tm] at h; exact SeqAt.EqAt.str_int x t j u _ _ _ _ h
   ·rw [Tl] at h; exact wpAny_eqBool_str h
 «strs»:=fun k x t v h=>by
  rcases zT h with ⟨i,u,rfl,e⟩ | ⟨y,u,rfl,e⟩
  ·exact nomatch e
  ·injection e with e1 _
   subst e1
   cases v <;> rfl
end L2
namespace L2
open PySem PySem.Spec PyProof.Rows
inductive V where
 | non | bl (b:Bool) | int (i:Int) | str (x:Str) | byt (b:Array UInt8) | flt (b:UInt64) | ref (a:Addr) | ty (n:String)
 deriving DecidableEq
def RelV:V→Value→Prop
 | .non,u=>u=Value.none
 | .bl b,u=>u=Value.bool b
 | .int i,u=>∃ t,u=Value.int i t
 | .str x,u=>∃ t,u=Value.str x t
 | .byt b,u=>∃ t,u=Value.bytes b t
 | .flt b,u=>∃ t,u=Value.float b t
 | .ref a,u=>u=Value.ref a
 | .ty n,u=>u=Value.type n
abbrev Vals:List V→List Value→Prop:=Paired RelV
theorem Vals.length {xs:List V} {us:List Value} (r:Vals xs us):xs.length=us.length:=Paired.length r
theorem Vals.get:∀ {xs:List V} {us:List Value} {i:Nat} {x:V},Vals xs us→xs[i]? = some x→∃ u,us[i]? = some u∧RelV x u
 | _,_,_,_,.nil,e=>by simp at e
 | _,_,0,_,.cons r _,e=>by simp at e; subst e; exact ⟨_,rfl,r⟩
 | _,_,i+1,x,.cons _ t,e=>by
  obtain ⟨u,h1,h2⟩:=Vals.get (i:=i) (x:=x) t (by simpa using e)
  exact ⟨u,by simpa using h1,h2⟩
theorem Vals.set {x:V} {u:Value} (r:RelV x u):∀ {xs:List V} {us:List Value} (i:Nat),Vals xs us→Vals (xs.set i x) (us.set i u)
 | _,_,_,.nil=>.nil
 | _,_,0,.cons _ t=>.cons r t
 | _,_,i+1,.cons q t=>.cons q (Vals.set r i t)
theorem Vals.append:∀ {xs ys:List V} {us ws:List Value},Vals xs us→Vals ys ws→Vals (xs++ys) (us++ws)
 | _,_,_,_,.nil,s=>s
 | _,_,_,_,.cons r t,s=>.cons r (Vals.append t s)
theorem Vals.take:∀ {xs:List V} {us:List Value} (n:Nat),Vals xs us→Vals (xs.take n) (us.take n)
 | _,_,0,_=>.nil
 | _,_,_+1,.nil=>.nil
 | _,_,n+1,.cons r t=>.cons r (Vals.take n t)
theorem Vals.drop:∀ {xs:List V} {us:List Value} (n:Nat),Vals xs us→Vals (xs.drop n) (us.drop n)
 | _,_,0,r=>r
 | _,_,_+1,.nil=>.nil
 | _,_,n+1,.cons _ t=>Vals.drop n t
theorem Vals.none_of:∀ {xs:List V} {us:List Value} {i:Nat},Vals xs us→xs[i]? = none→us[i]? = none:=fun {xs us i} r e=>by
 have h1:=r.length
 have h2:xs.length≤i:=List.getElem?_eq_none_iff.mp e
 exact List.getElem?_eq_none_iff.mpr (by omega)
def RelO:Option V→Option Value→Prop
 | some v,some u=>RelV v u
 | none,none=>True
 | _,_=>False
def KV {κ:Type}:List (κ × V)→List (κ × Value)→Prop:=Paired fun (p:κ × V) (q:κ × Value)=>p.1=q.1∧RelV p.2 q.2
def kV:Key→V
 | .inl i=>.int i
 | .inr x=>.str x
inductive HO where
 | lst (xs:List V)
 | tup (xs:List V)
 | dK (kvs:List (Key × V)) | dT (kvs:List (List Key × V))
 | set (S:Int→Bool) (n:Nat)
 | ins (C dx:Addr) (fs:List (Str × V))
 | own (x:Addr)
 | xd (fs:List (Str × V))
 | met (f x:Addr)
 | rng (lo hi:Int)
 | frz (o:Obj) (u:HO)
 | tbl (ps:Array Value)
 | ext (φ:Heap→Prop)
abbrev Hp:=Addr→Option HO
def upd (H:Hp) (a:Addr) (o:HO):Hp:=fun b=>if b=a then some o else H b
theorem zi {H:Hp} {a:Addr} {o:HO}:upd H a o a=some o:=by unfold upd; rw [if_pos rfl]
theorem zo {H:Hp} {a b:Addr} {o:HO} (h:b≠a):upd H a o b=H b:=by unfold upd; rw [if_neg h]
theorem zD {H:Hp} {a b:Addr} {o:HO} (h:H a=some o) (h':H b=none):a≠b:=by
 intro e; subst e; rw [h] at h'; cases h'
section
variable (P:Program) (w:World)
def ObjOk (H:Hp) (h:Heap) (a:Addr):HO→Prop
 | .lst xs=>xs.length≤sizeLine∧∃ (its:List Value) (n:Nat),Vals xs its∧h.get? a=some { cls:=.type "list",data:=.seq its.toArray n }
 | .tup xs=>xs.length≤sizeLine∧∃ its:List Value,Vals xs its∧IsTup h a its.toArray
 | .dK kvs=>kvs.length≤sizeLine∧(a == sysModules)=false∧∃ vs,KV kvs vs∧h.DictOf (oo P w) a vs
 | .dT kvs=>kvs.length≤sizeLine∧(a == sysModules)=false∧∃ xs:List (List Key × Addr × Value),
   Paired (fun (p:List Key × V) (q:List Key × Addr × Value)=>p.1=q.1∧H q.2.1=some (.tup (p.1.map kV))∧RelV p.2 q.2.2) kvs xs∧
   ∃ o es ep,h.get? a=some o∧o.ExactDict∧o.data=.dict es ep∧es.toList=xs.map (entryOfKey (tupleKind (oo P w)))∧(xs.map (·.1)).Nodup
 | .set S n=>h.SetOf (intKind P w) a S n
 | .ins C dx fs=>H dx=some (.own a)∧fs.length≤1000∧dx≠a∧h.get? a=some (PySem.W.instObj C dx)∧
   ∃ mA,h.Ns1 dx mA∧(∀ f,RelO (fs.lookup f) (mA f))∧PySem.Within mA (fs.map (·.1))
 | .own _=>∃ o,h.get? a=some o
 | .xd fs=>∃ mA,h.Ns1 a mA∧∀ f,RelO (fs.lookup f) (mA f)
 | .rng lo hi=>∃ t u v,h.get? a=some { cls:=.type "range",data:=.fields #[.int lo t,.int hi u,.int 1 v] }
 | .frz o u=>h.get? a=some o∧ObjOk H h a u
 | .tbl ps=>h.get? a=some { cls:=.none,data:=.fields ps }
 | .met f x=>h.get? a=some (PySem.W.methodObj (.ref f) (.ref x))
 | .ext φ=>φ h∧(∃ o,h.get? a=some o)∧∀ h1 h2:Heap,φ h1→(∀ o,h1.get? a=some o→h2.get? a=some o)→φ h2
def HOk (H:Hp) (h:Heap):Prop:=∀ a o,H a=some o→ObjOk P w H h a o
end
section
variable {P:Program} {w:World} {H H':Hp} {h h':Heap} {a:Addr} {o:HO}
theorem ObjOk.lt (x:ObjOk P w H h a o):a<h.objs.size:=by
 cases o with
 | lst xs=>obtain ⟨_,_,_,_,e⟩:=x; exact Heap.lt_size e
 | tup xs=>obtain ⟨_,_,_,p⟩:=x; exact p.lt
 | dK kvs=>obtain ⟨_,_,_,_,o,_,_,e,_⟩:=x; exact Heap.lt_size e
 | dT kvs=>obtain ⟨_,_,_,_,o,_,_,e,_⟩:=x; exact Heap.lt_size e
 | set S n=>obtain ⟨o,_,_,_,e,_⟩:=x; exact Heap.lt_size e
 | ins C dx fs=>obtain ⟨_,_,_,e,_⟩:=x; exact Heap.lt_size e
 | own y=>obtain ⟨_,e⟩:=x; exact Heap.lt_size e
 | xd fs=>obtain ⟨_,⟨_,_,_,e,_⟩,_⟩:=x; exact Heap.lt_size e
 | rng lo hi=>obtain ⟨_,_,_,e⟩:=x; exact Heap.lt_size e
 | frz ob u=>obtain ⟨e,_⟩:=x; exact Heap.lt_size e
 | tbl ps=>exact Heap.lt_size (show h.get? a=some _ from x)
 | met f y=>exact Heap.lt_size (show h.get? a=some _ from x)
 | ext φ=>obtain ⟨_,⟨_,e⟩,_⟩:=x; exact Heap.lt_size e
theorem Paired.mapP {α β:Type} {F G:α→β→Prop}:∀ {l₁:List α} {l₂:List β},Paired F l₁ l₂→(∀ a b,F a b→G a b)→Paired G l₁ l₂
 | _,_,.nil,_=>.nil
 | _,_,.cons r t,f=>.cons (f _ _ r) (Paired.mapP t f)
theorem ObjOk.stay (x:ObjOk P w H h a o) (k:∀ b u,(b=a∨H b=some (.own a))→h.get? b=some u→h'.get? b=some u)
  (ho:∀ b,H b=some (.own a)→H' b=some (.own a)) (ht:∀ b xs,H b=some (.tup xs)→H' b=some (.tup xs)):ObjOk P w H' h' a o:=by
 induction o with
 | lst xs=>obtain ⟨z,its,n,r,e⟩:=x; exact ⟨z,its,n,r,k _ _ (.inl rfl) e⟩
 | tup xs=>obtain ⟨z,its,r,ob,e,c⟩:=x; exact ⟨z,its,r,ob,k _ _ (.inl rfl) e,c⟩
 | dK kvs=>obtain ⟨z,y,vs,r,ob,es,ep,e,c⟩:=x; exact ⟨z,y,vs,r,ob,es,ep,k _ _ (.inl rfl) e,c⟩
 | dT kvs=>
  obtain ⟨z,y,xs,r,ob,es,ep,e,c⟩:=x
  exact ⟨z,y,xs,Paired.mapP r fun p q z=>⟨z.1,ht _ _ z.2.1,z.2.2⟩,ob,es,ep,k _ _ (.inl rfl) e,c⟩
 | set S n=>obtain ⟨ob,es,ep,t,e,c⟩:=x; exact ⟨ob,es,ep,t,k _ _ (.inl rfl) e,c⟩
 | ins C dx fs=>
  obtain ⟨d,z,ne,e,mA,⟨od,es,ep,e2,c⟩,r⟩:=x
  exact ⟨ho _ d,z,ne,k _ _ (.inl rfl) e,mA,⟨od,es,ep,k _ _ (.inr d) e2,c⟩,r⟩
 | own y=>obtain ⟨ob,e⟩:=x; exact ⟨ob,k _ _ (.inl rfl) e⟩
 | xd fs=>obtain ⟨mA,⟨od,es,ep,e,c⟩,r⟩:=x; exact ⟨mA,⟨od,es,ep,k _ _ (.inl rfl) e,c⟩,r⟩
 | rng lo hi=>obtain ⟨t,u,v,e⟩:=x; exact ⟨t,u,v,k _ _ (.inl rfl) e⟩
 | frz ob u ih=>obtain ⟨e,q⟩:=x; exact ⟨k _ _ (.inl rfl) e,ih q⟩
 | tbl ps=>
  have e:h.get? a=some { cls:=.none,data:=.fields ps }:=x
  show h'.get? a=some { cls:=.none,data:=.fields ps }
  exact k a _ (.inl rfl) e
 | met f y=>
  have e:h.get? a=some (PySem.W.methodObj (.ref f) (.ref y)):=x
  show h'.get? a=some (PySem.W.methodObj (.ref f) (.ref y))
  exact k a _ (.inl rfl) e
 | ext φ=>obtain ⟨p,⟨o,e⟩,st⟩:=x; exact ⟨st _ _ p fun o q=>k _ _ (.inl rfl) q,⟨o,k _ _ (.inl rfl) e⟩,st⟩
theorem HOk.lt (x:HOk P w H h) (e:H a=some o):a<h.objs.size:=(x a o e).lt
theorem HOk.fresh (x:HOk P w H h) (e:h.objs.size≤a):H a=none:=by
 cases q:H a with
 | none=>rfl
 | some u=>exact absurd (Nat.lt_of_lt_of_le (x.lt q) e) (Nat.lt_irrefl _)
theorem HOk.kept (x:HOk P w H h) (k:∀ b u,h.get? b=some u→h'.get? b=some u):HOk P w H h':=fun a o e=>
 (x a o e).stay (fun b u _ q=>k b u q) (fun _ q=>q) fun _ _ q=>q
theorem HOk.laid (x:HOk P w H h) (k:∀ b u,h.get? b=some u→h'.get? b=some u) (hp:h.objs.size≤a) (new:ObjOk P w (upd H a o) h' a o):HOk P w (upd H a o) h':=fun b u e=>by
 have hn:=x.fresh hp
 by_cases hb:b=a
 ·subst hb; rw [zi] at e; cases e; exact new
 ·rw [zo hb] at e
  exact (x b u e).stay (fun c v _ q=>k c v q) (fun c q=>by rw [zo (zD q hn)]; exact q) fun c xs q=>by rw [zo (zD q hn)]; exact q
end
def Rd (H:Hp) (a:Addr) (u:HO):Prop:=H a=some u∨∃ o,H a=some (.frz o u)
theorem Rd.of {H:Hp} {a:Addr} {u:HO} (h:H a=some u):Rd H a u:=.inl h
theorem Rd.ok {P:Program} {w:World} {H:Hp} {h:Heap} {a:Addr} {u:HO} (r:Rd H a u) (x:HOk P w H h):ObjOk P w H h a u:=by
 rcases r with r | ⟨o,r⟩
 ·exact x a u r
 ·obtain ⟨_,q⟩:=x a _ r
  exact q
def Mut:Option HO→Prop
 | some (.lst _)=>True
 | some (.dK _)=>True
 | some (.dT _)=>True
 | some (.set _ _)=>True
 | some (.ins _ _ _)=>True
 | some (.ext _)=>True
 | _=>False
section
variable {P:Program} {w:World} {H:Hp} {h h':Heap} {x e:Addr} {o':HO}
theorem HOk.write (ok:HOk P w H h) (mu:Mut (H x)) (he:e=x∨H e=some (.own x)) (k:∀ b u,b≠e→h.get? b=some u→h'.get? b=some u) (heo:∃ u,h'.get? e=some u)
  (new:ObjOk P w (upd H x o') h' x o'):HOk P w (upd H x o') h':=fun b u q=>by
 have nown:∀ c y,H c=some (.own y)→c≠x:=fun c y r z=>by subst z; rw [r] at mu; exact mu
 have ntup:∀ c xs,H c=some (.tup xs)→c≠x:=fun c xs r z=>by subst z; rw [r] at mu; exact mu
 by_cases hb:b=x
 ·subst hb; rw [zi] at q; cases q; exact new
 ·rw [zo hb] at q
  by_cases hbe:b=e
  ·have q':H b=some (.own x):=by
    rcases he with z | z
    ·exact absurd (hbe.trans z) hb
    ·rw [hbe]; exact z
   rw [q] at q'; cases q'
   obtain ⟨v,hv⟩:=heo
   exact ⟨v,by rw [hbe]; exact hv⟩
  ·refine (ok b u q).stay (fun c v hc r=>k c v ?_ r) (fun c r=>by rw [zo (nown c b r)]; exact r) fun c xs r=>by rw [zo (ntup c xs r)]; exact r
   rcases hc with rfl | hc
   ·exact hbe
   ·rintro rfl
    rcases he with z | z
    ·exact nown c b hc z
    ·rw [hc] at z; cases z; exact hb rfl
end
structure Un (fs ex:List Addr) (H H':Hp) (h h':Heap):Prop where
 keep:∀ b o,h.get? b=some o→H b=none→b∉fs→b∉ex→h'.get? b=some o
 slot:∀ b o,h.get? b=some o→H b=none→b∈fs→b∉ex→∃ sl,h'.get? b=some { o with slots:=sl }
 free:∀ b o,h.get? b=some o→H b=none→b∉ex→H' b=none
 there:∀ b o,h.get? b=some o→b∉ex→∃ o',h'.get? b=some o'
 tups:∀ b xs,H b=some (.tup xs)→H' b=some (.tup xs)
 frzs:∀ b o u,H b=some (.frz o u)→H' b=some (.frz o u)
 tbls:∀ b ps,H b=some (.tbl ps)→∃ more,H' b=some (.tbl (ps++more))
section
variable {fs fs' ex ex':List Addr} {H H1 H2:Hp} {h h1 h2 h':Heap} {a x e:Addr} {o:HO}
theorem Un.any (u:Un fs ex H H1 h h1) {b:Addr} {ob:Obj} (q:h.get? b=some ob) (n:H b=none) (hx:b∉ex):∃ sl,h1.get? b=some { ob with slots:=sl }:=by
 by_cases hb:b∈fs
 ·exact u.slot b ob q n hb hx
 ·exact ⟨ob.slots,u.keep b ob q n hb hx⟩
theorem Un.trans (a:Un fs ex H H1 h h1) (b:Un fs ex H1 H2 h1 h2):Un fs ex H H2 h h2 where
 keep:=fun c ob q n hc hx=>b.keep c ob (a.keep c ob q n hc hx) (a.free c ob q n hx) hc hx
 slot:=fun c ob q n hc hx=>by
  obtain ⟨sl,e1⟩:=a.slot c ob q n hc hx
  obtain ⟨sl',e2⟩:=b.slot c _ e1 (a.free c ob q n hx) hc hx
  exact ⟨sl',e2⟩
 free:=fun c ob q n hx=>by
  obtain ⟨o',e1⟩:=a.there c ob q hx
  exact b.free c o' e1 (a.free c ob q n hx) hx
 there:=fun c ob q hx=>by
  obtain ⟨o',e1⟩:=a.there c ob q hx
  exact b.there c o' e1 hx
 tups:=fun c xs q=>b.tups c xs (a.tups c xs q)
 frzs:=fun c ob xs q=>b.frzs c ob xs (a.frzs c ob xs q)
 tbls:=fun c ps q=>by
  obtain ⟨m1,e1⟩:=a.tbls c ps q
  obtain ⟨m2,e2⟩:=b.tbls c _ e1
  exact ⟨m1++m2,by rw [e2,Array.append_assoc]⟩
theorem Un.kept (k:∀ b u,h.get? b=some u→h'.get? b=some u):Un fs ex H H h h':=
 ⟨fun b ob q _ _ _=>k b ob q,fun b ob q _ _ _=>⟨ob.slots,k b ob q⟩,fun _ _ _ n _=>n,fun b ob q _=>⟨ob,k b ob q⟩,fun _ _ q=>q,fun _ _ _ q=>q,fun _ ps q=>⟨#[],by rw [q]; simp⟩⟩
theorem Un.refl:Un fs ex H H h h:=Un.kept fun _ _ q=>q
theorem Un.laid (k:∀ b u,h.get? b=some u→h'.get? b=some u) (hp:h.objs.size≤a) (hn:H a=none):Un fs ex H (upd H a o) h h' where
 keep:=fun b u q _ _ _=>k b u q
 slot:=fun b u q _ _ _=>⟨u.slots,k b u q⟩
 free:=fun b u q n _=>by rw [zo (Nat.ne_of_lt (Nat.lt_of_lt_of_le (Heap.lt_size q) hp))]; exact n
 there:=fun b u q _=>⟨u,k b u q⟩
 tups:=fun b xs q=>by rw [zo (zD q hn)]; exact q
 frzs:=fun b u xs q=>by rw [zo (zD q hn)]; exact q
 tbls:=fun b ps q=>⟨#[],by rw [zo (zD q hn),q]; simp⟩
theorem Un.write (mu:Mut (H x)) (he:e=x∨H e=some (.own x)) (k:∀ b u,b≠e→h.get? b=some u→h'.get? b=some u) (heo:∃ u,h'.get? e=some u):Un fs ex H (upd H x o) h h':=by
 have hx:∀ b,H b=none→b≠x:=fun b n z=>by subst z; rw [n] at mu; exact mu
 have hb:∀ b,H b=none→b≠e:=fun b n z=>by
  subst z
  rcases he with r | r
  ·exact hx b n r
  ·rw [n] at r; cases r
 have hm:∀ b u,H b=some u→¬ Mut (some u)→b≠x:=fun b u q nm z=>by subst z; rw [q] at mu; exact nm mu
 refine ⟨fun b u q n _ _=>k b u (hb b n) q,fun b u q n _ _=>⟨u.slots,k b u (hb b n) q⟩,fun b u q n _=>by rw [zo (hx b n)]; exact n,fun b u q _=>?_,
  fun b xs q=>by rw [zo (hm b _ q fun z=>z)]; exact q,fun b u xs q=>by rw [zo (hm b _ q fun z=>z)]; exact q,fun b ps q=>⟨#[],by rw [zo (hm b _ q fun z=>z),q]; simp⟩⟩
 by_cases hbe:b=e
 ·subst hbe; exact heo
 ·exact ⟨u,k b u hbe q⟩
theorem Un.mono (u:Un fs ex H H1 h h1) (hs:∀ b∈fs,b∈fs') (hx:∀ b∈ex,b∈ex'):Un fs' ex' H H1 h h1:=
 ⟨fun b ob q n hb he=>u.keep b ob q n (fun z=>hb (hs b z)) fun z=>he (hx b z),fun _ _ q n _ he=>u.any q n fun z=>he (hx _ z),fun b ob q n he=>u.free b ob q n fun z=>he (hx b z),fun b ob q he=>u.there b ob q fun z=>he (hx b z),u.tups,u.frzs,u.tbls⟩
end
def trk (h:Heap) (H:Hp):List Addr:=(List.range h.objs.size).filter fun a=>(H a).isSome
def oB (h:Heap) (H:Hp):Heap:=PySem.W.hideAll h (trk h H)
theorem jR (h:Heap) (H:Hp):(oB h H).objs.size=h.objs.size:=PySem.W.hideAll_size _ _
theorem dz {h:Heap} {H:Hp} {b:Addr} {o:Obj} (e:h.get? b=some o) (n:H b=none):(oB h H).get? b=some o:=
 PySem.W.hideAll_get _ e fun hm=>by
  have q:(H b).isSome=true:=(List.mem_filter.mp hm).2
  rw [n] at q; simp at q
theorem bI {h:Heap} {H:Hp} {b:Addr} {o:Obj} (e:(oB h H).get? b=some o):h.get? b=some o∧H b=none:=by
 have e':h.get? b=some o:=PySem.W.of_hideAll (trk h H) e
 refine ⟨e',?_⟩
 cases q:H b with
 | none=>rfl
 | some x=>
  have hm:b∈trk h H:=List.mem_filter.mpr ⟨List.mem_range.mpr (Heap.lt_size e'),by simp [q]⟩
  have z:(oB h H).get? b=none:=PySem.W.hideAll_none (trk h H) hm
  rw [z] at e; cases e
def XF (g h:Heap) (L:Addr):List (Addr × Obj):=(List.range h.objs.size).filterMap fun a=>if a=L∨(g.get? a).isSome=true then none else (h.get? a).map fun o=>(a,o)
def yU (g h:Heap) (L d:Addr):List (Addr × Obj):=(XF g h L).filter fun p=>decide (p.1≠d)
end L2
namespace L2
open PySem PySem.Spec PyProof.Rows
structure Mod (K:PySem.W.Frag) (mg:Str→Option Value) (base:Heap):Prop where
 kin:K.In base
 glob:base.Ns mainGlobals mg
 blt:∃ mb,base.Ns builtinsNs mb∧∀ x:Str,x≠"__name__"→mb x=bootBuiltins x
 nolimit:base.NoLimit
structure Cx where
 prog:Program
 w:World
 K:PySem.W.Frag
 mg:Str→Option Value
 base:Heap
 A:Around
 N:List Str
 s₀:Shared
 H₀:Hp
 env:Env
 outer:List Env
 stack:List Env
 ex:List Addr
 fn:Str→Bool
 calm:Bool
 pn:List (Addr × Obj)
 xe:Value→Shared→Prop
def frs (l:List Env):List Addr:=l.filterMap (·.frame)
abbrev Cx.fs (X:Cx):List Addr:=frs X.outer
def Vis (sc:Scope) (x:Str):Prop:=sc.names.lookup x=some .local∨sc.names.lookup x=some .cell∨sc.names.lookup x=some .free
def Loc (sc:Scope) (x:Str):Prop:=sc.names.lookup x=some .local∨sc.names.lookup x=some .cell
def Pe (env:Env) (h:Heap) (m:Str→Option Value) (x:Str) (u:Value):Prop:=
 (env.kindOf x=some .local∧m x=some u)∨((env.kindOf x=some .cell∨env.kindOf x=some .free)∧∃ c,env.cells.lookup x=some c∧h.IsCell c (some u))
structure Cx.Ok (X:Cx):Prop where
 mod:Mod X.K X.mg X.base
 kind:X.env.scope.kind=.function
 glob:X.env.globals=mainGlobals
 blt:X.env.builtins=builtinsNs
 above:X.s₀.heap.objs.size≤X.env.locals
 inj:∀ x y c,X.env.cells.lookup x=some c→X.env.cells.lookup y=some c→x=y
 has:∀ x,(X.env.kindOf x=some .cell∨X.env.kindOf x=some .free)→∃ c,X.env.cells.lookup x=some c
 cab:∀ x c,X.fn x=true→X.env.cells.lookup x=some c→X.s₀.heap.objs.size≤c
 hd:X.calm=true→X.A.handled=none
 frames:X.A.frames=some X.stack
 stk:X.stack=X.outer∨(X.stack=X.env::X.outer∧X.env.frame=some X.env.locals)
 exf:∀ b∈X.ex,b≠X.env.locals∧∀ x c,X.env.cells.lookup x=some c→c≠b
 bs:∀ b o,X.base.get? b=some o→X.s₀.heap.get? b=some o∧X.H₀ b=none
 bsz:X.base.objs.size≤X.s₀.heap.objs.size
 noex:∀ b o,X.base.get? b=some o→b∉X.ex
 exfs:∀ b∈X.ex,b∉X.fs
 funs:X.s₀.heap.FunFrames X.base X.outer
 frf:∀ b∈X.fs,X.H₀ b=none
structure Inv (X:Cx) (pins:List (Addr × Obj)) (σ:List (Option V)) (H:Hp) (s:Shared):Prop where
 ok:X.Ok
 os:s.os=X.s₀.os
 bare:AllBare s.gens
 base:Un X.fs X.ex X.H₀ H X.s₀.heap s.heap
 loc:∃ m,s.heap.Ns X.env.locals m∧∀ (i:Nat) (x:Str) (v:V),X.N[i]? = some x→σ[i]? = some (some v)→Vis X.env.scope x→∃ u,RelV v u∧Pe X.env s.heap m x u
 cell:∀ x c,X.env.cells.lookup x=some c→∃ v,s.heap.IsCell c v
 free:H X.env.locals=none
 freeC:∀ x c,X.env.cells.lookup x=some c→H c=none
 pin:∀ p∈X.pn++pins,s.heap.get? p.1=some p.2∧H p.1=none∧p.1≠X.env.locals∧p.1∉X.fs∧∀ v,p.2.data≠.cell v
 hok:HOk X.prog X.w H s.heap
 len:σ.length=X.N.length
section
variable {X:Cx} {pins:List (Addr × Obj)} {σ:List (Option V)} {H H':Hp} {s:Shared} {h':Heap}
theorem Cx.Ok.nofr (ok:X.Ok) {b:Addr} {o:Obj} (e:X.base.get? b=some o):b∉X.fs:=fun hb=>by
 have:=(ok.funs.mem hb).1
 rw [e] at this; cases this
theorem Inv.bs (I:Inv X pins σ H s):∀ b o,X.base.get? b=some o→s.heap.get? b=some o∧H b=none:=fun b o e=>
 ⟨I.base.keep b o (I.ok.bs b o e).1 (I.ok.bs b o e).2 (I.ok.nofr e) (I.ok.noex b o e),I.base.free b o (I.ok.bs b o e).1 (I.ok.bs b o e).2 (I.ok.noex b o e)⟩
theorem Inv.bk (I:Inv X pins σ H s):∀ b o,X.base.get? b=some o→s.heap.get? b=some o:=fun b o e=>(I.bs b o e).1
theorem Inv.mod (I:Inv X pins σ H s):Mod X.K X.mg X.base:=I.ok.mod
theorem Inv.kIn (I:Inv X pins σ H s):X.K.In s.heap:=I.ok.mod.kin.keeps I.bk
theorem Inv.nolimit (I:Inv X pins σ H s):s.heap.NoLimit:=I.ok.mod.nolimit.keeps I.bk
theorem Inv.fr (I:Inv X pins σ H s):∃ m,Fr X.base X.env.locals s.heap m:=
 let ⟨m,hn,_⟩:=I.loc
 ⟨m,hn,I.bk,Nat.le_trans I.ok.bsz I.ok.above⟩
theorem Inv.lt (I:Inv X pins σ H s):X.env.locals<s.heap.objs.size:=let ⟨_,hn,_⟩:=I.loc; hn.lt
theorem Inv.sz (I:Inv X pins σ H s):X.s₀.heap.objs.size≤s.heap.objs.size:=Nat.le_trans I.ok.above (Nat.le_of_lt I.lt)
theorem Inv.nofs (I:Inv X pins σ H s) {a:Addr} (h:s.heap.objs.size≤a):a∉X.fs:=fun hb=>by
 obtain ⟨_,o,ho,_⟩:=I.ok.funs.mem hb
 exact absurd (Nat.lt_of_lt_of_le (Heap.lt_size ho) (Nat.le_trans I.sz h)) (Nat.lt_irrefl _)
theorem Inv.cne (I:Inv X pins σ H s):∀ x c,X.env.cells.lookup x=some c→c≠X.env.locals:=fun x c e z=>by
 obtain ⟨v,o,ho,hd⟩:=I.cell x c e
 obtain ⟨m,⟨o',es,ep,ho',hd',_⟩,_⟩:=I.loc
 rw [z,ho'] at ho; cases ho; rw [hd'] at hd; cases hd
theorem Inv.funs (I:Inv X pins σ H s):s.heap.FunFrames X.base X.outer:=by
 have all:∀ (l:List Env),(∀ b∈frs l,b∈X.fs)→X.s₀.heap.FunFrames X.base l→s.heap.FunFrames X.base l:=by
  intro l
  induction l with
  | nil=>intro _ _; trivial
  | cons env r ih=>
   intro hs hl
   obtain ⟨hk,⟨L,o,hf,hn,ho,hd⟩,hr⟩:=hl
   have hL:L∈X.fs:=hs L (by unfold frs; rw [List.filterMap_cons,hf]; exact List.mem_cons_self)
   obtain ⟨sl,e⟩:=I.base.slot L o ho (I.ok.frf L hL) hL fun z=>I.ok.exfs L z hL
   exact ⟨hk,⟨L,_,hf,hn,e,hd⟩,ih (fun b hb=>hs b (by unfold frs; rw [List.filterMap_cons,hf]; exact List.mem_cons_of_mem _ hb)) hr⟩
 exact all X.outer (fun _ hb=>hb) I.ok.funs
theorem Inv.stack (I:Inv X pins σ H s):s.heap.FunFrames X.base X.stack:=by
 rcases I.ok.stk with e | ⟨e,hf⟩
 ·rw [e]; exact I.funs
 ·rw [e]
  obtain ⟨m,hn,_⟩:=I.loc
  refine .cons (by rw [I.ok.kind]; decide) hf hn ?_ I.funs
  exact Heap.get?_none_of_le (Nat.le_trans I.ok.bsz I.ok.above)
theorem Inv.stkSub (I:Inv X pins σ H s):∀ b∈frs X.stack,b∈X.env.locals::X.fs:=fun b hb=>by
 rcases I.ok.stk with e | ⟨e,hf⟩
 ·rw [e] at hb; exact List.mem_cons_of_mem _ hb
 ·rw [e] at hb
  unfold frs at hb
  rw [List.filterMap_cons,hf] at hb
  exact hb
theorem Inv.stkFree (I:Inv X pins σ H s):∀ b∈frs X.stack,H b=none:=fun b hb=>by
 rcases List.mem_cons.mp (I.stkSub b hb) with e | hb
 ·rw [e]; exact I.free
 ·obtain ⟨_,o,ho,_⟩:=I.ok.funs.mem hb
  exact I.base.free b o ho (I.ok.frf b hb) fun z=>I.ok.exfs b z hb
theorem Inv.step {g':Array GenState} {t':Nat} {d':Drawn} {ch:List Addr} (I:Inv X pins σ H s)
  (hch:∀ b∈ch,(b∈X.ex∨X.s₀.heap.objs.size≤b)∧b≠X.env.locals∧(∀ x c,X.env.cells.lookup x=some c→c≠b)∧∀ p∈X.pn++pins,p.1≠b)
  (keep:∀ b o,b≠X.env.locals→b∉X.fs→b∉ch→s.heap.get? b=some o→H b=none→h'.get? b=some o)
  (slot:∀ b o,b≠X.env.locals→b∈X.fs→b∉ch→s.heap.get? b=some o→H b=none→∃ sl,h'.get? b=some { o with slots:=sl }) (free:∀ b o,b∉ch→s.heap.get? b=some o→H b=none→H' b=none)
  (there:∀ b o,b∉ch→s.heap.get? b=some o→∃ o',h'.get? b=some o')
  (tups:∀ b xs,H b=some (.tup xs)→H' b=some (.tup xs)) (frzs:∀ b o u,H b=some (.frz o u)→H' b=some (.frz o u)) (tbls:∀ b ps,H b=some (.tbl ps)→∃ more,H' b=some (.tbl (ps++more)))
  (ns:∀ m,s.heap.Ns X.env.locals m→h'.Ns X.env.locals m) (hok:HOk X.prog X.w H' h') (hg:AllBare g'):
  Inv X pins σ H' { s with heap:=h',gens:=g',drawn:=d',toks:=t' }:=by
 have neL:∀ b o,X.s₀.heap.get? b=some o→b≠X.env.locals:=fun b o e=>Nat.ne_of_lt (Nat.lt_of_lt_of_le (Heap.lt_size e) I.ok.above)
 have neC:∀ b o,X.s₀.heap.get? b=some o→b∉X.ex→b∉ch:=fun b o e hx hb=>by
  rcases (hch b hb).1 with z | z
  ·exact hx z
  ·exact absurd (Nat.lt_of_lt_of_le (Heap.lt_size e) z) (Nat.lt_irrefl _)
 have cellK:∀ x c,X.env.cells.lookup x=some c→∀ v,s.heap.IsCell c v→h'.IsCell c v:=fun x c e v ⟨o,ho,hd⟩=>by
  have nch:c∉ch:=fun z=>(hch c z).2.2.1 x c e rfl
  by_cases hc:c∈X.fs
  ·obtain ⟨sl,q⟩:=slot c o (I.cne x c e) hc nch ho (I.freeC x c e)
   exact ⟨_,q,hd⟩
  ·exact ⟨o,keep c o (I.cne x c e) hc nch ho (I.freeC x c e),hd⟩
 refine ⟨I.ok,I.os,hg,⟨fun b o e n hb hx=>?_,fun b o e n hb hx=>?_,fun b o e n hx=>?_,fun b o e hx=>?_,fun b xs e=>tups b xs (I.base.tups b xs e),fun b o xs e=>frzs b o xs (I.base.frzs b o xs e),fun b ps e=>?_⟩,?_,fun x c e=>?_,?_,fun x c e=>?_,fun p hp=>?_,hok,I.len⟩
 ·exact keep b o (neL b o e) hb (neC b o e hx) (I.base.keep b o e n hb hx) (I.base.free b o e n hx)
 ·obtain ⟨sl,e1⟩:=I.base.slot b o e n hb hx
  obtain ⟨sl',e2⟩:=slot b _ (neL b o e) hb (neC b o e hx) e1 (I.base.free b o e n hx)
  exact ⟨sl',e2⟩
 ·obtain ⟨o',e1⟩:=I.base.there b o e hx
  exact free b o' (neC b o e hx) e1 (I.base.free b o e n hx)
 ·obtain ⟨o',e1⟩:=I.base.there b o e hx
  exact there b o' (neC b o e hx) e1
 ·obtain ⟨m1,e1⟩:=I.base.tbls b ps e
  obtain ⟨m2,e2⟩:=tbls b _ e1
  exact ⟨m1++m2,by rw [e2,Array.append_assoc]⟩
 ·obtain ⟨m,hn,hl⟩:=I.loc
  refine ⟨m,ns m hn,fun i x v e1 e2 e3=>?_⟩
  obtain ⟨u,r,l⟩:=hl i x v e1 e2 e3
  refine ⟨u,r,?_⟩
  rcases l with l | ⟨k,c,e,z⟩
  ·exact .inl l
  ·exact .inr ⟨k,c,e,cellK x c e _ z⟩
 ·obtain ⟨v,z⟩:=I.cell x c e
  exact ⟨v,cellK x c e v z⟩
 ·obtain ⟨m,⟨o,_,_,ho,_⟩,_⟩:=I.loc
  exact free _ o (fun z=>(hch _ z).2.1 rfl) ho I.free
 ·obtain ⟨v,o,ho,hd⟩:=I.cell x c e
  exact free c o (fun z=>(hch c z).2.2.1 x c e rfl) ho (I.freeC x c e)
 ·obtain ⟨e,n,ne,nf,d⟩:=I.pin p hp
  have nch:p.1∉ch:=fun z=>(hch p.1 z).2.2.2 p hp rfl
  exact ⟨keep p.1 p.2 ne nf nch e n,free p.1 p.2 nch e n,ne,nf,d⟩
theorem Inv.un {t':Nat} (I:Inv X pins σ H s) (u:Un X.fs [] H H' s.heap h') (hok:HOk X.prog X.w H' h'):Inv X pins σ H' { s with heap:=h',toks:=t' }:=by
 obtain ⟨m,⟨o,es,ep,ho,r⟩,_⟩:=id I.loc
 obtain ⟨sl,hL⟩:=u.any ho I.free (by simp)
 exact I.step (g':=s.gens) (d':=s.drawn) (ch:=[]) (fun _ z=>nomatch z) (fun b o _ hb _ e n=>u.keep b o e n hb (by simp)) (fun b o _ hb _ e n=>u.slot b o e n hb (by simp)) (fun b o _ e n=>u.free b o e n (by simp)) (fun b o _ e=>u.there b o e (by simp)) u.tups u.frzs u.tbls (fun m' hm=>by
  obtain ⟨o',es',ep',ho',r'⟩:=hm
  rw [ho] at ho'; cases ho'
  exact ⟨_,es',ep',hL,r'⟩) hok I.bare
theorem Inv.call {g':Array GenState} {t':Nat} {d':Drawn} {ch:List Addr} (I:Inv X pins σ H s) (u:Un (frs X.stack) ch H H' s.heap h') (hok:HOk X.prog X.w H' h') (hg:AllBare g')
  (hch:∀ b∈ch,(b∈X.ex∨X.s₀.heap.objs.size≤b)∧b≠X.env.locals∧(∀ x c,X.env.cells.lookup x=some c→c≠b)∧∀ p∈X.pn++pins,p.1≠b):
  Inv X pins σ H' { s with heap:=h',gens:=g',drawn:=d',toks:=t' }:=by
 obtain ⟨m,⟨o,es,ep,ho,r⟩,_⟩:=id I.loc
 obtain ⟨sl,hL⟩:=u.any ho I.free fun z=>(hch _ z).2.1 rfl
 exact I.step (ch:=ch) hch (fun b o hL hb hc e n=>u.keep b o e n (fun z=>(List.mem_cons.mp (I.stkSub b z)).elim hL hb) hc) (fun b o _ _ hc e n=>u.any e n hc) (fun b o hc e n=>u.free b o e n hc) (fun b o hc e=>u.there b o e hc) u.tups u.frzs u.tbls (fun m' hm=>by
  obtain ⟨o',es',ep',ho',r'⟩:=hm
  rw [ho] at ho'; cases ho'
  exact ⟨_,es',ep',hL,r'⟩) hok hg
theorem Inv.turned {t':Nat} {it:Addr} (I:Inv X pins σ H s) (k:∀ b o,b≠it→s.heap.get? b=some o→h'.get? b=some o) (hn:H it=none) (hL:it≠X.env.locals)
  (h1:it∈X.ex∨X.s₀.heap.objs.size≤it) (h2:∀ x c,X.env.cells.lookup x=some c→c≠it) (h3:∀ p∈X.pn++pins,p.1≠it):Inv X pins σ H { s with heap:=h',toks:=t' }:=by
 have nit:∀ b u,H b=some u→b≠it:=fun b u e z=>by rw [z,hn] at e; cases e
 refine I.step (g':=s.gens) (d':=s.drawn) (ch:=[it]) (fun b hb=>?_) (fun b o _ _ hc e _=>k b o (fun z=>hc (by simp [z])) e) (fun b o _ _ hc e _=>⟨o.slots,k b o (fun z=>hc (by simp [z])) e⟩) (fun _ _ _ _ n=>n)
  (fun b o hc e=>⟨o,k b o (fun z=>hc (by simp [z])) e⟩) (fun _ _ e=>e) (fun _ _ _ e=>e) (fun b ps e=>⟨#[],by rw [e]; simp⟩) (fun m hm=>?_) (fun b u e=>?_) I.bare
 ·have e:b=it:=by simpa using hb
  subst e
  exact ⟨h1,hL,h2,h3⟩
 ·obtain ⟨o,es,ep,ho,r⟩:=hm
  exact ⟨o,es,ep,k _ o (Ne.symm hL) ho,r⟩
 ·refine (I.hok b u e).stay (fun c v hc q=>k c v ?_ q) (fun _ q=>q) fun _ _ q=>q
  rcases hc with z | z
  ·rw [z]; exact nit b u e
  ·exact nit c _ z
theorem Inv.tok (I:Inv X pins σ H s) (t:Nat):Inv X pins σ H { s with toks:=t }:=I.un (h':=s.heap) (t':=t) Un.refl I.hok
theorem Inv.kept {t':Nat} (I:Inv X pins σ H s) (k:∀ b u,s.heap.get? b=some u→h'.get? b=some u):Inv X pins σ H { s with heap:=h',toks:=t' }:=I.un (Un.kept k) (I.hok.kept k)
theorem Inv.laid {a:Addr} {o:HO} {t':Nat} (I:Inv X pins σ H s) (k:∀ b u,s.heap.get? b=some u→h'.get? b=some u) (hp:s.heap.objs.size≤a) (new:ObjOk X.prog X.w (upd H a o) h' a o):
  Inv X pins σ (upd H a o) { s with heap:=h',toks:=t' }:=I.un (Un.laid k hp (I.hok.fresh hp)) (I.hok.laid k hp new)
theorem Inv.write {x e:Addr} {o:HO} {t':Nat} (I:Inv X pins σ H s) (mu:Mut (H x)) (he:e=x∨H e=some (.own x)) (k:∀ b u,b≠e→s.heap.get? b=some u→h'.get? b=some u) (heo:∃ u,h'.get? e=some u)
  (new:ObjOk X.prog X.w (upd H x o) h' x o):Inv X pins σ (upd H x o) { s with heap:=h',toks:=t' }:=I.un (Un.write mu he k heo) (I.hok.write mu he k heo new)
theorem Inv.weak {σ':List (Option V)} (I:Inv X pins σ H s) (hl:σ'.length=σ.length) (w:∀ (i:Nat) v,σ'[i]? = some (some v)→σ[i]? = some (some v)):Inv X pins σ' H s:=
 ⟨I.ok,I.os,I.bare,I.base,let ⟨m,hn,hl'⟩:=I.loc; ⟨m,hn,fun i x v e1 e2 e3=>hl' i x v e1 (w i v e2) e3⟩,I.cell,I.free,I.freeC,I.pin,I.hok,hl.trans I.len⟩
theorem Inv.pins_of {pins':List (Addr × Obj)} (I:Inv X pins σ H s) (h:∀ p∈pins',s.heap.get? p.1=some p.2∧H p.1=none∧p.1≠X.env.locals∧p.1∉X.fs∧∀ v,p.2.data≠.cell v):Inv X pins' σ H s:=
 ⟨I.ok,I.os,I.bare,I.base,I.loc,I.cell,I.free,I.freeC,fun p hp=>(List.mem_append.mp hp).elim (fun z=>I.pin p (List.mem_append_left _ z)) (h p),I.hok,I.len⟩
theorem nw {N:List Str} (hN:N.Nodup) {i j:Nat} {x:Str} (a:N[i]? = some x) (b:N[j]? = some x):i=j:=by
 obtain ⟨h1,e1⟩:=List.getElem?_eq_some_iff.mp a
 obtain ⟨h2,e2⟩:=List.getElem?_eq_some_iff.mp b
 exact (List.getElem_inj hN).mp (e1.trans e2.symm)
theorem kN {M:Model} {A:Around} {E:Value→Shared→Prop} {i:Nat} {x:Str} {v:V} {u:Value} {Q:Unit→Shared→Prop} (I:Inv X pins σ H s) (hN:X.N.Nodup) (hi:X.N[i]? = some x) (hx:Loc X.env.scope x) (r:RelV v u)
  (h:∀ s',Inv X pins (σ.set i (some v)) H s'→(∃ a,Heap.SameBut a s.heap s'.heap∧(a=X.env.locals∨X.env.cells.lookup x=some a))→Q () s') (hf:X.fn x=true∨X.env.scope.names.lookup x=some .local:=by first | exact .inl rfl | exact .inr rfl | assumption):wpAny M A (storeName X.env x u) Q E s:=by
 obtain ⟨m,hn,hl⟩:=id I.loc
 have hcls:(X.env.scope.kind == .class || (X.env.scope.kind == .module && X.env.locals != X.env.globals))=false:=by rw [I.ok.kind]; rfl
 have hiσ:i<σ.length:=by rw [I.len]; exact (List.getElem?_eq_some_iff.mp hi).1
 have cne:=I.cne
 have tracked:∀ {a:Addr} {h':Heap},(∃ o,s.heap.get? a=some o∧H a=none)→Heap.SameBut a s.heap h'→HOk X.prog X.w H h':=fun {a h'} ha hs b ob e=>by
  obtain ⟨_,_,hfree⟩:=ha
  refine (I.hok b ob e).stay (fun c w' hc q=>(hs.2 c ?_).trans q) (fun _ q=>q) fun _ _ q=>q
  rintro rfl
  rcases hc with rfl | hc
  ·rw [hfree] at e; cases e
  ·rw [hfree] at hc; cases hc
 rcases hx with hk | hk
 ·refine wpAny_storeName_local hk hn (fun h' hn' hs=>?_) hcls
  obtain ⟨oL,_,_,hoL,_⟩:=id hn
  refine h _ ⟨I.ok,I.os,I.bare,⟨fun b o e n hb hx=>?_,fun b o e n hb hx=>?_,I.base.free,fun b o e hx=>?_,I.base.tups,I.base.frzs,I.base.tbls⟩,⟨_,hn',fun j y v' e1 e2 e3=>?_⟩,fun y c e=>?_,I.free,I.freeC,fun p hp=>?_,tracked ⟨oL,hoL,I.free⟩ hs,by simpa using I.len⟩ ⟨_,hs,.inl rfl⟩
  ·exact (hs.2 b (Nat.ne_of_lt (Nat.lt_of_lt_of_le (Heap.lt_size e) I.ok.above))).trans (I.base.keep b o e n hb hx)
  ·obtain ⟨sl,e1⟩:=I.base.slot b o e n hb hx
   exact ⟨sl,(hs.2 b (Nat.ne_of_lt (Nat.lt_of_lt_of_le (Heap.lt_size e) I.ok.above))).trans e1⟩
  ·obtain ⟨o',e1⟩:=I.base.there b o e hx
   exact ⟨o',(hs.2 b (Nat.ne_of_lt (Nat.lt_of_lt_of_le (Heap.lt_size e) I.ok.above))).trans e1⟩
  ·by_cases hj:j=i
   ·subst hj
    rw [hi] at e1; cases e1
    rw [List.getElem?_set_self hiσ] at e2
    cases e2
    exact ⟨u,r,.inl ⟨hk,by simp⟩⟩
   ·rw [List.getElem?_set_ne (Ne.symm hj)] at e2
    obtain ⟨u',r',q⟩:=hl j y v' e1 e2 e3
    refine ⟨u',r',?_⟩
    rcases q with ⟨k,e⟩ | ⟨k,c,e,z⟩
    ·refine .inl ⟨k,?_⟩
     have:y≠x:=fun e=>hj (nw hN e1 (e ▸ hi))
     simp [this,e]
    ·exact .inr ⟨k,c,e,z.sameBut hs (cne y c e)⟩
  ·obtain ⟨w',z⟩:=I.cell y c e
   exact ⟨w',z.sameBut hs (cne y c e)⟩
  ·obtain ⟨e,n,ne,nf,d⟩:=I.pin p hp
   exact ⟨(hs.2 p.1 ne).trans e,n,ne,nf,d⟩
 ·have hfn:X.fn x=true:=by
   rcases hf with z | z
   ·exact z
   ·rw [z] at hk; cases hk
  obtain ⟨c,hc⟩:=I.ok.has x (.inl hk)
  obtain ⟨w',z⟩:=I.cell x c hc
  refine wpAny_storeName_cell I.ok.kind hk hc z (fun h' hc' hs=>?_)
  obtain ⟨oc,hoc,hocd⟩:=id z
  refine h { s with heap:=h' } ⟨I.ok,I.os,I.bare,⟨fun b o e n hb hx=>?_,fun b o e n hb hx=>?_,I.base.free,fun b o e hx=>?_,I.base.tups,I.base.frzs,I.base.tbls⟩,⟨m,hn.sameBut hs (Ne.symm (cne x c hc)),fun j y v' e1 e2 e3=>?_⟩,fun y c' e=>?_,I.free,I.freeC,fun p hp=>?_,tracked ⟨oc,hoc,I.freeC x c hc⟩ hs,by simpa using I.len⟩ ⟨c,hs,.inr hc⟩
  ·exact (hs.2 b (Nat.ne_of_lt (Nat.lt_of_lt_of_le (Heap.lt_size e) (I.ok.cab x c hfn hc)))).trans (I.base.keep b o e n hb hx)
  ·obtain ⟨sl,e1⟩:=I.base.slot b o e n hb hx
   exact ⟨sl,(hs.2 b (Nat.ne_of_lt (Nat.lt_of_lt_of_le (Heap.lt_size e) (I.ok.cab x c hfn hc)))).trans e1⟩
  ·obtain ⟨o',e1⟩:=I.base.there b o e hx
   exact ⟨o',(hs.2 b (Nat.ne_of_lt (Nat.lt_of_lt_of_le (Heap.lt_size e) (I.ok.cab x c hfn hc)))).trans e1⟩
  ·by_cases hj:j=i
   ·subst hj
    rw [hi] at e1; cases e1
    rw [List.getElem?_set_self hiσ] at e2
    cases e2
    exact ⟨u,r,.inr ⟨.inl hk,c,hc,hc'⟩⟩
   ·rw [List.getElem?_set_ne (Ne.symm hj)] at e2
    obtain ⟨u',r',q⟩:=hl j y v' e1 e2 e3
    refine ⟨u',r',?_⟩
    rcases q with q | ⟨k,c',e,z'⟩
    ·exact .inl q
    ·refine .inr ⟨k,c',e,z'.sameBut hs ?_⟩
     rintro rfl
     exact hj (nw hN e1 (I.ok.inj _ _ _ e hc ▸ hi))
  ·by_cases hcc:c'=c
   ·subst hcc; exact ⟨_,hc'⟩
   ·obtain ⟨w2,z2⟩:=I.cell y c' e
    exact ⟨w2,z2.sameBut hs hcc⟩
  ·obtain ⟨e,n,ne,nf,d⟩:=I.pin p hp
   refine ⟨(hs.2 p.1 ?_).trans e,n,ne,nf,d⟩
   intro q
   rw [q,hoc] at e
   have q':oc=p.2:=Option.some.inj e
   exact d w' (by rw [← q']; exact hocd)
theorem ue {M:Model} {A:Around} {E:Value→Shared→Prop} {i:Nat} {x:Str} {v:V} {u:Value} {Q:Unit→Shared→Prop} (I:Inv X pins σ H s) (hN:X.N.Nodup) (hi:X.N[i]? = some x) (hx:Loc X.env.scope x) (r:RelV v u)
  (h:∀ s',Inv X pins (σ.set i (some v)) H s'→Q () s') (hf:X.fn x=true∨X.env.scope.names.lookup x=some .local:=by first | exact .inl rfl | exact .inr rfl | assumption):wpAny M A (storeName X.env x u) Q E s:=
 kN I hN hi hx r (fun s' I' _=>h s' I') hf
theorem Inv.call' {s':Shared} {ch:List Addr} (I:Inv X pins σ H s) (ho:s'.os=s.os) (u:Un (frs X.stack) ch H H' s.heap s'.heap) (hok:HOk X.prog X.w H' s'.heap) (hg:AllBare s'.gens)
  (hch:∀ b∈ch,(b∈X.ex∨X.s₀.heap.objs.size≤b)∧b≠X.env.locals∧(∀ x c,X.env.cells.lookup x=some c→c≠b)∧∀ p∈X.pn++pins,p.1≠b):Inv X pins σ H' s':=by
 obtain ⟨h',g',d',t',o'⟩:=s'
 have e:o'=s.os:=ho
 subst e
 exact I.call (g':=g') (t':=t') (d':=d') u hok hg hch
end
abbrev XK:=Value→Option Addr→Hp→Prop
abbrev St:=List (Option V)
abbrev VK:=V→Hp→Prop
abbrev TE:=St→Hp→VK→Prop
abbrev TT:=St→Hp→(Bool→Hp→Prop)→Prop
abbrev TA:=St→Hp→(List V→Hp→Prop)→Prop
structure ua where
 nx:St→Hp→Prop
 rt:VK
 bk:St→Hp→Prop:=fun _ _=>False
 ct:St→Hp→Prop:=fun _ _=>False
abbrev TS:=ua→St→Hp→Prop
def EP (X:Cx) (pins:List (Addr × Obj)) (σ:St) (Q:VK) (u:Value) (s':Shared):Prop:=∃ v H',Inv X pins σ H' s'∧RelV v u∧Q v H'
def TP (X:Cx) (pins:List (Addr × Obj)) (σ:St) (Q:Bool→Hp→Prop) (b:Bool) (s':Shared):Prop:=∃ H',Inv X pins σ H' s'∧Q b H'
def AP (X:Cx) (pins:List (Addr × Obj)) (σ:St) (Q:List V→Hp→Prop) (us:List Value) (s':Shared):Prop:=∃ vs H',Inv X pins σ H' s'∧Vals vs us∧Q vs H'
def SP (X:Cx) (pins:List (Addr × Obj)) (D:ua) (f:Flow) (s':Shared):Prop:=
 match f with
 | .next=>∃ σ' H',Inv X pins σ' H' s'∧D.nx σ' H'
 | .brk=>∃ σ' H',Inv X pins σ' H' s'∧D.bk σ' H'
 | .cont=>∃ σ' H',Inv X pins σ' H' s'∧D.ct σ' H'
 | .ret u=>∃ v σ' H',Inv X pins σ' H' s'∧RelV v u∧D.rt v H'
def PE (X:Cx) (e:Expr) (t:TE):Prop:=
 ∀ (pins:List (Addr × Obj)) (s:Shared) (σ:St) (H:Hp) (Q:VK),Inv X pins σ H s→t σ H Q→wpAny (model X.prog X.w) X.A (eval e X.env) (EP X pins σ Q) X.xe s
def PT (X:Cx) (e:Expr) (t:TT):Prop:=
 ∀ (pins:List (Addr × Obj)) (s:Shared) (σ:St) (H:Hp) (Q:Bool→Hp→Prop),Inv X pins σ H s→t σ H Q→wpAny (model X.prog X.w) X.A (isTrue e X.env (eval e X.env)) (TP X pins σ Q) X.xe s
def PW (X:Cx) (e:Expr) (t:TT):Prop:=
 ∀ (whole:Sem Value) (pins:List (Addr × Obj)) (s:Shared) (σ:St) (H:Hp) (Q:Bool→Hp→Prop),Inv X pins σ H s→t σ H Q→wpAny (model X.prog X.w) X.A (isTrue e X.env whole) (TP X pins σ Q) X.xe s
theorem PW.pt {X:Cx} {e:Expr} {t:TT} (h:PW X e t):PT X e t:=h _
def PA (X:Cx) (es:List Expr) (t:TA):Prop:=
 ∀ (pos:Pos) (pins:List (Addr × Obj)) (s:Shared) (σ:St) (H:Hp) (Q:List V→Hp→Prop),Inv X pins σ H s→t σ H Q→wpAny (model X.prog X.w) X.A (spliced (backTo pos (starEach es X.env))) (AP X pins σ Q) X.xe s
def PS (X:Cx) (st:Stmt) (t:TS):Prop:=
 ∀ (pins:List (Addr × Obj)) (s:Shared) (σ:St) (H:Hp) (D:ua),Inv X pins σ H s→t D σ H→wpAny (model X.prog X.w) X.A (exec st X.env) (SP X pins D) X.xe s
def PSs (X:Cx) (st:List Stmt) (t:TS):Prop:=
 ∀ (pins:List (Addr × Obj)) (s:Shared) (σ:St) (H:Hp) (D:ua),Inv X pins σ H s→t D σ H→wpAny (model X.prog X.w) X.A (execs st X.env) (SP X pins D) X.xe s
theorem thn {α:Type} {t:Sem α} {Q Q':α→Shared→Prop} {M:Model} {A:Around} {E:Value→Shared→Prop} {s:Shared} (h:wpAny M A t Q E s) (hQ:∀ a s,Q a s→Q' a s):wpAny M A t Q' E s:=wpAny_mono h hQ fun _ _ x=>x
end L2
namespace L2
open PySem PySem.Spec PyProof.Rows
section
variable {X:Cx}
theorem bin {a b:Expr} {ta tb:TE} (ha:PE X a ta) (hb:PE X b tb) {pins:List (Addr × Obj)} {s:Shared} {σ:St} {H:Hp} {R:V→V→Hp→Prop} (I:Inv X pins σ H s) (h:ta σ H fun x H1=>tb σ H1 fun y H2=>R x y H2)
  {α:Type} {Q:α→Shared→Prop} {f:Value→Value→Sem α}
  (hf:∀ v u s2 x y H2,Inv X pins σ H2 s2→RelV x v→RelV y u→R x y H2→wpAny (model X.prog X.w) X.A (f v u) Q X.xe s2):
  wpAny (model X.prog X.w) X.A (eval a X.env) (fun v s₁=>wpAny (model X.prog X.w) X.A (eval b X.env) (fun u s₂=>wpAny (model X.prog X.w) X.A (f v u) Q X.xe s₂) X.xe s₁) X.xe s:=by
 refine thn (ha pins s σ H _ I h) fun v s1 ⟨x,H1,I1,r1,q1⟩=>?_
 refine thn (hb pins s1 σ H1 _ I1 q1) fun u s2 ⟨y,H2,I2,r2,q2⟩=>?_
 exact hf v u s2 x y H2 I2 r1 r2 q2
def cX (i:Nat):TE:=fun σ H Q=>∃ v,σ[i]? = some (some v)∧Q v H
def tC (v:V):TE:=fun _ H Q=>Q v H
theorem zQ {i:Nat} {x:Str} {pos:Pos} (hN:X.N[i]? = some x) (hv:Vis X.env.scope x) (hd:(x == ("__debug__":Str))=false:=by decide) (hcd:(x == ("__classdict__":Str))=false:=by decide):PE X (.Name x pos) (cX i):=by
 intro pins s σ H Q I h
 obtain ⟨v,e,h⟩:=h
 obtain ⟨m,hn,hl⟩:=I.loc
 obtain ⟨u,r,l⟩:=hl i x v hN e hv
 have fin:EP X pins σ Q u s:=⟨v,H,I,r,h⟩
 rcases l with ⟨hk,hm⟩ | ⟨hk,c,hc,hcell⟩
 ·exact wpAny_Name (wpAny_loadName_local I.ok.kind hk hn hm fin) hd
 ·rcases hk with hk | hk
  ·exact wpAny_Name (wpAny_loadName_cell I.ok.kind hk hc hcell fin) hd
  ·exact wpAny_Name (wpAny_loadName_free I.ok.kind hk hc hcell fin hcd) hd
theorem rA {i j pos}:PE X (.Constant (.int i) j pos) (tC (.int i)):=fun _ _ _ H _ I h=>wpAny_Constant_int ⟨.int i,H,I.tok _,⟨_,rfl⟩,h⟩
theorem SC {b j pos}:PE X (.Constant (.bool b) j pos) (tC (.bl b)):=fun _ _ _ H _ I h=>Constant_bool ⟨.bl b,H,I,rfl,h⟩
theorem WK {j pos}:PE X (.Constant .none j pos) (tC .non):=fun _ _ _ H _ I h=>Constant_none ⟨.non,H,I,rfl,h⟩
theorem pZ {x j pos}:PE X (.Constant (.str x) j pos) (tC (.str x)):=fun _ _ _ H _ I h=>Calls.Constant_str ⟨.str x,H,I.tok _,⟨_,rfl⟩,h⟩
def Gl (X:Cx) (x:Str):Prop:=X.env.kindOf x=some .globalImplicit
theorem vi {E:Value→Shared→Prop} {pins:List (Addr × Obj)} {s:Shared} {σ:St} {H:Hp} {x:Str} {u:Value} {pos:Pos} {Q:Value→Shared→Prop} (I:Inv X pins σ H s) (hg:Gl X x) (hm:X.mg x=some u) (h:Q u s)
  (hd:(x == ("__debug__":Str))=false:=by decide):wpAny (model X.prog X.w) X.A (eval (.Name x pos) X.env) Q E s:=
 Calls.Name_function_global I.ok.kind hg (Calls.loadGlobal_global (by rw [I.ok.glob]; exact I.mod.glob.keeps I.bk) hm h) hd
theorem vO {E:Value→Shared→Prop} {pins:List (Addr × Obj)} {s:Shared} {σ:St} {H:Hp} {x:Str} {u:Value} {pos:Pos} {Q:Value→Shared→Prop} (I:Inv X pins σ H s) (hg:Gl X x) (hm:X.mg x=none) (hv:bootBuiltins x=some u) (h:Q u s)
  (hn:x≠"__name__":=by decide) (hd:(x == ("__debug__":Str))=false:=by decide):wpAny (model X.prog X.w) X.A (eval (.Name x pos) X.env) Q E s:=by
 obtain ⟨mb,h1,h2⟩:=I.mod.blt
 exact Calls.Name_function_global I.ok.kind hg (Calls.loadGlobal_builtin (by rw [I.ok.glob]; exact I.mod.glob.keeps I.bk) hm (by rw [I.ok.blt]; exact h1.keeps I.bk) ((h2 x hn).trans hv) h) hd
theorem p7 {x:Str} {v:V} {u:Value} {pos:Pos} (hg:Gl X x) (hm:X.mg x=some u) (r:RelV v u) (hd:(x == ("__debug__":Str))=false:=by decide):PE X (.Name x pos) (tC v):=
 fun _ _ _ H _ I h=>vi I hg hm ⟨v,H,I,r,h⟩ hd
theorem bA {x:Str} {v:V} {u:Value} {pos:Pos} (hg:Gl X x) (hm:X.mg x=none) (hv:bootBuiltins x=some u) (r:RelV v u) (hn:x≠"__name__":=by decide) (hd:(x == ("__debug__":Str))=false:=by decide):PE X (.Name x pos) (tC v):=
 fun _ _ _ H _ I h=>vO I hg hm hv ⟨v,H,I,r,h⟩ hn hd
variable {a b:Expr} {ta tb:TE} {pos:Pos}
def PC (X:Cx) (op:CmpOp) (a b:Expr) (t:TE):Prop:=
 ∀ (pins:List (Addr × Obj)) (s:Shared) (σ:St) (H:Hp) (Q:VK),Inv X pins σ H s→t σ H Q→
  wpAny (model X.prog X.w) X.A (eval a X.env) (fun v s₁=>wpAny (model X.prog X.w) X.A (eval b X.env) (fun u s₂=>wpAny (model X.prog X.w) X.A (compareOp op v u) (EP X pins σ Q) X.xe s₂) X.xe s₁) X.xe s
theorem nA (b:Expr) {op:CmpOp} (h:op≠.In) (h2:op≠.NotIn):behindInMarks op b=false:=by
 have e1:(op == CmpOp.In)=false:=by cases op <;> first | rfl | exact absurd rfl h
 have e2:(op == CmpOp.NotIn)=false:=by cases op <;> first | rfl | exact absurd rfl h2
 cases b <;> simp [behindInMarks,e1,e2]
def Sk (ta:TE):TE:=fun σ H Q=>ta σ H fun x H1=>Q (.bl (decide (x=.non))) H1
def Sg (ta:TE):TE:=fun σ H Q=>ta σ H fun x H1=>Q (.bl (!decide (x=.non))) H1
theorem RelV.none_iff {x:V} {v:Value} (r:RelV x v):(v == Value.none)=decide (x=.non):=by
 cases x with
 | non=>cases r; rfl
 | bl _=>cases r; rfl
 | int _=>obtain ⟨t,rfl⟩:=r; rfl
 | str _=>obtain ⟨t,rfl⟩:=r; rfl
 | byt _=>obtain ⟨t,rfl⟩:=r; rfl
 | flt _=>obtain ⟨t,rfl⟩:=r; rfl
 | ref _=>cases r; rfl
 | ty _=>cases r; rfl
theorem iV {j pos'} (ha:PE X a ta):PC X .Is a (.Constant .none j pos') (Sk ta):=by
 intro pins s σ H Q I h
 refine thn (ha pins s σ H _ I h) fun v s1 ⟨x,H1,I1,r1,q1⟩=>?_
 exact Constant_none (is_none_gen ⟨.bl _,H1,I1,by rw [r1.none_iff]; rfl,q1⟩)
theorem bB {j pos'} (ha:PE X a ta):PC X .IsNot a (.Constant .none j pos') (Sg ta):=by
 intro pins s σ H Q I h
 refine thn (ha pins s σ H _ I h) fun v s1 ⟨x,H1,I1,r1,q1⟩=>?_
 exact Constant_none (isnot_none_gen ⟨.bl _,H1,I1,by rw [r1.none_iff]; rfl,q1⟩)
def tB (t:TE):TT:=fun σ H Q=>t σ H fun x H1=>∃ c,x=.bl c∧Q c H1
theorem iU {op:CmpOp} {t:TE} (h:PC X op a b t) (h1:behindInMarks op b=false:=by first | exact nA _ (by decide) (by decide) | rfl):PE X (.Compare a [op] [b] pos) t:=fun pins s σ H Q I hw=>wpAny_Compare1 (h pins s σ H Q I hw) h1
theorem iH {op:CmpOp} {t:TE} (h:PC X op a b t) (h1:behindInMarks op b=false:=by first | exact nA _ (by decide) (by decide) | rfl):PT X (.Compare a [op] [b] pos) (tB t):=by
 intro pins s σ H Q I hw
 refine wpAny_isTrue_Compare1 (thn (h pins s σ H _ I hw) fun v s1 h1=>thn h1 fun u s2 h2=>thn h2 fun c s3 ⟨x,H1,I1,r1,q1⟩=>?_) h1
 obtain ⟨d,rfl,q⟩:=q1
 cases r1
 exact wpAny_truthy_bool ⟨H1,I1,q⟩
theorem WC {e:Expr} {t:TE} (h:PE X e t) (he:∀ whole,isTrue e X.env whole=(do let v ← whole; standAt e.pos; holding [v] (truthy v)):=by intro _; rfl):PT X e (tB t):=by
 intro pins s σ H Q I hw
 refine isTrue_plain (thn (h pins s σ H _ I hw) fun v s1 ⟨x,H1,I1,r1,q1⟩=>?_) (he _)
 obtain ⟨d,rfl,q⟩:=q1
 cases r1
 exact wpAny_truthy_bool ⟨H1,I1,q⟩
variable {tA tB':TT} {yU:List Expr}
def Qp (t u:TT):TT:=fun σ H Q=>t σ H fun c H1=>if c=true then u σ H1 Q else Q false H1
def tOr (t u:TT):TT:=fun σ H Q=>t σ H fun c H1=>if c=true then Q true H1 else u σ H1 Q
def Qe (t:TT):TT:=fun σ H Q=>t σ H fun c H1=>Q (!c) H1
theorem bn (ha:PT X a tA):PW X (.BoolOp .And [a] pos) tA:=by
 intro wh pins s σ H Q I h
 refine isTrue_and (thn (ha pins s σ H Q I h) fun c s1 e=>?_)
 cases c with
 | true=>exact isTrue_and_nil e
 | false=>exact e
theorem WA (ha:PT X a tA):PW X (.BoolOp .Or [a] pos) tA:=by
 intro wh pins s σ H Q I h
 refine isTrue_or (thn (ha pins s σ H Q I h) fun c s1 e=>?_)
 cases c with
 | false=>exact isTrue_or_nil e
 | true=>exact e
theorem WB (ha:PT X a tA) (hb:PW X (.BoolOp .And (b::yU) pos) tB'):PW X (.BoolOp .And (a::b::yU) pos) (Qp tA tB'):=by
 intro wh pins s σ H Q I h
 refine isTrue_and (thn (ha pins s σ H _ I h) fun c s1 ⟨H1,I1,q1⟩=>?_)
 cases c with
 | true=>exact hb wh pins s1 σ H1 Q I1 q1
 | false=>exact ⟨H1,I1,q1⟩
theorem Sy (ha:PT X a tA) (hb:PW X (.BoolOp .Or (b::yU) pos) tB'):PW X (.BoolOp .Or (a::b::yU) pos) (tOr tA tB'):=by
 intro wh pins s σ H Q I h
 refine isTrue_or (thn (ha pins s σ H _ I h) fun c s1 ⟨H1,I1,q1⟩=>?_)
 cases c with
 | true=>exact ⟨H1,I1,q1⟩
 | false=>exact hb wh pins s1 σ H1 Q I1 q1
theorem WD (ha:PT X a tA):PT X (.UnaryOp .Not a pos) (Qe tA):=by
 intro pins s σ H Q I h
 exact isTrue_not (ha pins s σ H (fun c H1=>Q (!c) H1) I h)
def Ss (ta tb:TE):TE:=fun σ H Q=>ta σ H fun x H1=>∃ c,x=.bl c∧if c=true then tb σ H1 Q else Q (.bl false) H1
def Sf (ta:TE):TE:=fun σ H Q=>ta σ H fun x H1=>∃ c,x=.bl c∧Q (.bl (!c)) H1
theorem WI {op} {t:TE} (h:PE X a t):PE X (.BoolOp op [a] pos) t:=fun pins s σ H Q I hw=>BoolOp_one (h pins s σ H Q I hw)
theorem WN (ha:PE X a ta) (hb:PE X (.BoolOp .And (b::yU) pos) tb):PE X (.BoolOp .And (a::b::yU) pos) (Ss ta tb):=by
 intro pins s σ H Q I h
 refine BoolOp_and (thn (ha pins s σ H _ I h) fun v s1 ⟨x,H1,I1,r1,q1⟩=>?_)
 obtain ⟨c,rfl,q1⟩:=q1
 cases r1
 refine wpAny_truthy_bool ?_
 cases c with
 | true=>exact hb pins s1 σ H1 Q I1 q1
 | false=>exact ⟨.bl false,H1,I1,rfl,q1⟩
theorem WJ (ha:PE X a ta):PE X (.UnaryOp .Not a pos) (Sf ta):=by
 intro pins s σ H Q I h
 refine UnaryOp_ (thn (ha pins s σ H _ I h) fun v s1 ⟨x,H1,I1,r1,q1⟩=>?_)
 obtain ⟨c,rfl,q1⟩:=q1
 cases r1
 exact not_of (wpAny_truthy_bool ⟨.bl (!c),H1,I1,rfl,q1⟩)
end
end L2
namespace L2
open PySem PySem.Spec PyProof.Rows
def SqL (K:PySem.W.Frag) (H:Hp) (a:Addr) (xs:List V):Prop:=
 Rd H a (.lst xs)∨
  ∃ (o:Obj) (its:Array Value) (n:Nat),K.lookup a=some o∧o.cls=.type "list"∧o.dict=none∧o.data=.seq its n∧its.size≤sizeLine∧Vals xs its.toList
def SqT (K:PySem.W.Frag) (H:Hp) (a:Addr) (xs:List V):Prop:=
 Rd H a (.tup xs)∨
  ∃ (o:Obj) (its:Array Value) (n:Nat),K.lookup a=some o∧o.cls=.type "tuple"∧o.data=.seq its n∧its.size≤sizeLine∧Vals xs its.toList
def Pc:Value→Option V
 | .none=>some .non
 | .bool b=>some (.bl b)
 | .int i _=>some (.int i)
 | .str x _=>some (.str x)
 | .bytes b _=>some (.byt b)
 | .float b _=>some (.flt b)
 | .ref a=>some (.ref a)
 | .type n=>some (.ty n)
 | _=>none
theorem RelV.abs {x:V} {u:Value} (r:RelV x u):Pc u=some x:=by
 cases x with
 | non=>cases r; rfl
 | bl _=>cases r; rfl
 | int _=>obtain ⟨t,rfl⟩:=r; rfl
 | str _=>obtain ⟨t,rfl⟩:=r; rfl
 | byt _=>obtain ⟨t,rfl⟩:=r; rfl
 | flt _=>obtain ⟨t,rfl⟩:=r; rfl
 | ref _=>cases r; rfl
 | ty _=>cases r; rfl
theorem RelV.inj {x y:V} {u:Value} (r:RelV x u) (q:RelV y u):x=y:=Option.some.inj (r.abs.symm.trans q.abs)
theorem Vals.inj:∀ {xs ys:List V} {us:List Value},Vals xs us→Vals ys us→xs=ys
 | _,_,_,.nil,.nil=>rfl
 | _,_,_,.cons r t,.cons r' t'=>by rw [r.inj r',Vals.inj t t']
section
variable {X:Cx} {pins:List (Addr × Obj)} {σ:St} {H:Hp} {s:Shared} {a:Addr} {xs ys:List V}
theorem SqL.of {K:PySem.W.Frag} (h:H a=some (.lst xs)):SqL K H a xs:=.inl (.inl h)
theorem SqT.of {K:PySem.W.Frag} (h:H a=some (.tup xs)):SqT K H a xs:=.inl (.inl h)
theorem Inv.list (I:Inv X pins σ H s) (h:SqL X.K H a xs):∃ its:List Value,Vals xs its∧PlainL s.heap a its.toArray∧xs.length≤sizeLine:=by
 rcases h with h | ⟨o,its,n,hk,hc,hd,hs,hz,r⟩
 ·obtain ⟨z,its,n,r,e⟩:=h.ok I.hok
  exact ⟨its,r,⟨_,n,e,rfl,rfl,rfl⟩,z⟩
 ·refine ⟨its.toList,r,⟨o,n,I.kIn a o hk,hc,hd,by simpa using hs⟩,?_⟩
  have e:=r.length
  simp only [Array.length_toList] at e
  omega
theorem Inv.tuple (I:Inv X pins σ H s) (h:SqT X.K H a xs):∃ its:List Value,Vals xs its∧IsTup s.heap a its.toArray∧xs.length≤sizeLine:=by
 rcases h with h | ⟨o,its,n,hk,hc,hs,hz,r⟩
 ·obtain ⟨z,its,r,p⟩:=h.ok I.hok
  exact ⟨its,r,p,z⟩
 ·refine ⟨its.toList,r,⟨o,I.kIn a o hk,hc,n,by simpa using hs⟩,?_⟩
  have e:=r.length
  simp only [Array.length_toList] at e
  omega
theorem Inv.list_inj (I:Inv X pins σ H s) (h:SqL X.K H a xs) (h':SqL X.K H a ys):xs=ys:=by
 obtain ⟨its,r,⟨o,n,e,_,_,d⟩,_⟩:=I.list h
 obtain ⟨its',r',⟨o',n',e',_,_,d'⟩,_⟩:=I.list h'
 rw [e] at e'; cases e'
 rw [d] at d'
 injection d' with d1 _
 have:its=its':=by simpa using congrArg Array.toList d1
 subst this
 exact r.inj r'
end
abbrev Cx.wish (X:Cx) (E:Value→Shared→Prop):Cx:={ X with xe:=E }
abbrev Cx.nox (X:Cx):Cx:=X.wish fun _ _=>False
theorem Cx.Ok.wish {X:Cx} (ok:X.Ok) (E:Value→Shared→Prop):(X.wish E).Ok:=
 ⟨ok.mod,ok.kind,ok.glob,ok.blt,ok.above,ok.inj,ok.has,ok.cab,ok.hd,ok.frames,ok.stk,ok.exf,ok.bs,ok.bsz,ok.noex,ok.exfs,ok.funs,ok.frf⟩
theorem Cx.Ok.unwish {X:Cx} {E:Value→Shared→Prop} (ok:(X.wish E).Ok):X.Ok:=
 ⟨ok.mod,ok.kind,ok.glob,ok.blt,ok.above,ok.inj,ok.has,ok.cab,ok.hd,ok.frames,ok.stk,ok.exf,ok.bs,ok.bsz,ok.noex,ok.exfs,ok.funs,ok.frf⟩
section
variable {X:Cx} {pins:List (Addr × Obj)} {σ:St} {H:Hp} {s:Shared} {E:Value→Shared→Prop}
theorem Inv.wish (I:Inv X pins σ H s) (E:Value→Shared→Prop):Inv (X.wish E) pins σ H s:=⟨I.ok.wish E,I.os,I.bare,I.base,I.loc,I.cell,I.free,I.freeC,I.pin,I.hok,I.len⟩
theorem Inv.unwish (I:Inv (X.wish E) pins σ H s):Inv X pins σ H s:=⟨I.ok.unwish,I.os,I.bare,I.base,I.loc,I.cell,I.free,I.freeC,I.pin,I.hok,I.len⟩
theorem SP.unwish {D:ua} {f:Flow} {s':Shared} (h:SP (X.wish E) pins D f s'):SP X pins D f s':=by
 cases f with
 | next=>obtain ⟨σ',H',I,q⟩:=h; exact ⟨σ',H',I.unwish,q⟩
 | brk=>obtain ⟨σ',H',I,q⟩:=h; exact ⟨σ',H',I.unwish,q⟩
 | cont=>obtain ⟨σ',H',I,q⟩:=h; exact ⟨σ',H',I.unwish,q⟩
 | ret u=>obtain ⟨v,σ',H',I,r,q⟩:=h; exact ⟨v,σ',H',I.unwish,r,q⟩
theorem PE.nox {e:Expr} {t:TE} (h:PE X.nox e t):PE X e t:=fun pins s σ H Q I hw=>
 wpAny_mono (h pins s σ H Q (I.wish _) hw) (fun _ _ ⟨v,H',I',r,q⟩=>⟨v,H',I'.unwish,r,q⟩) fun _ _ z=>False.elim z
theorem PT.nox {e:Expr} {t:TT} (h:PT X.nox e t):PT X e t:=fun pins s σ H Q I hw=>
 wpAny_mono (h pins s σ H Q (I.wish _) hw) (fun _ _ ⟨H',I',q⟩=>⟨H',I'.unwish,q⟩) fun _ _ z=>False.elim z
theorem PSs.nox {st:List Stmt} {t:TS} (h:PSs X.nox st t):PSs X st t:=fun pins s σ H D I hw=>
 wpAny_mono (h pins s σ H D (I.wish _) hw) (fun _ _ q=>q.unwish) fun _ _ z=>False.elim z
end
section
variable {X:Cx} {st:Stmt} {yU:List Stmt} {t u:TS} {e:Expr} {te:TE} {pos:Pos}
def Si:TS:=fun D σ H=>D.nx σ H
def Qb (t u:TS):TS:=fun D σ H=>t { D with nx:=u D } σ H
theorem bp:PSs X [] Si:=fun _ _ σ H _ I h=>wpAny_execs_nil ⟨σ,H,I,h⟩
theorem xp (h1:PS X st t) (h2:PSs X yU u):PSs X (st::yU) (Qb t u):=by
 intro pins s σ H D I h
 refine wpAny_execs_cons (thn (h1 pins s σ H { D with nx:=u D } I h) fun f s1 q=>?_)
 cases f with
 | next=>
  obtain ⟨σ',H',I',q⟩:=q
  exact h2 pins s1 σ' H' D I' q
 | ret v=>exact q
 | brk=>exact q
 | cont=>exact q
theorem vg (h1:PS X st t):PSs X [st] t:=by
 intro pins s σ H D I h
 refine wpAny_execs_cons (thn (h1 pins s σ H D I h) fun f s1 q=>?_)
 cases f with
 | next=>exact wpAny_execs_nil q
 | ret v=>exact q
 | brk=>exact q
 | cont=>exact q
theorem Inv.quiet {pins:List (Addr × Obj)} {σ:St} {H:Hp} {s:Shared} (I:Inv X pins σ H s):interactive X.env=false:=by simp [interactive,I.ok.kind]
def Sm (te:TE):TS:=fun D σ H=>te σ H fun _ H1=>D.nx σ H1
theorem sL (he:PE X e te) (hs:swapsWith e none pos.line X.env=pure false:=by rfl):PS X (.Expr e pos) (Sm te):=by
 intro pins s σ H D I h
 exact wpAny_Expr_any (thn (he pins s σ H _ I h) fun v s1 ⟨x,H1,I1,r1,q1⟩=>⟨σ,H1,I1,q1⟩) I.quiet hs
def Qc (te:TE):TS:=fun D σ H=>te σ H D.rt
theorem tm (he:PE X e te):PS X (.Return (some e) pos) (Qc te):=by
 intro pins s σ H D I h
 exact wpAny_Return_some (thn (he pins s σ H _ I h) fun v s1 ⟨x,H1,I1,r1,q1⟩=>⟨x,σ,H1,I1,r1,q1⟩)
def Qg (c:TT) (t u:TS):TS:=fun D σ H=>c σ H fun b H1=>if b=true then t D σ H1 else u D σ H1
theorem Sz {c:Expr} {a b:List Stmt} {tc:TT} (hc:PT X c tc) (ha:PSs X a t) (hb:PSs X b u):PS X (.If c a b pos) (Qg tc t u):=by
 intro pins s σ H D I h
 refine wpAny_If (thn (hc pins s σ H _ I h) fun d s1 ⟨H1,I1,q1⟩=>?_)
 cases d with
 | true=>exact ha pins s1 σ H1 D I1 q1
 | false=>exact hb pins s1 σ H1 D I1 q1
def Wt:TS:=fun _ _ _=>False
theorem iL:PS X st Wt:=fun _ _ _ _ _ _ h=>h.elim
end
abbrev TG:=V→St→Hp→(St→Hp→Prop)→Prop
abbrev TGs:=List V→St→Hp→(St→Hp→Prop)→Prop
def PG (X:Cx) (target:Expr) (t:TG):Prop:=
 ∀ (pins:List (Addr × Obj)) (s:Shared) (σ:St) (H:Hp) (v:V) (u:Value) (Q:St→Hp→Prop),Inv X pins σ H s→RelV v u→t v σ H Q→
  wpAny (model X.prog X.w) X.A (assign target X.env u) (fun _ s'=>∃ σ' H',Inv X pins σ' H' s'∧Q σ' H') X.xe s
def PGs (X:Cx) (ts:List Expr) (t:TGs):Prop:=
 ∀ (pins:List (Addr × Obj)) (s:Shared) (σ:St) (H:Hp) (vs:List V) (us:List Value) (Q:St→Hp→Prop),Inv X pins σ H s→Vals vs us→t vs σ H Q→
  wpAny (model X.prog X.w) X.A (assignInOrder ((assignEach ts X.env).map (·.2)) us) (fun _ s'=>∃ σ' H',Inv X pins σ' H' s'∧Q σ' H') X.xe s
abbrev TIp:=V→V→Hp→VK→Prop
def PIp (X:Cx) (op:Operator) (t:TIp):Prop:=
 ∀ (pins:List (Addr × Obj)) (s:Shared) (σ:St) (H:Hp) (x y:V) (v u:Value) (Q:VK),Inv X pins σ H s→RelV x v→RelV y u→t x y H Q→
  wpAny (model X.prog X.w) X.A (inplaceOp op v u) (EP X pins σ Q) X.xe s
section
variable {X:Cx} {pos:Pos}
def dG (i:Nat):TG:=fun v σ H Q=>Q (σ.set i (some v)) H
theorem yM {i:Nat} {x:Str} (hN:X.N.Nodup) (hi:X.N[i]? = some x) (hx:Loc X.env.scope x) (hf:X.fn x=true∨X.env.scope.names.lookup x=some .local:=by first | exact .inl rfl | exact .inr rfl | assumption):PG X (.Name x pos) (dG i):=by
 intro pins s σ H v u Q I r h
 exact wpAny_assign_Name (ue I hN hi hx r (fun s' I'=>⟨_,H,I',h⟩) hf)
def QP:TGs:=fun vs σ H Q=>vs=[]∧Q σ H
def Rr (t:TG) (u:TGs):TGs:=fun vs σ H Q=>∃ v r,vs=v::r∧t v σ H fun σ' H'=>u r σ' H' Q
theorem lY:PGs X [] QP:=by
 intro pins s σ H vs us Q I r h
 obtain ⟨e,h⟩:=h
 subst e
 cases r
 exact assignInOrder_nil ⟨σ,H,I,h⟩
theorem ul {e:Expr} {es:List Expr} {t:TG} {u:TGs} (h1:PG X e t) (h2:PGs X es u)
  (hs:(assignEach (e::es) X.env).map (·.2)=assign e X.env::(assignEach es X.env).map (·.2):=by rfl):PGs X (e::es) (Rr t u):=by
 intro pins s σ H vs us Q I r h
 obtain ⟨v,vr,e1,h⟩:=h
 subst e1
 cases r with
 | cons r rr=>
  rw [hs]
  refine assignInOrder_cons (thn (h1 pins s σ H _ _ _ I r h) fun _ s1 ⟨σ1,H1,I1,q1⟩=>?_)
  exact h2 pins s1 σ1 H1 _ _ Q I1 rr q1
def QN (K:PySem.W.Frag) (n:Nat) (t:TGs):TG:=fun v σ H Q=>∃ a xs,v=.ref a∧SqT K H a xs∧xs.length=n∧t xs σ H Q
theorem iN {es:List Expr} {k:Nat} {t:TGs} {n:Nat} (hc:X.calm=true) (h:PGs X es t)
  (hn:(assignEach es X.env).length=n:=by rfl) (hst:(assignEach es X.env).findIdx? (·.1)=none:=by rfl):PG X (.Tuple es k pos) (QN X.K n t):=by
 intro pins s σ H v u Q I r hw
 obtain ⟨a,xs,e1,hq,hl,hw⟩:=hw
 subst e1
 cases r
 obtain ⟨its,rv,ht,hz⟩:=I.tuple hq
 refine assign_Tuple_tuple (I.ok.hd hc) ht (by simp [hn,← hl,rv.length]) hst fun h' hx=>?_
 have I1:Inv X pins σ H { s with heap:=h' }:=I.kept (t':=s.toks) fun b o e=>hx b o (Nat.ne_of_lt (Heap.lt_size e)) e
 exact h pins _ σ H xs _ Q I1 (by simpa using rv) hw
def Sr (te:TE) (g:TG):TS:=fun D σ H=>te σ H fun x H1=>g x σ H1 D.nx
theorem WG {tg e:Expr} {te:TE} {g:TG} (he:PE X e te) (hg:PG X tg g) (hs:swapsWithSole [tg] e pos.line X.env=pure false:=by rfl) (hw:swappedStores [tg] e X.env=pure none:=by rfl)
  (h1:(assignEach [tg] X.env).map (·.2)=[assign tg X.env]:=by rfl):PS X (.Assign [tg] e pos) (Sr te g):=by
 intro pins s σ H D I h
 refine wpAny_Assign_stores (thn (he pins s σ H _ I h) fun v s1 ⟨x,H1,I1,r1,q1⟩=>?_) hs hw
 rw [h1]
 exact thn (hg pins s1 σ H1 x v _ I1 r1 q1) fun _ s2 q=>q
theorem pW {i:Nat} {x:Str} {e:Expr} {te:TE} {pos':Pos} (hN:X.N.Nodup) (hi:X.N[i]? = some x) (hx:Loc X.env.scope x) (he:PE X e te) (hs:swapsWith e (some (.Name x pos')) pos.line X.env=pure false:=by rfl) (hf:X.fn x=true∨X.env.scope.names.lookup x=some .local:=by first | exact .inl rfl | exact .inr rfl | assumption):
  PS X (.Assign [.Name x pos'] e pos) (Sr te (dG i)):=by
 intro pins s σ H D I h
 refine wpAny_Assign_Name (thn (he pins s σ H _ I h) fun v s1 ⟨y,H1,I1,r1,q1⟩=>?_) hs
 exact ue I1 hN hi hx r1 (fun s2 I2=>⟨_,H1,I2,q1⟩) hf
def Qo (i:Nat) (te:TE) (ti:TIp):TS:=fun D σ H=>∃ x,σ[i]? = some (some x)∧te σ H fun y H1=>ti x y H1 fun z H2=>D.nx (σ.set i (some z)) H2
theorem WF {i:Nat} {x:Str} {e:Expr} {te:TE} {op:Operator} {ti:TIp} {pos':Pos} (hN:X.N.Nodup) (hi:X.N[i]? = some x) (hx:Loc X.env.scope x) (he:PE X e te) (ho:PIp X op ti) (hf:X.fn x=true∨X.env.scope.names.lookup x=some .local:=by first | exact .inl rfl | exact .inr rfl | assumption):
  PS X (.AugAssign (.Name x pos') op e pos) (Qo i te ti):=by
 intro pins s σ H D I h
 obtain ⟨v,e1,h⟩:=h
 obtain ⟨m,hn,hl⟩:=I.loc
 have vis:Vis X.env.scope x:=by rcases hx with k | k; exact .inl k; exact .inr (.inl k)
 obtain ⟨u,r,l⟩:=hl i x v hi e1 vis
 refine wpAny_AugAssign_Name ?_
 have go:wpAny (model X.prog X.w) X.A (eval e X.env) (fun w s₂=>wpAny (model X.prog X.w) X.A (inplaceOp op u w) (fun r s₃=>wpAny (model X.prog X.w) X.A (storeName X.env x r) (fun _=>SP X pins D .next) X.xe s₃) X.xe s₂) X.xe s:=by
  refine thn (he pins s σ H _ I h) fun w s1 ⟨y,H1,I1,r1,q1⟩=>?_
  refine thn (ho pins s1 σ H1 v y u w _ I1 r r1 q1) fun z s2 ⟨zv,H2,I2,r2,q2⟩=>?_
  exact ue I2 hN hi hx r2 (fun s3 I3=>⟨_,H2,I3,q2⟩) hf
 rcases l with ⟨hk,hm⟩ | ⟨hk,c,hc,hcell⟩
 ·exact wpAny_loadName_local I.ok.kind hk hn hm go
 ·rcases hk with hk | hk
  ·exact wpAny_loadName_cell I.ok.kind hk hc hcell go
  ·rcases hx with k | k
   ·have:X.env.scope.names.lookup x=some .free:=hk
    rw [k] at this; cases this
   ·have:X.env.scope.names.lookup x=some .free:=hk
    rw [k] at this; cases this
def ipI (f:Int→Int→Int):TIp:=fun x y H Q=>∃ i j,x=.int i∧y=.int j∧Q (.int (f i j)) H
theorem dw:PIp X .Add (ipI fun i j=>i+j):=by
 intro pins s σ H x y v u Q I r1 r2 h
 obtain ⟨i,j,e1,e2,q⟩:=h
 subst e1; subst e2
 obtain ⟨t,rfl⟩:=r1
 obtain ⟨t',rfl⟩:=r2
 exact iadd_int ⟨.int _,H,I.tok _,⟨_,rfl⟩,q⟩
end
section
variable {X:Cx} {pos:Pos}
def Ws (c:TT) (tb:TS):TS:=fun D σ H=>∃ W:Nat→St→Hp→Prop,(∃ m,W m σ H)∧∀ m σ H,W m σ H→
 c σ H fun b H1=>if b=true then ∃ N:St→Hp→Prop,(∀ σ' H',N σ' H'→∃ m',m'<m∧W m' σ' H')∧tb { D with nx:=N,ct:=N,bk:=D.nx } σ H1 else D.nx σ H1
theorem iI {c:Expr} {body:List Stmt} {tc:TT} {tb:TS} (hp:PassesOwn (model X.prog X.w) X.A X.env X.xe) (hc:PT X c tc) (hb:PSs X body tb):PS X (.While c body [] pos) (Ws tc tb):=by
 intro pins s σ H D I h
 obtain ⟨W,⟨m0,w0⟩,turn⟩:=h
 refine wpAny_While (codeAny_whileLoop (fun n s'=>∃ σ' H',Inv X pins σ' H' s'∧W n σ' H') ?_ m0 ⟨σ,H,I,w0⟩)
 rintro n s1 ⟨σ1,H1,I1,w1⟩
 refine wpAny_passesOwn hp (thn (hc pins s1 σ1 H1 _ I1 (turn n σ1 H1 w1)) fun b s2 ⟨H2,I2,q2⟩=>?_)
 cases b with
 | true=>
  obtain ⟨N,hN,q2⟩:=q2
  rw [if_pos rfl]
  refine wpAny_passesOwn hp (thn (hb pins s2 σ1 H2 _ I2 q2) fun f s3 q3=>?_)
  cases f with
  | next=>
   obtain ⟨σ3,H3,I3,n3⟩:=q3
   obtain ⟨m',hm,w3⟩:=hN σ3 H3 n3
   exact ⟨m',hm,σ3,H3,I3,w3⟩
  | cont=>
   obtain ⟨σ3,H3,I3,n3⟩:=q3
   obtain ⟨m',hm,w3⟩:=hN σ3 H3 n3
   exact ⟨m',hm,σ3,H3,I3,w3⟩
  | brk=>exact q3
  | ret v=>exact q3
 | false=>
  rw [if_neg Bool.false_ne_true]
  exact wpAny_execs_nil ⟨σ1,H2,I2,q2⟩
end
structure It where
 go:Nat→Hp→Prop
 yld:Nat→Hp→V→Hp→Prop
 stop:Nat→Hp→Prop
def vx (X:Cx) (pins:List (Addr × Obj)) (H:Hp) (b:Addr):Prop:=
 H b=none∧b≠X.env.locals∧b∉X.fs∧(b∈X.ex∨X.s₀.heap.objs.size≤b)∧(∀ x c,X.env.cells.lookup x=some c→c≠b)∧∀ p∈X.pn++pins,p.1≠b
theorem Inv.fpOk {X:Cx} {pins:List (Addr × Obj)} {σ:St} {H H':Hp} {s:Shared} {b:Addr} (I:Inv X pins σ H s) (hb:s.heap.objs.size≤b) (hn:H' b=none):vx X pins H' b:=by
 refine ⟨hn,Nat.ne_of_gt (Nat.lt_of_lt_of_le I.lt hb),I.nofs hb,.inr (Nat.le_trans I.sz hb),fun x c e z=>?_,fun p hp z=>?_⟩
 ·obtain ⟨v,q⟩:=I.cell x c e
  exact absurd (Nat.lt_of_lt_of_le q.lt (by rw [z]; exact hb)) (Nat.lt_irrefl _)
 ·exact absurd (Nat.lt_of_lt_of_le (Heap.lt_size (I.pin p hp).1) (by rw [z]; exact hb)) (Nat.lt_irrefl _)
structure lC (P:Program) (w:World) (K:PySem.W.Frag) (tg:Expr) (J:It) (fp:List Addr) (it:Addr) (tn:Nat→Heap→Prop):Prop where
 mem:it∈fp
 obj:∀ i h,tn i h→∀ b∈fp,∃ o,h.get? b=some o∧∀ v,o.data≠.cell v
 keep:∀ i h h',tn i h→(∀ b∈fp,∀ o,h.get? b=some o→h'.get? b=some o)→tn i h'
 item:∀ (X:Cx),X.prog=P→X.w=w→X.K=K→X.calm=true→∀ (i:Nat) (pins:List (Addr × Obj)) (s:Shared) (σ:St) (H:Hp) (E:Value→Shared→Prop),Inv X pins σ H s→(∀ b∈fp,vx X pins H b)→tn i s.heap→J.go i H→
  wpAny (model P w) X.A (pyNext (.ref it)) (fun r s1=>∃ u,r=some u∧
   wpAny (model P w) X.A (letOwnedTupleGo tg (.ref it) u) (fun _ s2=>∃ x H',Inv X pins σ H' s2∧RelV x u∧J.yld i H x H'∧tn (i+1) s2.heap∧∀ b∈fp,H' b=none) E s1) E s
 done:∀ (X:Cx),X.prog=P→X.w=w→X.K=K→X.calm=true→∀ (i:Nat) (pins:List (Addr × Obj)) (s:Shared) (σ:St) (H:Hp) (E:Value→Shared→Prop),Inv X pins σ H s→(∀ b∈fp,vx X pins H b)→tn i s.heap→J.stop i H→
  wpAny (model P w) X.A (pyNext (.ref it)) (fun r s1=>r=none∧Inv X pins σ H s1) E s
 self:∀ (A:Around) (i:Nat) (s:Shared) (Q:Value→Shared→Prop) (E:Value→Shared→Prop),tn i s.heap→Q (.ref it) s→wpAny (model P w) A (pyIter (.ref it)) Q E s
abbrev TI:=St→Hp→(It→Hp→Prop)→Prop
def PIE (X:Cx) (pins:List (Addr × Obj)) (σ:St) (tg:Expr) (R:It→Hp→Prop) (itv:Value) (s2:Shared):Prop:=
 ∃ (it:Addr) (fp:List Addr) (tn:Nat→Heap→Prop) (J:It) (H':Hp),itv=.ref it∧Inv X pins σ H' s2∧lC X.prog X.w X.K tg J fp it tn∧tn 0 s2.heap∧(∀ b∈fp,vx X pins H' b)∧R J H'
def PI (X:Cx) (tg iter:Expr) (wi:TI):Prop:=
 ∀ (pins:List (Addr × Obj)) (s:Shared) (σ:St) (H:Hp) (R:It→Hp→Prop),Inv X pins σ H s→wi σ H R→
  wpAny (model X.prog X.w) X.A (eval iter X.env) (fun v s1=>wpAny (model X.prog X.w) X.A (pyIter v) (PIE X pins σ tg R) X.xe s1) X.xe s
theorem dB {M:Model} {A:Around} {E:Value→Shared→Prop} {s:Shared} {tg:Expr} {it:Addr} {u:Value} {o:Obj} {n:String} {vs:Array Value} {Q:Unit→Shared→Prop} (ho:s.heap.get? it=some o) (hc:o.cls=.type n) (hd:o.data=.fields vs)
  (hn:["enumerate","zip","dict_itemiterator","dict_reverseitemiterator","odict_iterator","itertools.zip_longest","itertools.pairwise"].contains n=false) (hQ:Q () s):wpAny M A (letOwnedTupleGo tg (.ref it) u) Q E s:=by
 unfold letOwnedTupleGo
 cases tg <;> first
  | exact wpAny_pure hQ
  | (cases u <;> first
    | exact wpAny_pure hQ
    | (refine wpAny_bind (wpAny_load ho ?_)
       rw [hc,hd]
       show wpAny M A (if (["enumerate","zip","dict_itemiterator","dict_reverseitemiterator","odict_iterator","itertools.zip_longest","itertools.pairwise"].contains n && vs[0]? == some (rawInt _))=true then _ else _) Q E s
       rw [if_neg (by intro h; rw [hn,Bool.false_and] at h; cases h)]
       exact wpAny_pure hQ))
def Itl (K:PySem.W.Frag) (a:Addr):It:=
 ⟨fun i H=>∃ xs x,SqL K H a xs∧xs[i]? = some x,fun i H x H'=>H'=H∧∀ xs,SqL K H a xs→xs[i]? = some x,fun i H=>∃ xs,SqL K H a xs∧xs.length≤i⟩
def Itr (lo:Int) (n:Nat):It:=⟨fun i _=>i<n,fun i H x H'=>H'=H∧x=.int (lo+i),fun i _=>n≤i⟩
theorem kI {P:Program} {w:World} {K:PySem.W.Frag} {tg:Expr} (a it:Addr):lC P w K tg (Itl K a) [it] it (fun i h=>h.IsListIter it a i) where
 mem:=by simp
 obj:=fun i h st b hb=>by
  have e:b=it:=by simpa using hb
  subst e
  obtain ⟨o,e,c,d⟩:=st
  exact ⟨o,e,fun v z=>by rw [d] at z; cases z⟩
 keep:=fun i h h' st k=>st.at fun o e=>k it (by simp) o e
 item:=by
  intro X hP hw hK hc i pins s σ H E I hf st hg
  subst hP hw hK
  obtain ⟨xs,x,hq,hx⟩:=hg
  obtain ⟨its,rv,p,hz⟩:=I.list hq
  obtain ⟨u,hu,ru⟩:=rv.get hx
  obtain ⟨f0,f1,f2,f3,f4,f5⟩:=hf it (by simp)
  refine wpAny_pyNext_list_item st p.isList (x:=u) (by simpa using hu) fun h' st' sb=>?_
  have I1:Inv X pins σ H { s with heap:=h' }:=I.turned (t':=s.toks) (fun b o hb e=>(sb.2 b hb).trans e) f0 f1 f3 f4 f5
  obtain ⟨o,e,c,d⟩:=id st'
  exact ⟨u,rfl,dB (s:={ s with heap:=h' }) e c d (by decide) ⟨x,H,I1,ru,⟨rfl,fun ys hy=>by rw [I.list_inj hy hq]; exact hx⟩,st',fun b hb=>(hf b hb).1⟩⟩
 done:=by
  intro X hP hw hK hc i pins s σ H E I hf st hg
  subst hP hw hK
  obtain ⟨xs,hq,hx⟩:=hg
  obtain ⟨its,rv,p,hz⟩:=I.list hq
  obtain ⟨f0,f1,f2,f3,f4,f5⟩:=hf it (by simp)
  have hl:=rv.length
  exact wpAny_pyNext_list_end (I.ok.hd hc) st p.isList (by simp; omega) fun h' eb=>⟨rfl,I.turned (t':=s.toks) (fun b o hb e=>eb b o hb e) f0 f1 f3 f4 f5⟩
 self:=fun _ _ _ _ _ st h=>wpAny_pyIter_listiter st h
theorem n_ {P:Program} {w:World} {K:PySem.W.Frag} {tg:Expr} (it:Addr) (lo:Int) (n:Nat):lC P w K tg (Itr lo n) [it] it (fun i h=>IsRangeIter h it (lo+(i:Nat)*1) ((n:Int) - (i:Nat)) 1) where
 mem:=by simp
 obj:=fun i h st b hb=>by
  have e:b=it:=by simpa using hb
  subst e
  exact ⟨_,st,fun v z=>by
   have z':Data.fields _=Data.cell v:=z
   cases z'⟩
 keep:=fun i h h' st k=>k it (by simp) _ st
 item:=by
  intro X hP hw hK hc i pins s σ H E I hf st hg
  subst hP hw hK
  obtain ⟨f0,f1,f2,f3,f4,f5⟩:=hf it (by simp)
  have W:=Walks.range (prog:=X.prog) (w:=X.w) (I.ok.hd hc) it lo 1 n
  refine W.item i s _ _ hg st fun v h' tk hv st' kk=>?_
  obtain ⟨t,rfl⟩:=hv
  have I1:Inv X pins σ H { s with heap:=h',toks:=tk }:=I.turned (fun b o hb e=>kk b o (by simpa using hb) e) f0 f1 f3 f4 f5
  refine ⟨_,rfl,dB (s:={ s with heap:=h',toks:=tk }) (n:="range_iterator") st' rfl rfl (by decide) ⟨.int (lo+i),H,I1,⟨t,?_⟩,⟨rfl,rfl⟩,st',fun b hb=>(hf b hb).1⟩⟩
  rw [Int.mul_one]
 done:=by
  intro X hP hw hK hc i pins s σ H E I hf st hg
  subst hP hw hK
  obtain ⟨f0,f1,f2,f3,f4,f5⟩:=hf it (by simp)
  exact wpAny_pyNext_range_end (I.ok.hd hc) st (by have:n≤i:=hg; omega) fun h' eb=>⟨rfl,I.turned (t':=s.toks) (fun b o hb e=>eb b o hb e) f0 f1 f3 f4 f5⟩
 self:=fun _ _ _ _ _ st h=>wpAny_pyIter_rangeiter st h
end L2
namespace L2
open PySem PySem.Spec PyProof.Rows
section
variable {X:Cx} {tg:Expr}
def Ro (K:PySem.W.Frag) (tl:TE):TI:=fun σ H R=>tl σ H fun x H1=>∃ a,x=.ref a∧(∃ xs,SqL K H1 a xs)∧R (Itl K a) H1
theorem lX {l:Expr} {tl:TE} (hl:PE X l tl):PI X tg l (Ro X.K tl):=by
 intro pins s σ H R I h
 refine thn (hl pins s σ H _ I h) fun v s1 ⟨x,H1,I1,r1,q1⟩=>?_
 obtain ⟨a,e,⟨xs,hq⟩,q⟩:=q1
 subst e
 cases r1
 obtain ⟨its,rv,p,hz⟩:=I1.list hq
 refine wpAny_pyIter_list p.isList ?_
 refine ⟨s1.heap.objs.size,[s1.heap.objs.size],_,_,H1,rfl,I1.kept (t':=s1.toks) fun b o e=>Heap.get?_push_of_some _ e,kI a _,⟨_,Heap.get?_push_size _ rfl,rfl,rfl⟩,fun b hb=>?_,q⟩
 have e:b=s1.heap.objs.size:=by simpa using hb
 subst e
 exact I1.fpOk (Nat.le_refl _) (I1.hok.fresh (Nat.le_refl _))
theorem o9 {pins:List (Addr × Obj)} {σ:St} {H:Hp} {s:Shared} {R:It→Hp→Prop} {E:Value→Shared→Prop} {lo hi:Int} {t u v:Tok} {tk:Nat} (I:Inv X pins σ H s) (h1:-(2 ^ 62)≤lo) (h2:lo<2 ^ 62) (h3:-(2 ^ 62)≤hi) (h4:hi<2 ^ 62)
  (q:R (Itr lo (hi - lo).toNat) H):wpAny (model X.prog X.w) X.A (pyIter (.ref s.heap.objs.size)) (PIE X pins σ tg R) E { s with heap:=s.heap.push { cls:=.type "range",data:=.fields #[.int lo t,.int hi u,.int 1 v] },toks:=tk }:=by
 refine wpAny_pyIter_range (IsRange.new ..) (small_one h1 h2 h3 h4) ?_
 have I1:Inv X pins σ H { s with heap:=s.heap.push { cls:=.type "range",data:=.fields #[.int lo t,.int hi u,.int 1 v] },toks:=tk }:=I.kept fun b o e=>Heap.get?_push_of_some _ e
 refine ⟨(s.heap.push { cls:=.type "range",data:=.fields #[.int lo t,.int hi u,.int 1 v] }).objs.size,[(s.heap.push { cls:=.type "range",data:=.fields #[.int lo t,.int hi u,.int 1 v] }).objs.size],_,_,H,rfl,
  I1.kept (t':=tk) fun b o e=>Heap.get?_push_of_some _ e,n_ _ lo (hi - lo).toNat,?_,fun b hb=>?_,q⟩
 ·have e1:lo+((0:Nat):Int)*1=lo:=by simp
  have e2:(((hi - lo).toNat:Nat):Int) - ((0:Nat):Int)=Builtin.Range.rangeSize lo hi 1:=by rw [rangeSize_one]; split <;> omega
  show IsRangeIter _ _ (lo+((0:Nat):Int)*1) ((((hi - lo).toNat:Nat):Int) - ((0:Nat):Int)) 1
  rw [e1,e2]
  exact Heap.get?_push_size _ rfl
 ·have e:b=(s.heap.push { cls:=.type "range",data:=.fields #[.int lo t,.int hi u,.int 1 v] }).objs.size:=by simpa using hb
  subst e
  exact I1.fpOk (Nat.le_refl _) (I1.hok.fresh (Nat.le_refl _))
def Rn (ta:TA):TI:=fun σ H R=>ta σ H fun vs H1=>∃ j:Int,vs=[.int j]∧-(2 ^ 62)≤j∧j<2 ^ 62∧R (Itr 0 j.toNat) H1
def Rm (ta:TA):TI:=fun σ H R=>ta σ H fun vs H1=>∃ i j:Int,vs=[.int i,.int j]∧(-(2 ^ 62)≤i∧i<2 ^ 62∧-(2 ^ 62)≤j∧j<2 ^ 62)∧R (Itr i (j - i).toNat) H1
theorem qW {a:Expr} {ta:TA} {p pos:Pos} (hg:Gl X "range") (hm:X.mg "range"=none) (ha:PA X [a] ta) (hs:starEach [a] X.env=[(false,eval a X.env)]:=by rfl):PI X tg (.Call (.Name "range" p) [a] [] pos) (Rn ta):=by
 intro pins s σ H R I h
 refine Call_ (vO I hg hm boot_range (PyProof.Rows.callWith_type1 (thn (ha pos pins s σ H _ I h) fun us s1 ⟨vs,H1,I1,r1,q1⟩=>?_) hs rfl))
 obtain ⟨j,e,q1,q2,q⟩:=q1
 subst e
 cases r1 with
 | cons r rr=>
  cases rr
  obtain ⟨t,rfl⟩:=r
  exact call_range_1 (o9 I1 (by omega) (by omega) q1 q2 (by simpa using q))
theorem kX {a b:Expr} {ta:TA} {p pos:Pos} (hg:Gl X "range") (hm:X.mg "range"=none) (ha:PA X [a,b] ta) (hs:starEach [a,b] X.env=[(false,eval a X.env),(false,eval b X.env)]:=by rfl) (hs2:starEach [b] X.env=[(false,eval b X.env)]:=by rfl):
  PI X tg (.Call (.Name "range" p) [a,b] [] pos) (Rm ta):=by
 intro pins s σ H R I h
 refine Call_ (vO I hg hm boot_range (PyProof.Rows.callWith_type1 (thn (ha pos pins s σ H _ I h) fun us s1 ⟨vs,H1,I1,r1,q1⟩=>?_) (by rw [hs,hs2]) (by rw [hs2]; rfl)))
 obtain ⟨i,j,e,⟨q1,q2,q3,q4⟩,q⟩:=q1
 subst e
 cases r1 with
 | cons r rr=>
  cases rr with
  | cons r' rr=>
   cases rr
   obtain ⟨t,rfl⟩:=r
   obtain ⟨t',rfl⟩:=r'
   exact call_range_2 (o9 I1 q1 q2 q3 q4 q)
def Qh (wi:TI) (g:TG) (tb:TS):TS:=fun D σ H=>wi σ H fun J H1=>∃ W:Nat→Nat→St→Hp→Prop,(∃ m,W 0 m σ H1)∧∀ i m σ H,W i m σ H→
 (J.stop i H∧D.nx σ H)∨(J.go i H∧∃ N:St→Hp→Prop,(∀ σ' H',N σ' H'→∃ m',m'<m∧W (i+1) m' σ' H')∧∀ x H',J.yld i H x H'→g x σ H' fun σ2 H2=>tb { D with nx:=N,ct:=N,bk:=D.nx } σ2 H2)
def xP (fp:List Addr) (h:Heap):List (Addr × Obj):=fp.filterMap fun b=>(h.get? b).map fun o=>(b,o)
theorem vM {fp:List Addr} {h:Heap} {b:Addr} {o:Obj} (hb:b∈fp) (e:h.get? b=some o):(b,o)∈xP fp h:=List.mem_filterMap.mpr ⟨b,hb,by rw [e]; rfl⟩
theorem ja {fp:List Addr} {h:Heap} {p:Addr × Obj} (hp:p∈xP fp h):p.1∈fp∧h.get? p.1=some p.2:=by
 obtain ⟨b,hb,e⟩:=List.mem_filterMap.mp hp
 cases q:h.get? b with
 | none=>rw [q] at e; cases e
 | some o=>
  rw [q] at e
  have e':(b,o)=p:=Option.some.inj e
  subst e'
  exact ⟨hb,q⟩
theorem Inv.pinned {pins:List (Addr × Obj)} {σ:St} {H:Hp} {s:Shared} {fp:List Addr} (I:Inv X pins σ H s) (hf:∀ b∈fp,vx X pins H b) (ho:∀ b∈fp,∃ o,s.heap.get? b=some o∧∀ v,o.data≠.cell v):Inv X (pins++xP fp s.heap) σ H s:=
 I.pins_of fun p hp=>(List.mem_append.mp hp).elim (fun z=>I.pin p (List.mem_append_right _ z)) fun z=>by
  obtain ⟨hb,e⟩:=ja z
  obtain ⟨f0,f1,f2,_⟩:=hf p.1 hb
  obtain ⟨o,e',d⟩:=ho p.1 hb
  rw [e] at e'; cases e'
  exact ⟨e,f0,f1,f2,d⟩
theorem Inv.unpinned {pins pl:List (Addr × Obj)} {σ:St} {H:Hp} {s:Shared} (I:Inv X (pins++pl) σ H s):Inv X pins σ H s:=I.pins_of fun p hp=>I.pin p (List.mem_append_right _ (List.mem_append_left _ hp))
theorem rp {iter:Expr} {body:List Stmt} {wi:TI} {g:TG} {tb:TS} {pos:Pos} (hp:PassesOwn (model X.prog X.w) X.A X.env X.xe) (hc:X.calm=true) (hi:PI X tg iter wi) (hg:PG X tg g) (hb:PSs X body tb)
  (hs:∀ x,foldedSetIterable iter X.env x=pure x:=by intro _; rfl):PS X (.For tg iter body [] pos) (Qh wi g tb):=by
 intro pins s σ H D I h
 refine wpAny_For (thn (hi pins s σ H _ I h) fun v s1 h1=>thn h1 fun itv s2 h2=>?_) hs
 obtain ⟨it,fp,tn,J,H2,e,I2,T,st2,f2,W,⟨m0,w0⟩,turn⟩:=h2
 subst e
 have stat:∀ {H':Hp},(∀ b∈fp,H' b=none)→∀ b∈fp,vx X pins H' b:=fun hn b hb=>⟨hn b hb,(f2 b hb).2⟩
 refine codeAny_forLoop_any (fun n s'=>∃ i σ' H',Inv X pins σ' H' s'∧tn i s'.heap∧(∀ b∈fp,H' b=none)∧W i n σ' H') ?_ m0 ⟨0,σ,H2,I2,st2,fun b hb=>(f2 b hb).1,w0⟩
 rintro n s3 ⟨i,σ3,H3,I3,st3,fr3,w3⟩
 rcases turn i n σ3 H3 w3 with ⟨stop,qn⟩ | ⟨go,N,hN,step⟩
 ·refine wpAny_passesOwn hp (thn (T.done X rfl rfl rfl hc i pins s3 σ3 H3 X.xe I3 (stat fr3) st3 stop) fun r s4 ⟨hr,I4⟩=>?_)
  subst hr
  exact wpAny_execs_nil ⟨σ3,H3,I4,qn⟩
 ·refine wpAny_passesOwn hp (thn (T.item X rfl rfl rfl hc i pins s3 σ3 H3 X.xe I3 (stat fr3) st3 go) fun r s4 ⟨u,hr,h4⟩=>?_)
  subst hr
  refine wpAny_passesOwn hp (thn h4 fun _ s5 ⟨x,H5,I5,r5,y5,st5,fr5⟩=>?_)
  have I5':=I5.pinned (stat fr5) (T.obj _ _ st5)
  refine wpAny_passesOwn hp (thn (hg _ s5 σ3 H5 x u _ I5' r5 (step x H5 y5)) fun _ s6 ⟨σ6,H6,I6,q6⟩=>?_)
  refine wpAny_passesOwn hp (thn (hb _ s6 σ6 H6 _ I6 q6) fun f s7 q7=>?_)
  have again:∀ {σ7:St} {H7:Hp},Inv X (pins++xP fp s5.heap) σ7 H7 s7→N σ7 H7→∃ m,m<n∧∃ i σ' H',Inv X pins σ' H' s7∧tn i s7.heap∧(∀ b∈fp,H' b=none)∧W i m σ' H':=fun {σ7 H7} I7 n7=>by
   obtain ⟨m',hm,w7⟩:=hN σ7 H7 n7
   refine ⟨m',hm,i+1,σ7,H7,I7.unpinned,T.keep _ _ _ st5 fun b hb o e=>(I7.pin (b,o) (List.mem_append_right _ (List.mem_append_right _ (vM hb e)))).1,fun b hb=>?_,w7⟩
   obtain ⟨o,e,d⟩:=T.obj _ _ st5 b hb
   exact (I7.pin (b,o) (List.mem_append_right _ (List.mem_append_right _ (vM hb e)))).2.1
  cases f with
  | next=>obtain ⟨σ7,H7,I7,n7⟩:=q7; exact again I7 n7
  | cont=>obtain ⟨σ7,H7,I7,n7⟩:=q7; exact again I7 n7
  | brk=>obtain ⟨σ7,H7,I7,q7⟩:=q7; exact ⟨σ7,H7,I7.unpinned,q7⟩
  | ret v=>obtain ⟨x7,σ7,H7,I7,r7,q7⟩:=q7; exact ⟨x7,σ7,H7,I7.unpinned,r7,q7⟩
end
theorem dH {K:PySem.W.Frag} {a:Addr} {xs:List V} {g:TG} {tb:TS} {D:ua} {σ:St} {H:Hp} (Pv:Nat→St→Hp→Prop) (h0:Pv 0 σ H) (hl:∀ i σ H,i≤xs.length→Pv i σ H→SqL K H a xs)
  (hs:∀ i x σ H,xs[i]? = some x→Pv i σ H→g x σ H fun σ2 H2=>tb { D with nx:=Pv (i+1),ct:=Pv (i+1),bk:=D.nx } σ2 H2) (hd:∀ σ H,Pv xs.length σ H→D.nx σ H):
  ∃ W:Nat→Nat→St→Hp→Prop,(∃ m,W 0 m σ H)∧∀ i m σ H,W i m σ H→
   ((Itl K a).stop i H∧D.nx σ H)∨((Itl K a).go i H∧∃ N:St→Hp→Prop,(∀ σ' H',N σ' H'→∃ m',m'<m∧W (i+1) m' σ' H')∧∀ x H',(Itl K a).yld i H x H'→g x σ H' fun σ2 H2=>tb { D with nx:=N,ct:=N,bk:=D.nx } σ2 H2):=by
 refine ⟨fun i m σ H=>m=xs.length - i∧i≤xs.length∧Pv i σ H,⟨xs.length,by simp,Nat.zero_le _,h0⟩,?_⟩
 rintro i m σ H ⟨rfl,hi,p⟩
 have q:=hl i σ H hi p
 by_cases hlt:i<xs.length
 ·refine .inr ⟨⟨xs,xs[i],q,by simp [hlt]⟩,Pv (i+1),fun σ' H' p'=>⟨xs.length - (i+1),by omega,rfl,hlt,p'⟩,fun x H' y=>?_⟩
  obtain ⟨e,y⟩:=y
  subst e
  exact hs i x σ _ (y xs q) p
 ·have e:i=xs.length:=by omega
  subst e
  exact .inl ⟨⟨xs,q,Nat.le_refl _⟩,hd σ H p⟩
theorem pd {lo:Int} {n:Nat} {g:TG} {tb:TS} {D:ua} {σ:St} {H:Hp} (Pv:Nat→St→Hp→Prop) (h0:Pv 0 σ H)
  (hs:∀ i σ H,i<n→Pv i σ H→g (.int (lo+i)) σ H fun σ2 H2=>tb { D with nx:=Pv (i+1),ct:=Pv (i+1),bk:=D.nx } σ2 H2) (hd:∀ σ H,Pv n σ H→D.nx σ H):
  ∃ W:Nat→Nat→St→Hp→Prop,(∃ m,W 0 m σ H)∧∀ i m σ H,W i m σ H→
   ((Itr lo n).stop i H∧D.nx σ H)∨((Itr lo n).go i H∧∃ N:St→Hp→Prop,(∀ σ' H',N σ' H'→∃ m',m'<m∧W (i+1) m' σ' H')∧∀ x H',(Itr lo n).yld i H x H'→g x σ H' fun σ2 H2=>tb { D with nx:=N,ct:=N,bk:=D.nx } σ2 H2):=by
 refine ⟨fun i m σ H=>m=n - i∧i≤n∧Pv i σ H,⟨n,by simp,Nat.zero_le _,h0⟩,?_⟩
 rintro i m σ H ⟨rfl,hi,p⟩
 by_cases hlt:i<n
 ·refine .inr ⟨hlt,Pv (i+1),fun σ' H' p'=>⟨n - (i+1),by omega,rfl,hlt,p'⟩,fun x H' y=>?_⟩
  obtain ⟨e,y⟩:=y
  subst e y
  exact hs i σ _ hlt p
 ·have e:i=n:=by omega
  subst e
  exact .inl ⟨Nat.le_refl _,hd σ H p⟩
end L2
namespace L2
open PySem PySem.Spec PyProof.Rows
abbrev R2:=V→V→Hp→VK→Prop
def OpR (X:Cx) (f:Value→Value→Sem Value) (r:R2):Prop:=
 ∀ (pins:List (Addr × Obj)) (s:Shared) (σ:St) (H:Hp) (x y:V) (v u:Value) (Q:VK),Inv X pins σ H s→RelV x v→RelV y u→r x y H Q→
  wpAny (model X.prog X.w) X.A (f v u) (EP X pins σ Q) X.xe s
def UnR (X:Cx) (f:Value→Sem Value) (r:V→Hp→VK→Prop):Prop:=
 ∀ (pins:List (Addr × Obj)) (s:Shared) (σ:St) (H:Hp) (x:V) (v:Value) (Q:VK),Inv X pins σ H s→RelV x v→r x H Q→
  wpAny (model X.prog X.w) X.A (f v) (EP X pins σ Q) X.xe s
def CallR (X:Cx) (f:Value) (r:List V→Hp→VK→Prop):Prop:=
 ∀ (pins:List (Addr × Obj)) (s:Shared) (σ:St) (H:Hp) (xs:List V) (us:List Value) (Q:VK),Inv X pins σ H s→Vals xs us→r xs H Q→
  wpAny (model X.prog X.w) X.A (call f us) (EP X pins σ Q) X.xe s
def Pd (X:Cx) (r:V→Hp→(Bool→Hp→Prop)→Prop):Prop:=
 ∀ (pins:List (Addr × Obj)) (s:Shared) (σ:St) (H:Hp) (x:V) (v:Value) (Q:Bool→Hp→Prop),Inv X pins σ H s→RelV x v→r x H Q→
  wpAny (model X.prog X.w) X.A (truthy v) (TP X pins σ Q) X.xe s
def tOp (r:R2) (ta tb:TE):TE:=fun σ H Q=>ta σ H fun x H1=>tb σ H1 fun y H2=>r x y H2 Q
def tUn (r:V→Hp→VK→Prop) (ta:TE):TE:=fun σ H Q=>ta σ H fun x H1=>r x H1 Q
def rI (C:Int→Int→Prop) (g:Int→Int→V):R2:=fun x y H Q=>∃ i j,x=.int i∧y=.int j∧C i j∧Q (g i j) H
def rI0 (g:Int→Int→V):R2:=fun x y H Q=>∃ i j,x=.int i∧y=.int j∧Q (g i j) H
def rU (g:Int→V):V→Hp→VK→Prop:=fun x H Q=>∃ i,x=.int i∧Q (g i) H
section
variable {X:Cx} {a b c:Expr} {ta tb tc:TE} {pos:Pos}
theorem T6 (ha:PE X a ta) (hb:PE X b tb) {pins:List (Addr × Obj)} {s:Shared} {σ:St} {H:Hp} {R:V→V→Hp→Prop} (I:Inv X pins σ H s)
  (h:ta σ H fun x H1=>tb σ H1 fun y H2=>R x y H2) {Q:Value→Shared→Prop} {f:Value→Value→Sem Value}
  (hf:∀ v u s2 x y H2,Inv X pins σ H2 s2→RelV x v→RelV y u→R x y H2→wpAny (model X.prog X.w) X.A (f v u) Q X.xe s2):
  wpAny (model X.prog X.w) X.A (eval a X.env) (fun v s₁=>wpAny (model X.prog X.w) X.A (eval b X.env) (fun u s₂=>wpAny (model X.prog X.w) X.A (f v u) Q X.xe s₂) X.xe s₁) X.xe s:=by
 refine thn (ha pins s σ H _ I h) fun v s1 ⟨x,H1,I1,r1,q1⟩=>?_
 refine thn (hb pins s1 σ H1 _ I1 q1) fun u s2 ⟨y,H2,I2,r2,q2⟩=>?_
 exact hf v u s2 x y H2 I2 r1 r2 q2
theorem XT {op:Operator} {r:R2} (ho:OpR X (binaryOp op) r) (ha:PE X a ta) (hb:PE X b tb):PE X (.BinOp a op b pos) (tOp r ta tb):=by
 intro pins s σ H Q I h
 exact wpAny_BinOp (T6 ha hb I h fun v u s2 x y H2 I2 rx ry q=>ho pins s2 σ H2 x y v u Q I2 rx ry q)
theorem SA {op:UnaryOp} {r:V→Hp→VK→Prop} (ho:UnR X (unaryOp op) r) (ha:PE X a ta):PE X (.UnaryOp op a pos) (tUn r ta):=by
 intro pins s σ H Q I h
 exact UnaryOp_ (thn (ha pins s σ H _ I h) fun v s1 ⟨x,H1,I1,r1,q1⟩=>ho pins s1 σ H1 x v Q I1 r1 q1)
theorem opI {f:Value→Value→Sem Value} {C:Int→Int→Prop} {g:Int→Int→Int}
  (rule:∀ (i j:Int) (t u:Tok) (s:Shared) (Q:Value→Shared→Prop) (E:Value→Shared→Prop),C i j→Q (.int (g i j) s.toks) { s with toks:=s.toks+1 }→wpAny (model X.prog X.w) X.A (f (.int i t) (.int j u)) Q E s):
  OpR X f (rI C fun i j=>.int (g i j)):=by
 intro pins s σ H x y v u Q I rx ry h
 obtain ⟨i,j,rfl,rfl,hc,q⟩:=h
 obtain ⟨t,rfl⟩:=rx
 obtain ⟨t',rfl⟩:=ry
 exact rule i j t t' s _ _ hc ⟨.int (g i j),H,I.tok _,⟨_,rfl⟩,q⟩
theorem SI {f:Value→Value→Sem Value} {g:Int→Int→Int}
  (rule:∀ (i j:Int) (t u:Tok) (s:Shared) (Q:Value→Shared→Prop) (E:Value→Shared→Prop),Q (.int (g i j) s.toks) { s with toks:=s.toks+1 }→wpAny (model X.prog X.w) X.A (f (.int i t) (.int j u)) Q E s):
  OpR X f (rI0 fun i j=>.int (g i j)):=by
 intro pins s σ H x y v u Q I rx ry h
 obtain ⟨i,j,rfl,rfl,q⟩:=h
 obtain ⟨t,rfl⟩:=rx
 obtain ⟨t',rfl⟩:=ry
 exact rule i j t t' s _ _ ⟨.int (g i j),H,I.tok _,⟨_,rfl⟩,q⟩
theorem WV {f:Value→Value→Sem Value} {g:Int→Int→Bool}
  (rule:∀ (i j:Int) (t u:Tok) (s:Shared) (Q:Value→Shared→Prop) (E:Value→Shared→Prop),Q (.bool (g i j)) s→wpAny (model X.prog X.w) X.A (f (.int i t) (.int j u)) Q E s):
  OpR X f (rI0 fun i j=>.bl (g i j)):=by
 intro pins s σ H x y v u Q I rx ry h
 obtain ⟨i,j,rfl,rfl,q⟩:=h
 obtain ⟨t,rfl⟩:=rx
 obtain ⟨t',rfl⟩:=ry
 exact rule i j t t' s _ _ ⟨.bl (g i j),H,I,rfl,q⟩
def kH (i j:Int):Prop:=j≠0∧j.natAbs<1073741824
def Pf (i j:Int):Prop:=0≤j∧j≤1000000∧i.natAbs<2 ^ 64
def CMul (i j:Int):Prop:=(-(2 ^ 64)<i∧i<2 ^ 64)∨(-(2 ^ 64)<j∧j<2 ^ 64)
theorem CMul.ok {i j:Int} (h:CMul i j):IntMulOk i j:=by
 rcases h with ⟨h1,h2⟩ | ⟨h1,h2⟩
 ·exact .of_left (intBits_le_64 h1 h2)
 ·exact .of_right (intBits_le_64 h1 h2)
theorem WU:OpR X (binaryOp .Add) (rI0 fun i j=>.int (i+j)):=SI fun _ _ _ _ _ _ _ q=>add_int q
theorem WR:OpR X (binaryOp .Sub) (rI0 fun i j=>.int (i - j)):=SI fun _ _ _ _ _ _ _ q=>sub_int q
theorem iY:OpR X (binaryOp .FloorDiv) (rI kH fun i j=>.int (i.fdiv j)):=opI fun _ _ _ _ _ _ _ hc q=>floordiv_int hc.1 q (.inl (PyProof.noPylong_small hc.2))
theorem bE:OpR X (binaryOp .Mod) (rI (fun _ j=>j≠0) fun i j=>.int (i.fmod j)):=opI fun _ _ _ _ _ _ _ hc q=>mod_int' hc q
theorem unI {f:Value→Sem Value} {g:Int→Int}
  (rule:∀ (i:Int) (t:Tok) (s:Shared) (Q:Value→Shared→Prop) (E:Value→Shared→Prop),Q (.int (g i) s.toks) { s with toks:=s.toks+1 }→wpAny (model X.prog X.w) X.A (f (.int i t)) Q E s):
  UnR X f (rU fun i=>.int (g i)):=by
 intro pins s σ H x v Q I rx h
 obtain ⟨i,rfl,q⟩:=h
 obtain ⟨t,rfl⟩:=rx
 exact rule i t s _ _ ⟨.int (g i),H,I.tok _,⟨_,rfl⟩,q⟩
theorem Wm:UnR X (unaryOp .USub) (rU fun i=>.int (-i)):=unI fun _ _ _ _ _ q=>neg_int q
end
def Qq:V→V→Bool
 | .non,.non=>true | .non,.int _=>true | .int _,.non=>true | .non,.bl _=>true | .bl _,.non=>true | .non,.str _=>true | .str _,.non=>true
 | .int _,.int _=>true | .bl _,.bl _=>true | .str _,.str _=>true | .byt _,.byt _=>true
 | .int _,.str _=>true | .str _,.int _=>true | .bl _,.str _=>true | .str _,.bl _=>true
 | _,_=>false
def rEq:R2:=fun x y H Q=>Qq x y=true∧Q (.bl (decide (x=y))) H
theorem Xr {i j:Int}:decide (V.int i=V.int j)=(i == j):=by
 rw [Bool.eq_iff_iff]
 simp
theorem TH {i j:Bool}:decide (V.bl i=V.bl j)=(i == j):=by
 rw [Bool.eq_iff_iff]
 simp
theorem Xq {i j:Str}:decide (V.str i=V.str j)=(i == j):=by
 rw [Bool.eq_iff_iff]
 simp
theorem Xs {i j:Array UInt8}:decide (V.byt i=V.byt j)=(i.toList == j.toList):=by
 rw [Bool.eq_iff_iff]
 cases i
 cases j
 simp
section
variable {X:Cx} {a b c:Expr} {ta tb tc:TE} {pos:Pos}
theorem yx {pins:List (Addr × Obj)} {σ:St} {H:Hp} {s:Shared} {Q:VK} {k k':Bool} (I:Inv X pins σ H s) (q:Q (.bl k) H) (e:k=k'):EP X pins σ Q (.bool k') s:=by
 subst e
 exact ⟨.bl k,H,I,rfl,q⟩
theorem SH:OpR X (compareOp .Eq) rEq:=by
 intro pins s σ H x y v u Q I rx ry h
 obtain ⟨hs,q⟩:=h
 cases x with
 | non=>
  cases rx
  cases y with
  | non=>cases ry; exact PySem.EqNone.eq_none_none (yx I q (by simp))
  | bl j=>cases ry; exact PySem.EqNone.eq_none_bool (yx I q (by simp))
  | int j=>obtain ⟨t',rfl⟩:=ry; exact PySem.EqNone.eq_none_int (yx I q (by simp))
  | str j=>obtain ⟨t',rfl⟩:=ry; exact PySem.EqNone.eq_none_str (yx I q (by simp))
  | _=>exact absurd (show false=true from hs) Bool.false_ne_true
 | bl i=>
  cases rx
  cases y with
  | non=>cases ry; exact PySem.EqNone.eq_bool_none (yx I q (by simp))
  | bl j=>cases ry; exact eq_bool (yx I q TH)
  | str j=>obtain ⟨t',rfl⟩:=ry; exact PySem.EqMixed.eq_bool_str (yx I q (by simp))
  | _=>exact absurd (show false=true from hs) Bool.false_ne_true
 | int i=>
  obtain ⟨t,rfl⟩:=rx
  cases y with
  | non=>cases ry; exact PySem.EqNone.eq_int_none (yx I q (by simp))
  | int j=>obtain ⟨t',rfl⟩:=ry; exact eq_int (yx I q Xr)
  | str j=>obtain ⟨t',rfl⟩:=ry; exact PySem.EqMixed.eq_int_str (yx I q (by simp))
  | _=>exact absurd (show false=true from hs) Bool.false_ne_true
 | str i=>
  obtain ⟨t,rfl⟩:=rx
  cases y with
  | non=>cases ry; exact PySem.EqNone.eq_str_none (yx I q (by simp))
  | bl j=>cases ry; exact PySem.EqMixed.eq_str_bool (yx I q (by simp))
  | int j=>obtain ⟨t',rfl⟩:=ry; exact PySem.EqMixed.eq_str_int (yx I q (by simp))
  | str j=>obtain ⟨t',rfl⟩:=ry; exact eq_str (yx I q Xq)
  | _=>exact absurd (show false=true from hs) Bool.false_ne_true
 | byt i=>
  obtain ⟨t,rfl⟩:=rx
  cases y with
  | byt j=>obtain ⟨t',rfl⟩:=ry; exact PySem.W.eq_bytes (yx I q Xs)
  | _=>exact absurd (show false=true from hs) Bool.false_ne_true
 | _=>cases y <;> exact absurd (show false=true from hs) Bool.false_ne_true
theorem SE:OpR X (compareOp .Lt) (rI0 fun i j=>.bl (decide (i<j))):=WV fun _ _ _ _ _ _ _ q=>lt_int q
theorem SF:OpR X (compareOp .Gt) (rI0 fun i j=>.bl (decide (j<i))):=WV fun _ _ _ _ _ _ _ q=>gt_int q
theorem SG:OpR X (compareOp .GtE) (rI0 fun i j=>.bl (decide (j≤i))):=WV fun _ _ _ _ _ _ _ q=>ge_int q
theorem OpR.or {f:Value→Value→Sem Value} {r r':R2} (h:OpR X f r) (h':OpR X f r'):OpR X f (fun x y H Q=>r x y H Q∨r' x y H Q):=by
 intro pins s σ H x y v u Q I rx ry q
 rcases q with q | q
 ·exact h pins s σ H x y v u Q I rx ry q
 ·exact h' pins s σ H x y v u Q I rx ry q
theorem zt (b:Expr) {op:CmpOp} (h:op≠.In:=by decide) (h2:op≠.NotIn:=by decide):behindInMarks op b=false:=by
 have e1:(op == CmpOp.In)=false:=by cases op <;> first | rfl | exact absurd rfl h
 have e2:(op == CmpOp.NotIn)=false:=by cases op <;> first | rfl | exact absurd rfl h2
 cases b <;> simp [behindInMarks,e1,e2]
theorem bz {op:CmpOp} {r:R2} (ho:OpR X (compareOp op) r) (ha:PE X a ta) (hb:PE X b tb) (hm:behindInMarks op b=false):PE X (.Compare a [op] [b] pos) (tOp r ta tb):=by
 intro pins s σ H Q I h
 exact wpAny_Compare1 (T6 ha hb I h fun v u s2 x y H2 I2 rx ry q=>ho pins s2 σ H2 x y v u Q I2 rx ry q) hm
def XO (t:TE):TT:=fun σ H Q=>t σ H fun x H'=>∃ k,x=.bl k∧Q k H'
theorem bo {op:CmpOp} {r:R2} (ho:OpR X (compareOp op) r) (ha:PE X a ta) (hb:PE X b tb) (hm:behindInMarks op b=false):PT X (.Compare a [op] [b] pos) (XO (tOp r ta tb)):=by
 intro pins s σ H Q I h
 refine wpAny_isTrue_Compare1 (thn (ha pins s σ H _ I h) fun v s1 ⟨x,H1,I1,r1,q1⟩=>thn (hb pins s1 σ H1 _ I1 q1) fun u s2 ⟨y,H2,I2,r2,q2⟩=>
  thn (ho pins s2 σ H2 x y v u _ I2 r1 r2 q2) fun c s3 ⟨z,H3,I3,r3,k,e,q3⟩=>?_) hm
 subst e
 cases r3
 exact wpAny_truthy_bool ⟨H3,I3,q3⟩
def R6 (K:PySem.W.Frag) (x:V) (H:Hp) (k:Bool):Prop:=
 match x with
 | .non=>k=false
 | .bl b=>k=b
 | .int i=>k=(i != 0)
 | .str y=>y.length≤sizeLine∧k=((y.length:Int) != 0)
 | .byt y=>y.size≤sizeLine∧k=((y.size:Int) != 0)
 | .ref p=>(∃ xs,SqL K H p xs∧k=!xs.isEmpty)∨(∃ xs,SqT K H p xs∧k=!xs.isEmpty)∨∃ kvs,H p=some (.dK kvs)∧k=!kvs.isEmpty
 | _=>False
theorem mU {κ:Type} {kvs:List (κ × V)} {vs:List (κ × Value)} (r:KV kvs vs):(!vs.isEmpty)=!kvs.isEmpty:=by
 cases r <;> rfl
theorem rZ {xs:List V} {its:List Value} (r:Vals xs its):(!its.toArray.isEmpty)=!xs.isEmpty:=by
 cases r <;> simp
theorem rV:(sizeLine:Nat)<2 ^ 63:=by rw [sizeLine_eq]; decide
theorem Wn:Pd X (fun x H Q=>∃ k,R6 X.K x H k∧Q k H):=by
 intro pins s σ H x v Q I rx h
 obtain ⟨k,e,q⟩:=h
 have hl:=rV
 have hs:sizeLine=16777216:=sizeLine_eq
 cases x with
 | non=>
  cases rx
  have e':k=false:=e
  subst e'
  exact truthy_none ⟨H,I,q⟩
 | bl b=>
  cases rx
  have e':k=b:=e
  subst e'
  exact wpAny_truthy_bool ⟨H,I,q⟩
 | int i=>
  obtain ⟨t,rfl⟩:=rx
  have e':k=(i != 0):=e
  subst e'
  exact PySem.P.truthy_int ⟨H,I,q⟩
 | str y=>
  obtain ⟨t,rfl⟩:=rx
  obtain ⟨hy,e'⟩:y.length≤sizeLine∧k=((y.length:Int) != 0):=e
  subst e'
  exact PySem.P.truthy_str (by omega) ⟨H,I.tok _,q⟩
 | byt y=>
  obtain ⟨t,rfl⟩:=rx
  obtain ⟨hy,e'⟩:y.size≤sizeLine∧k=((y.size:Int) != 0):=e
  subst e'
  exact PySem.W.truthy_bytes (by omega) ⟨H,I.tok _,q⟩
 | ref p=>
  cases rx
  have e':(∃ xs,SqL X.K H p xs∧k=!xs.isEmpty)∨(∃ xs,SqT X.K H p xs∧k=!xs.isEmpty)∨∃ kvs,H p=some (.dK kvs)∧k=!kvs.isEmpty:=e
  rcases e' with ⟨xs,hx,e'⟩ | ⟨xs,hx,e'⟩ | ⟨kvs,hx,e'⟩
  ·subst e'
   obtain ⟨its,r,pl,hz⟩:=I.list hx
   have hlen:=r.length
   exact wpAny_truthy_list pl.isList (by simp only [List.size_toArray]; omega) ⟨H,I.tok _,by rw [rZ r]; exact q⟩
  ·subst e'
   obtain ⟨its,r,pl,hz⟩:=I.tuple hx
   have hlen:=r.length
   exact truthy_tuple pl (by simp only [List.size_toArray]; omega) ⟨H,I.tok _,by rw [rZ r]; exact q⟩
  ·subst e'
   obtain ⟨hz,hS,vs,r,m⟩:kvs.length≤sizeLine∧(p == sysModules)=false∧∃ vs,KV kvs vs∧s.heap.DictOf (oo X.prog X.w) p vs:=I.hok p _ hx
   have hlen:kvs.length=vs.length:=Paired.length r
   exact wpAny_truthy_dict hS m (by omega) ⟨H,I.tok _,by rw [mU r]; exact q⟩
 | _=>exact (show False from e).elim
theorem o_ (ha:PE X a ta) (he:∀ whole,isTrue a X.env whole=(do let v ← whole; standAt a.pos; holding [v] (truthy v))):
  PT X a (fun σ H Q=>ta σ H fun x H'=>∃ k,R6 X.K x H' k∧Q k H'):=by
 intro pins s σ H Q I h
 exact isTrue_plain (thn (ha pins s σ H _ I h) fun v s1 ⟨x,H1,I1,r1,q1⟩=>Wn pins s1 σ H1 x v Q I1 r1 q1) (he _)
theorem XN {x:V} {us:List Value} (r:Vals [x] us):∃ u,us=[u]∧RelV x u:=by
 cases r with
 | cons r1 r2=>cases r2; exact ⟨_,rfl,r1⟩
theorem XM {x y:V} {us:List Value} (r:Vals [x,y] us):∃ u w',us=[u,w']∧RelV x u∧RelV y w':=by
 cases r with
 | cons r1 r2=>
  cases r2 with
  | cons r3 r4=>cases r4; exact ⟨_,_,rfl,r1,r3⟩
theorem j5 (hc:X.calm=true):CallR X (.builtin "max") (fun xs H Q=>∃ i j,xs=[.int i,.int j]∧Q (.int (if j>i then j else i)) H):=by
 intro pins s σ H xs us Q I r h
 obtain ⟨i,j,rfl,q⟩:=h
 obtain ⟨u,w',rfl,⟨t,rfl⟩,⟨t',rfl⟩⟩:=XM r
 refine max_two_ints (I.ok.hd hc) fun h' tk k=>⟨_,H,I.kept k,?_,q⟩
 by_cases hj:j>i
 ·rw [if_pos hj,if_pos hj]; exact ⟨_,rfl⟩
 ·rw [if_neg hj,if_neg hj]; exact ⟨_,rfl⟩
theorem j4 (hc:X.calm=true):CallR X (.builtin "min") (fun xs H Q=>∃ i j,xs=[.int i,.int j]∧Q (.int (if j<i then j else i)) H):=by
 intro pins s σ H xs us Q I r h
 obtain ⟨i,j,rfl,q⟩:=h
 obtain ⟨u,w',rfl,⟨t,rfl⟩,⟨t',rfl⟩⟩:=XM r
 refine min_two_ints (I.ok.hd hc) fun h' tk k=>⟨_,H,I.kept k,?_,q⟩
 by_cases hj:j<i
 ·rw [if_pos hj,if_pos hj]; exact ⟨_,rfl⟩
 ·rw [if_neg hj,if_neg hj]; exact ⟨_,rfl⟩
end
end L2
namespace L2
open PySem PySem.Spec PyProof.Rows
structure ObjM (h:Heap) (x dx C:Addr) (mA:Str→Option Value):Prop where
 obj:h.get? x=some (PySem.W.instObj C dx)
 ns:h.Ns1 dx mA
 ne:dx≠x
theorem jK {h:Heap} {dx:Addr} {mA:Str→Option Value} (n:h.Ns1 dx mA):∃ od,h.get? dx=some od∧∀ name,PySem.W.lookIn name od=some (mA name):=by
 obtain ⟨o,es,ep,ho,hd,hk,_,hm⟩:=n
 refine ⟨o,ho,fun name=>?_⟩
 have e:=hm name
 unfold nsFind findBy at e
 rw [← Array.find?_toList] at e
 unfold PySem.W.lookIn
 rw [hd]
 dsimp only
 split
 ·rename_i y q
  rw [q] at e
  exact congrArg some e
 ·rename_i q
  rw [q] at e
  have a:es.toList.any (·.refKey)=false:=by
   rw [List.any_eq_false]
   intro y hy
   obtain ⟨z,t,hkey⟩:=hk y (Array.mem_toList_iff.mp hy)
   simp [DictEntry.refKey,hkey]
  have a':¬ es.toList.any (·.refKey)=true:=by rw [a]; exact Bool.false_ne_true
  rw [if_neg a']
  exact congrArg some e
theorem ObjM.look {h:Heap} {x dx C:Addr} {mA:Str→Option Value} (I:ObjM h x dx C mA):∃ od,PySem.W.InstAt h x (PySem.W.instObj C dx) C (some od)∧∀ name,PySem.W.lookIn name od=some (mA name):=
 let ⟨od,ho,hl⟩:=jK I.ns
 ⟨od,⟨I.obj,rfl,rfl,ho⟩,hl⟩
section
variable {prog:Program} {w:World} {A:Around} {E:Value→Shared→Prop} {s:Shared} {K:PySem.W.Frag} {x dx C f:Addr} {mA:Str→Option Value} {name:Str} {v:Value}
theorem Y9 {expr:Bool} {Q:Value→Shared→Prop} (X:K.In s.heap) (I:ObjM s.heap x dx C mA) (hg:PySem.W.plainGet K C name=true) (hh:PySem.W.hasDictIn K C=true)
  (ha:PySem.W.findIn K (.ref C) name=some none) (hv:mA name=some v) (hv':PySem.W.handedIn v=true) (h:Q v { s with toks:=s.toks+1 }):
  wpAny (model prog w) A (getAttr (.ref x) name expr) Q E s:=by
 obtain ⟨od,J,hl⟩:=I.look
 exact PySem.W.get_value X J (PySem.W.plainGet_of hg).1 (PySem.W.findObj_own hh ha rfl (by rw [hl,hv])) hv' h
theorem dD {pl:Sem Bool} {Q:Value × List Value→Shared→Prop} (X:K.In s.heap) (I:ObjM s.heap x dx C mA) (hg:PySem.W.plainGet K C name=true)
  (hf:PySem.W.findIn K (.ref C) name=some (some (.ref f))) (ht:PySem.W.isFn K (.ref f)=true) (hv:mA name=none) (h:Q (.ref f,[.ref x]) s):
  wpAny (model prog w) A (getMethod (.ref x) name pl) Q E s:=by
 obtain ⟨od,J,hl⟩:=I.look
 exact PySem.W.method_fn X J (PySem.W.plainGet_of hg).1 (PySem.W.plainGet_of hg).2 hf (beq_iff_eq.mp ht) (by show (PySem.W.lookIn name od).map (·.isSome)=some false; rw [hl,hv]; rfl) h
theorem c8 {ns:List Str} {Q:Unit→Shared→Prop} (X:K.In s.heap) (I:ObjM s.heap x dx C mA)
  (hs:PySem.W.findIn K (.ref C) "__setattr__"=some (some (.builtin "object.__setattr__"))) (hp:PySem.W.plainOver K C=true) (ht:PySem.W.takerIn K C name=some none) (hh:PySem.W.hasDictIn K C=true)
  (hw:PySem.Within mA ns) (hsz:ns.length≤sizeLine)
  (h:∀ h',ObjM h' x dx C (fun y=>if y=name then some v else mA y)→Heap.SameBut dx s.heap h'→Q () { s with heap:=h',toks:=s.toks+2 }):
  wpAny (model prog w) A (setAttr (.ref x) name v) Q E s:=by
 obtain ⟨od,J,hl⟩:=I.look
 refine PySem.W.set_plain X J hs (PySem.W.osa_open (s:={ s with toks:=s.toks+1 }) (r:=none) X J hp ht fun b=>?_)
 obtain ⟨cd,hc,hd'⟩:=PySem.W.any_some hh
 have hx:s.heap.get? x=some ⟨.ref C,some dx,.plain,#[]⟩:=I.obj
 refine wpAny_bind (wpAny_pure (wpAny_bind (wpAny_bind (wpAny_loadPart hx (wpAny_bind (PySem.W.Looks.here (s:={ s with toks:=s.toks+1 }) (PySem.W.looks_clsIn X hc) ?_))))))
 rw [hd']
 refine wpAny_pure (a:=some dx) (wpAny_bind (wpAny_pure (wpAny_bind ?_)))
 refine wpAny_nsSet1 (s:={ s with toks:=s.toks+1 }) I.ns fun h' hn2 hs2=>?_
 obtain ⟨oD,esD,epD,hoD,hdD,hcD⟩:=hn2.count (PySem.Within.cons name v hw)
 refine wpAny_bind (wpAny_lookBehind hoD (by rw [hdD]; exact pastItsLine_dict (Nat.le_trans hcD (by rw [List.length_cons]; omega))) ?_)
 exact wpAny_pure (h _ ⟨(hs2.2 _ (Ne.symm I.ne)).trans I.obj,hn2,I.ne⟩ hs2)
theorem eW {R:Result→Shared→Prop} {vs:List Value} {kw:List (Str × Value)} (X:K.In s.heap) (hm:PySem.W.makesIn K C=true)
  (hi:PySem.W.findIn K (.ref C) "__init__"=some (some (.ref f))) (hf:PySem.W.typeIn K (.ref f)=some (.type "function"))
  (h:codeAny (model prog w) (A.under (.builtin "type.__call__" ⟨.ref C::vs,kw⟩)) (.call (.ref f) ⟨.ref (s.heap.objs.size+1)::vs,kw⟩) (PySem.W.InitBack (s.heap.objs.size+1) R)
   { s with heap:=(s.heap.push PySem.W.emptyDict).push (PySem.W.instObj C s.heap.objs.size) }):
  codeAny (model prog w) A (.call (.ref C) ⟨vs,kw⟩) R s:=by
 obtain ⟨hh,g,d,t,os⟩:=s
 exact PySem.W.make_core (PySem.W.makes_of X hm) (PySem.W.looks_findIn X hi) (fun self=>PySem.W.bind_fn X self hf) (.inl rfl) h
end
def xW (f:Str) (v:V):List (Str × V)→List (Str × V)
 | []=>[(f,v)]
 | (g,x)::r=>if g=f then (g,v)::r else (g,x)::xW f v r
theorem tY (f g:Str) (v:V):∀ fs:List (Str × V),(xW f v fs).lookup g=if g=f then some v else fs.lookup g
 | []=>by
  show List.lookup g [(f,v)]=_
  by_cases h:g=f
  ·have hb:(g == f)=true:=beq_iff_eq.mpr h
   simp only [List.lookup,hb,if_pos h]
  ·have hb:(g == f)=false:=beq_eq_false_iff_ne.mpr h
   simp only [List.lookup,hb,if_neg h]
 | (k,x)::r=>by
  have ih:=tY f g v r
  rw [show xW f v ((k,x)::r)=(if k=f then (k,v)::r else (k,x)::xW f v r) from rfl]
  by_cases hk:k=f
  ·rw [if_pos hk]
   by_cases h:g=k
   ·have hb:(g == k)=true:=beq_iff_eq.mpr h
    simp only [List.lookup,hb,if_pos (h.trans hk)]
   ·have hb:(g == k)=false:=beq_eq_false_iff_ne.mpr h
    simp only [List.lookup,hb,if_neg (fun e:g=f=>h (e.trans hk.symm))]
  ·rw [if_neg hk]
   by_cases h:g=k
   ·have hb:(g == k)=true:=beq_iff_eq.mpr h
    simp only [List.lookup,hb,if_neg (fun e:g=f=>hk (h.symm.trans e))]
   ·have hb:(g == k)=false:=beq_eq_false_iff_ne.mpr h
    simp only [List.lookup,hb]
    exact ih
theorem tI (f:Str) (v:V):∀ fs:List (Str × V),f∈(xW f v fs).map (·.1)∧∀ g,g∈fs.map (·.1)→g∈(xW f v fs).map (·.1)
 | []=>⟨by simp [xW],fun g h=>by simp at h⟩
 | (k,x)::r=>by
  obtain ⟨i1,i2⟩:=tI f v r
  rw [show xW f v ((k,x)::r)=(if k=f then (k,v)::r else (k,x)::xW f v r) from rfl]
  by_cases hk:k=f
  ·rw [if_pos hk]
   subst hk
   exact ⟨by simp,fun g h=>by simpa using h⟩
  ·rw [if_neg hk]
   refine ⟨?_,fun g h=>?_⟩
   ·rw [List.map_cons]
    exact List.mem_cons_of_mem _ i1
   ·rw [List.map_cons] at h ⊢
    rcases List.mem_cons.mp h with e | e
    ·exact List.mem_cons.mpr (.inl e)
    ·exact List.mem_cons_of_mem _ (i2 g e)
theorem tZ (f:Str) (v:V):∀ fs:List (Str × V),(xW f v fs).length≤fs.length+1
 | []=>by simp [xW]
 | (k,x)::r=>by
  have ih:=tZ f v r
  rw [show xW f v ((k,x)::r)=(if k=f then (k,v)::r else (k,x)::xW f v r) from rfl]
  by_cases hk:k=f
  ·rw [if_pos hk,List.length_cons,List.length_cons]; omega
  ·rw [if_neg hk,List.length_cons,List.length_cons]; omega
theorem RelO.some_of {v:V} {o:Option Value} (r:RelO (some v) o):∃ u,o=some u∧RelV v u:=by
 cases o with
 | none=>exact (show False from r).elim
 | some u=>exact ⟨u,rfl,r⟩
theorem RelO.none_of {o:Option Value} (r:RelO none o):o=none:=by
 cases o with
 | none=>rfl
 | some u=>exact (show False from r).elim
theorem jS {v:V} {u:Value} (r:RelV v u):PySem.W.handedIn u=true:=by
 cases v with
 | non=>cases (show u=Value.none from r); rfl
 | bl b=>cases (show u=Value.bool b from r); rfl
 | int i=>obtain ⟨t,e⟩:=(show ∃ t,u=Value.int i t from r); cases e; rfl
 | str x=>obtain ⟨t,e⟩:=(show ∃ t,u=Value.str x t from r); cases e; rfl
 | byt b=>obtain ⟨t,e⟩:=(show ∃ t,u=Value.bytes b t from r); cases e; rfl
 | flt b=>obtain ⟨t,e⟩:=(show ∃ t,u=Value.float b t from r); cases e; rfl
 | ref a=>cases (show u=Value.ref a from r); rfl
 | ty n=>cases (show u=Value.type n from r); rfl
section
variable {P:Program} {w:World} {H H':Hp} {h h':Heap} {a C dx:Addr} {fs fs':List (Str × V)}
theorem uy (hok:HOk P w H h) (e:H a=some (.ins C dx fs)):∃ mA,ObjM h a dx C mA∧(∀ f,RelO (fs.lookup f) (mA f))∧PySem.Within mA (fs.map (·.1))∧fs.length≤1000∧H dx=some (.own a):=by
 obtain ⟨d,z,ne,ob,mA,n,r,q⟩:=(show ObjOk P w H h a (.ins C dx fs) from hok a _ e)
 exact ⟨mA,⟨ob,n,ne⟩,r,q,z,d⟩
end
structure Cls (K:PySem.W.Frag) (C:Addr):Prop where
 pg:PySem.W.plainGet K C Str.empty=true
 hd:PySem.W.hasDictIn K C=true
 po:PySem.W.plainOver K C=true
 sa:PySem.W.findIn K (.ref C) "__setattr__"=some (some (.builtin "object.__setattr__"))
theorem Cls.get {K:PySem.W.Frag} {C:Addr} (c:Cls K C) (f:Str):PySem.W.plainGet K C f=true:=c.pg
def NoAttr (K:PySem.W.Frag) (C:Addr) (f:Str):Prop:=PySem.W.findIn K (.ref C) f=some none
theorem NoAttr.taker {K:PySem.W.Frag} {C:Addr} {f:Str} (n:NoAttr K C f):PySem.W.takerIn K C f=some none:=by
 unfold PySem.W.takerIn
 rw [show PySem.W.findIn K (.ref C) f=some none from n]
 rfl
structure lJ (K:PySem.W.Frag) (C:Addr) (m:Str) (f:Addr):Prop where
 at_:PySem.W.findIn K (.ref C) m=some (some (.ref f))
 fn:PySem.W.isFn K (.ref f)=true
 kp:PySem.W.keepIn K (.ref f)=true
section
variable {X:Cx} {pins:List (Addr × Obj)} {σ:St} {H:Hp} {s:Shared} {a C dx:Addr} {fs:List (Str × V)} {f:Str} {v:V} {A:Around} {E:Value→Shared→Prop}
theorem m7 {b:Bool} {Q:Value→Shared→Prop} (I:Inv X pins σ H s) (e:H a=some (.ins C dx fs)) (c:Cls X.K C) (n:NoAttr X.K C f) (l:fs.lookup f=some v)
  (h:∀ u s',Inv X pins σ H s'→RelV v u→Q u s'):wpAny (model X.prog X.w) A (getAttr (.ref a) f b) Q E s:=by
 obtain ⟨mA,O,r,_,_,_⟩:=uy I.hok e
 obtain ⟨u,hu,ru⟩:=RelO.some_of (v:=v) (o:=mA f) (by rw [← l]; exact r f)
 exact Y9 I.kIn O (c.get f) c.hd n hu (jS ru) (h u _ (I.tok _) ru)
theorem vP {m:Str} {g:Addr} {pl:Sem Bool} {Q:Value × List Value→Shared→Prop} (I:Inv X pins σ H s) (e:H a=some (.ins C dx fs)) (c:Cls X.K C) (k:lJ X.K C m g) (l:fs.lookup m=none)
  (h:Q (.ref g,[.ref a]) s):wpAny (model X.prog X.w) A (getMethod (.ref a) m pl) Q E s:=by
 obtain ⟨mA,O,r,_,_,_⟩:=uy I.hok e
 have hn:mA m=none:=RelO.none_of (by rw [← l]; exact r m)
 exact dD I.kIn O (c.get m) k.at_ k.fn hn h
theorem ml {y:V} {u:Value} {Q:Unit→Shared→Prop} (I:Inv X pins σ H s) (e:H a=some (.ins C dx fs)) (c:Cls X.K C) (n:NoAttr X.K C f) (hl:fs.length<1000) (ry:RelV y u)
  (h:∀ s',Inv X pins σ (upd H a (.ins C dx (xW f y fs))) s'→Q () s'):wpAny (model X.prog X.w) A (setAttr (.ref a) f u) Q E s:=by
 obtain ⟨mA,O,r,wi,_,ho⟩:=uy I.hok e
 have hz:(fs.map (·.1)).length≤sizeLine:=by rw [List.length_map,sizeLine_eq]; omega
 refine c8 I.kIn O c.sa c.po n.taker c.hd wi hz fun h' O' sb=>h _ ?_
 have hd:∃ o,h'.get? dx=some o:=let ⟨o,_,_,e',_⟩:=O'.ns; ⟨o,e'⟩
 refine I.write (x:=a) (e:=dx) (by rw [e]; exact True.intro) (.inr ho) (fun b q hb z=>(sb.2 b hb).trans z) hd ?_
 refine ⟨by rw [zo O.ne]; exact ho,?_,O.ne,O'.obj,_,O'.ns,fun g=>?_,fun g hg=>?_⟩
 ·have:=tZ f y fs; omega
 ·show RelO ((xW f y fs).lookup g) (if g=f then some u else mA g)
  rw [tY]
  by_cases q:g=f
  ·rw [if_pos q,if_pos q]; exact ry
  ·rw [if_neg q,if_neg q]; exact r g
 ·by_cases q:g=f
  ·rw [q]; exact (tI f y fs).1
  ·refine (tI f y fs).2 g (wi g fun z=>hg ?_)
   show (if g=f then some u else mA g)=none
   rw [if_neg q]; exact z
theorem Inv.made (I:Inv X pins σ H s):Inv X pins σ (upd (upd H s.heap.objs.size (.own (s.heap.objs.size+1))) (s.heap.objs.size+1) (.ins C s.heap.objs.size []))
  { s with heap:=(s.heap.push PySem.W.emptyDict).push (PySem.W.instObj C s.heap.objs.size) }:=by
 have e1:(s.heap.push PySem.W.emptyDict).get? s.heap.objs.size=some PySem.W.emptyDict:=Heap.get?_push_size s.heap rfl
 have e2:((s.heap.push PySem.W.emptyDict).push (PySem.W.instObj C s.heap.objs.size)).get? (s.heap.objs.size+1)=some (PySem.W.instObj C s.heap.objs.size):=by
  have:=Heap.get?_push_size (s.heap.push PySem.W.emptyDict) (o:=PySem.W.instObj C s.heap.objs.size) rfl
  rwa [Heap.size_push] at this
 have e3:(s.heap.push PySem.W.emptyDict).Ns s.heap.objs.size (fun _=>none):=⟨PySem.W.emptyDict,#[],_,e1,rfl,(fun e he=>absurd he (by simp)),fun _=>rfl⟩
 have I1:=I.laid (a:=s.heap.objs.size) (o:=.own (s.heap.objs.size+1)) (h':=s.heap.push PySem.W.emptyDict) (t':=s.toks) (fun b u q=>Heap.get?_push_of_some _ q) (Nat.le_refl _) ⟨_,e1⟩
 refine I1.laid (a:=s.heap.objs.size+1) (o:=.ins C s.heap.objs.size []) (t':=s.toks) (fun b u q=>Heap.get?_push_of_some _ q) (Nat.le_of_eq (Heap.size_push _ _)) ?_
 have ne:s.heap.objs.size≠s.heap.objs.size+1:=Nat.ne_of_lt (Nat.lt_succ_self _)
 refine ⟨by rw [zo ne,zi],Nat.zero_le _,ne,e2,fun _=>none,(Heap.Ns1.of_empty e3).at fun o q=>Heap.get?_push_of_some _ q,fun _=>True.intro,fun y hy=>absurd rfl hy⟩
theorem XE {prog:Program} {w:World} {env:Env} {e:Expr} {f:Str} {pos:Pos} {s:Shared} {Q:Value→Shared→Prop} (hb:attributeBase e f env (eval e env)=eval e env)
  (h:wpAny (model prog w) A (eval e env) (fun o s₁=>wpAny (model prog w) A (getAttr o f true) Q E s₁) E s):wpAny (model prog w) A (eval (.Attribute e f pos) env) Q E s:=
 Attribute_any_ h (by rw [arm_eval_Attribute,hb])
end
def Qi (K:PySem.W.Frag) (ta:TE) (f:Str):TE:=fun σ H Q=>ta σ H fun x H1=>∃ a C dx fs v,x=.ref a∧H1 a=some (.ins C dx fs)∧Cls K C∧NoAttr K C f∧fs.lookup f=some v∧Q v H1
def Su (K:PySem.W.Frag) (ta tv:TE) (f:Str):TS:=fun D σ H=>tv σ H fun y H1=>ta σ H1 fun x H2=>∃ a C dx fs,x=.ref a∧H2 a=some (.ins C dx fs)∧Cls K C∧NoAttr K C f∧fs.length<1000∧
 D.nx σ (upd H2 a (.ins C dx (xW f y fs)))
section
variable {X:Cx} {o e value:Expr} {f:Str} {pos pos' tpos:Pos} {ta tv:TE}
theorem iR (he:PE X e ta) (hb:attributeBase e f X.env (eval e X.env)=eval e X.env):PE X (.Attribute e f pos) (Qi X.K ta f):=by
 intro pins s σ H Q I h
 refine XE hb (thn (he pins s σ H _ I h) fun u s1 ⟨x,H1,I1,rx,a,C,dx,fs,v,ex,ea,c,n,l,q⟩=>?_)
 subst ex
 obtain rfl:u=Value.ref a:=rx
 exact m7 I1 ea c n l fun u' s2 I2 ru=>⟨v,H1,I2,ru,q⟩
theorem vI (ha:PE X o ta) (hv:PE X value tv) (hs:swapsWith value (some (.Attribute o f pos')) pos.line X.env=pure false):PS X (.Assign [.Attribute o f pos'] value pos) (Su X.K ta tv f):=by
 intro pins s σ H D I h
 refine plainObj_wpAny_Assign_Attribute (thn (hv pins s σ H _ I h) fun u s1 ⟨y,H1,I1,ry,q⟩=>thn (ha pins s1 σ H1 _ I1 q) fun ov s2 ⟨x,H2,I2,rx,a,C,dx,fs,ex,ea,c,n,l,q2⟩=>?_) hs
 subst ex
 obtain rfl:ov=Value.ref a:=rx
 exact ml I2 ea c n l ry fun s3 I3=>⟨σ,_,I3,q2⟩
end
section
variable {X:Cx} {pins:List (Addr × Obj)} {σ:St} {H:Hp} {s:Shared} {A:Around} {E:Value→Shared→Prop} {Q:Value→Shared→Prop} {c:Value} {b:Bool}
inductive vV (K:PySem.W.Frag) (H:Hp):V→Value→Prop where
 | non:vV K H .non (.type "NoneType")
 | bl (x:Bool):vV K H (.bl x) (.type "bool")
 | int (i:Int):vV K H (.int i) (.type "int")
 | str (x:Str):vV K H (.str x) (.type "str")
 | flt (x:UInt64):vV K H (.flt x) (.type "float")
 | lst {a:Addr} {xs:List V} (e:H a=some (.lst xs)):vV K H (.ref a) (.type "list")
 | frz {a:Addr} {o:Obj} {xs:List V} (e:H a=some (.frz o (.lst xs))):vV K H (.ref a) (.type "list")
 | tup {a:Addr} {xs:List V} (e:H a=some (.tup xs)):vV K H (.ref a) (.type "tuple")
 | dK {a:Addr} {kvs:List (Key × V)} (e:H a=some (.dK kvs)):vV K H (.ref a) (.type "dict")
 | dT {a:Addr} {kvs:List (List Key × V)} (e:H a=some (.dT kvs)):vV K H (.ref a) (.type "dict")
 | ins {a C dx:Addr} {fs:List (Str × V)} (e:H a=some (.ins C dx fs)) (cl:Cls K C) (ha:PySem.W.findIn K (.ref C) "__class__"=some (some (.builtin "object.__class__")))
   (hn:PySem.W.specialIn K (.builtin "object.__class__") "__get__"=some (some (.builtin "getset_descriptor.__get__"))) (htk:PySem.W.takesIn K (.builtin "object.__class__")=some true)
   (hm:PySem.W.mroIn K C (.type "object")=some true):vV K H (.ref a) (.ref C)
theorem q_ {x:V} {u t:Value} (I:Inv X pins σ H s) (rx:RelV x u) (ty:vV X.K H x t) (e:PySem.W.kitOne X.K t c=some b) (h:∀ tk,Q (.bool b) { s with toks:=tk }):
  wpAny (model X.prog X.w) A (call (.builtin "isinstance") [u,c]) Q E s:=by
 cases ty with
 | non=>cases (show u=Value.none from rx); exact PySem.W.kia_one PySem.W.kitx_none I.kIn True.intro e (fun z=>nomatch z) h
 | bl y=>cases (show u=Value.bool y from rx); exact PySem.W.kia_one PySem.W.kitx_bool I.kIn True.intro e (fun z=>nomatch z) h
 | int i=>obtain ⟨t,q⟩:=(show ∃ t,u=Value.int i t from rx); cases q; exact PySem.W.kia_one PySem.W.kitx_int I.kIn True.intro e (fun z=>nomatch z) h
 | str y=>obtain ⟨t,q⟩:=(show ∃ t,u=Value.str y t from rx); cases q; exact PySem.W.kia_one PySem.W.kitx_str I.kIn True.intro e (fun z=>nomatch z) h
 | flt y=>obtain ⟨t,q⟩:=(show ∃ t,u=Value.float y t from rx); cases q; exact PySem.W.kia_one PySem.W.kitx_float I.kIn True.intro e (fun z=>nomatch z) h
 | @lst a xs ea=>
  cases (show u=Value.ref a from rx)
  obtain ⟨_,_,n,_,h1⟩:=(show ObjOk X.prog X.w H s.heap a (.lst xs) from I.hok a _ ea)
  exact PySem.W.kia_one PySem.W.kitx_list I.kIn ⟨_,h1,rfl⟩ e (fun z=>nomatch z) h
 | @frz a ob xs ea=>
  cases (show u=Value.ref a from rx)
  obtain ⟨_,_,_,n,_,h1⟩:=(show ObjOk X.prog X.w H s.heap a (.frz ob (.lst xs)) from I.hok a _ ea)
  exact PySem.W.kia_one PySem.W.kitx_list I.kIn ⟨_,h1,rfl⟩ e (fun z=>nomatch z) h
 | @tup a xs ea=>
  cases (show u=Value.ref a from rx)
  obtain ⟨_,_,_,p⟩:=(show ObjOk X.prog X.w H s.heap a (.tup xs) from I.hok a _ ea)
  obtain ⟨o,h1,h2,_⟩:=p
  exact PySem.W.kia_one PySem.W.kitx_tuple I.kIn ⟨o,h1,h2⟩ e (fun z=>nomatch z) h
 | @dK a kvs ea=>
  cases (show u=Value.ref a from rx)
  obtain ⟨_,_,vs,_,p⟩:=(show ObjOk X.prog X.w H s.heap a (.dK kvs) from I.hok a _ ea)
  obtain ⟨o,es,ep,h1,h2,_⟩:=p
  exact PySem.W.kia_one PySem.W.kitx_dict I.kIn ⟨o,h1,h2.1⟩ e (fun z=>nomatch z) h
 | @dT a kvs ea=>
  cases (show u=Value.ref a from rx)
  obtain ⟨_,_,xs,_,o,es,ep,h1,h2,_⟩:=(show ObjOk X.prog X.w H s.heap a (.dT kvs) from I.hok a _ ea)
  exact PySem.W.kia_one PySem.W.kitx_dict I.kIn ⟨o,h1,h2.1⟩ e (fun z=>nomatch z) h
 | @ins a C dx fs ea cl ha hn htk hm=>
  cases (show u=Value.ref a from rx)
  obtain ⟨mA,O,_⟩:=uy I.hok ea
  obtain ⟨od,J,_⟩:=O.look
  exact PySem.W.kia_one (PySem.W.kitx_own (cl.get _) cl.hd ha hn htk hm) I.kIn J e (fun z=>nomatch z) h
end
end L2
namespace L2
open PySem PySem.Spec PyProof.Rows
structure Room (k:Nat) (A:Around):Prop where
 hd:A.handled=none
 dp:A.depth+3*k+5<recursionLimit
 un:A.units+16*k+200<cLine
theorem Room.mono {j k:Nat} {A:Around} (r:Room k A) (h:j≤k):Room j A:=⟨r.hd,by have:=r.dp; omega,by have:=r.un; omega⟩
theorem Room.deeper {k:Nat} {A:Around} (r:Room (k+1) A) (env:Env):Room k (A.deeper env):=
 ⟨r.hd,by have:=r.dp; show A.depth+1+3*k+5<_; omega,by have:=r.un; show A.units+3+16*k+200<_; omega⟩
theorem Room.in1 {k:Nat} {A:Around} (r:Room (k+1) A):Room k A.in1:=
 ⟨r.hd,by have:=r.dp; show A.depth+3*k+5<_; omega,by have:=r.un; show A.units+1+16*k+200<_; omega⟩
theorem mP {A:Around} {C:Addr} {us:List Value} {kw:List (Str × Value)}:(A.under (.builtin "type.__call__" ⟨.ref C::us,kw⟩)).depth=A.depth+1:=by
 first | rfl | simp [Around.under,Code.weight,Code.isCreation,Code.isGuard,Code.isCaller,Code.frames,Code.isFrame,guardIds]
theorem mO {A:Around} {C:Addr} {us:List Value} {kw:List (Str × Value)}:(A.under (.builtin "type.__call__" ⟨.ref C::us,kw⟩)).units=A.units+1:=by
 first | rfl | simp [Around.under,Code.cUnits,Code.frames,Code.isFrame]
theorem Room.make {k:Nat} {A:Around} (r:Room (k+1) A) (C:Addr) (us:List Value) (kw:List (Str × Value)):Room k (A.under (.builtin "type.__call__" ⟨.ref C::us,kw⟩)):=
 ⟨r.hd,by have:=r.dp; rw [mP]; omega,by have:=r.un; rw [mO]; omega⟩
theorem Room.depth {k:Nat} {A:Around} (r:Room k A):A.depth<recursionLimit:=by have:=r.dp; omega
theorem Room.units {k:Nat} {A:Around} (r:Room k A):A.units+64<cLine:=by have:=r.un; omega
def Sh:TA:=fun _ H Q=>Q [] H
def So (ta:TE) (tr:TA):TA:=fun σ H Q=>ta σ H fun x H1=>tr σ H1 fun xs H2=>Q (x::xs) H2
section
variable {X:Cx} {e:Expr} {es:List Expr} {te:TE} {t:TA} {pos:Pos}
theorem ym:PA X [] Sh:=fun _ _ _ _ H Q I h=>Calls.spliced_nil ⟨[],H,I,.nil,h⟩
theorem zH (ha:PE X e te) (hr:PA X es t) (hs:starEach (e::es) X.env=(false,eval e X.env)::starEach es X.env:=by rfl):PA X (e::es) (So te t):=by
 intro pos pins s σ H Q I h
 rw [hs]
 show wpAny _ _ (spliced ((false,eval e X.env)::backTo pos (starEach es X.env))) _ _ s
 refine Calls.spliced_cons (thn (ha pins s σ H _ I h) fun u s1 ⟨x,H1,I1,r1,q1⟩=>?_)
 exact thn (hr pos pins s1 σ H1 _ I1 q1) fun us s2 ⟨xs,H2,I2,r2,q2⟩=>⟨x::xs,H2,I2,.cons r1 r2,q2⟩
def R_ (t:TA):TE:=fun σ H Q=>t σ H fun xs H1=>xs.length≤sizeLine∧∀ p,H1 p=none→Q (.ref p) (upd H1 p (.tup xs))
def Qf (t:TA):TE:=fun σ H Q=>t σ H fun xs H1=>xs.length≤sizeLine∧∀ p,H1 p=none→Q (.ref p) (upd H1 p (.lst xs))
theorem pY {x1} (h:PA X es t):PE X (.Tuple es x1 pos) (R_ t):=by
 intro pins s σ H Q I hq
 refine wpAny_Tuple_spliced (thn (h pos pins s σ H _ I hq) fun us s1 ⟨xs,H1,I1,r,z,q⟩=>⟨by rw [← r.length]; exact z,?_⟩)
 have hf:H1 s1.heap.objs.size=none:=I1.hok.fresh (Nat.le_refl _)
 refine ⟨.ref s1.heap.objs.size,upd H1 s1.heap.objs.size (.tup xs),I1.laid (t':=s1.toks) (fun b u e=>Heap.get?_push_of_some _ e) (Nat.le_refl _) ?_,rfl,q _ hf⟩
 exact ⟨z,us,r,⟨_,Heap.get?_push_size _ rfl,rfl,_,rfl⟩⟩
theorem iQ (h:PA X es t):PE X (.List es pos) (Qf t):=by
 intro pins s σ H Q I hq
 refine wpAny_List_spliced (thn (h pos pins s σ H _ I hq) fun us s1 ⟨xs,H1,I1,r,z,q⟩=>⟨by rw [← r.length]; exact z,?_⟩)
 have hf:H1 s1.heap.objs.size=none:=I1.hok.fresh (Nat.le_refl _)
 refine ⟨.ref s1.heap.objs.size,upd H1 s1.heap.objs.size (.lst xs),I1.laid (t':=s1.toks) (fun b u e=>Heap.get?_push_of_some _ e) (Nat.le_refl _) ?_,rfl,q _ hf⟩
 exact ⟨z,us,0,r,Heap.get?_push_size _ rfl⟩
end
abbrev Sp:=List V→Hp→VK→XK→Prop
abbrev CXT:=List Env→Hp→Shared→XK→Value→Shared→Prop
structure Env0 (P:Program) (w:World) (K:PySem.W.Frag) (mg:Str→Option Value) (base:Heap) (A:Around) (outer:List Env) (s:Shared) (H:Hp):Prop where
 frames:A.frames=some outer
 mod:Mod K mg base
 bs:∀ b o,base.get? b=some o→s.heap.get? b=some o∧H b=none
 bsz:base.objs.size≤s.heap.objs.size
 funs:s.heap.FunFrames base outer
 frf:∀ b∈frs outer,H b=none
 hok:HOk P w H s.heap
 bare:AllBare s.gens
def CE (outer:List Env) (P:Program) (w:World) (H:Hp) (s:Shared) (Q:VK) (u:Value) (s':Shared):Prop:=
 ∃ v H',s'.os=s.os∧AllBare s'.gens∧Un (frs outer) [] H H' s.heap s'.heap∧HOk P w H' s'.heap∧RelV v u∧Q v H'
def CR (CX:CXT) (outer:List Env) (P:Program) (w:World) (H:Hp) (s:Shared) (Q:VK) (E:XK) (r:Result) (s':Shared):Prop:=
 match r with
 | .ok (.ret u)=>CE outer P w H s Q u s'
 | .ok _=>False
 | .error e=>CX outer H s E e s'
structure FnOk (P:Program) (w:World) (K:PySem.W.Frag) (mg:Str→Option Value) (base:Heap) (CX:CXT) (k:Nat) (f:Addr) (fd:FuncData) (ps:List Str) (sp:Sp):Prop where
 len:∀ vs H Q E,sp vs H Q E→vs.length=ps.length
 run:∀ (A:Around) (outer:List Env) (s:Shared) (H:Hp) (args:Args) (us:List Value) (vs:List V) (Q:VK) (E:XK),Room k A→Env0 P w K mg base A outer s H→BindsTo s fd args (ps.zip us)→Vals vs us→sp vs H Q E→
  codeAny (model P w) A (.call (.ref f) args) (CR CX outer P w H s Q E) s
theorem FnOk.mono {P:Program} {w:World} {K:PySem.W.Frag} {mg:Str→Option Value} {base:Heap} {CX:CXT} {j k:Nat} {f:Addr} {fd:FuncData} {ps:List Str} {sp:Sp} (F:FnOk P w K mg base CX j f fd ps sp) (h:j≤k):
  FnOk P w K mg base CX k f fd ps sp:=⟨F.len,fun A outer s H args us vs Q E hr=>F.run A outer s H args us vs Q E (hr.mono h)⟩
theorem FnOk.imp {P:Program} {w:World} {K:PySem.W.Frag} {mg:Str→Option Value} {base:Heap} {CX:CXT} {k:Nat} {f:Addr} {fd:FuncData} {ps:List Str} {sp sp':Sp} (F:FnOk P w K mg base CX k f fd ps sp)
  (h:∀ vs H Q E,sp' vs H Q E→sp vs H Q E):FnOk P w K mg base CX k f fd ps sp':=
 ⟨fun vs H Q E q=>F.len vs H Q E (h _ _ _ _ q),fun A outer s H args us vs Q E hr he hb hv hs=>F.run A outer s H args us vs Q E hr he hb hv (h _ _ _ _ hs)⟩
theorem Env0.make {P:Program} {w:World} {K:PySem.W.Frag} {mg:Str→Option Value} {base:Heap} {A:Around} {outer:List Env} {s:Shared} {H:Hp} (e:Env0 P w K mg base A outer s H) (C:Addr) (us:List Value) (kw:List (Str × Value)):
  Env0 P w K mg base (A.under (.builtin "type.__call__" ⟨.ref C::us,kw⟩)) outer s H:=⟨by first | exact e.frames | (simpa [Around.under,Code.envs,Code.isFrame,pushEnvs] using e.frames),e.mod,e.bs,e.bsz,e.funs,e.frf,e.hok,e.bare⟩
theorem Env0.in1 {P:Program} {w:World} {K:PySem.W.Frag} {mg:Str→Option Value} {base:Heap} {A:Around} {outer:List Env} {s:Shared} {H:Hp} (e:Env0 P w K mg base A outer s H):
  Env0 P w K mg base A.in1 outer s H:=⟨e.frames,e.mod,e.bs,e.bsz,e.funs,e.frf,e.hok,e.bare⟩
section
variable {X:Cx} {pins:List (Addr × Obj)} {σ:St} {H:Hp} {s s':Shared}
theorem Inv.env0 (I:Inv X pins σ H s):Env0 X.prog X.w X.K X.mg X.base X.A X.stack s H:=
 ⟨I.ok.frames,I.ok.mod,I.bs,Nat.le_trans I.ok.bsz I.sz,I.stack,I.stkFree,I.hok,I.bare⟩
theorem Inv.after {Q:VK} {u:Value} (I:Inv X pins σ H s) (h:CE X.stack X.prog X.w H s Q u s'):EP X pins σ Q u s':=by
 obtain ⟨v,H',os,bare,un,hok,r,q⟩:=h
 obtain ⟨hh,g,d,t,os'⟩:=s'
 obtain rfl:os'=s.os:=os
 exact ⟨v,H',I.call (h':=hh) (g':=g) (d':=d) (t':=t) (ch:=[]) un hok bare (fun b z=>absurd z (by simp)),r,q⟩
end
def Sq (sp:Sp) (dvs:List V) (E:XK) (t:TA):TE:=fun σ H Q=>t σ H fun vs H1=>sp (vs++dvs) H1 Q E
def Sj (C:Addr) (sp:Sp) (dvs:List V) (E:XK) (t:TA):TE:=fun σ H Q=>t σ H fun vs H1=>∀ x dx,H1 x=none→H1 dx=none→dx≠x→
 sp (.ref x::(vs++dvs)) (upd (upd H1 dx (.own x)) x (.ins C dx [])) (fun v H2=>v=.non∧Q (.ref x) H2) E
def Binds (K:PySem.W.Frag) (fd:FuncData) (ps:List Str) (ds:List Value):Prop:=
 ∀ (s:Shared) (us:List Value),K.In s.heap→(us++ds).length=ps.length→BindsTo s fd ⟨us,[]⟩ (ps.zip (us++ds))
theorem Binds.all {K:PySem.W.Frag} {fd:FuncData} {ps:List Str} (h:∀ us:List Value,us.length=ps.length→bindArgs fd ⟨us,[]⟩=pure (ps.zip us)):Binds K fd ps []:=fun s us _ hl=>by
 rw [List.append_nil] at hl ⊢
 exact .of_eq (h us hl)
def tT (CX:CXT) (X:Cx) (E:XK):Prop:=∀ (pins:List (Addr × Obj)) (σ:St) (H:Hp) (s:Shared) (e:Value) (s':Shared),Inv X pins σ H s→CX X.stack H s E e s'→X.xe e s'
section
variable {X:Cx} {CX:CXT} {k:Nat} {f C:Addr} {fd:FuncData} {ps:List Str} {sp:Sp} {dvs:List V} {ds:List Value} {E:XK} {x m:Str} {p pos apos:Pos} {e o:Expr} {es:List Expr} {ta:TE} {t:TA}
theorem pU {pins:List (Addr × Obj)} {σ:St} {H:Hp} {s:Shared} {Q:VK} {us:List Value} {vs:List V} (F:FnOk X.prog X.w X.K X.mg X.base CX k f fd ps sp) (hr:Room k X.A) (hb:Binds X.K fd ps ds) (hd:Vals dvs ds) (hx:tT CX X E)
  (I:Inv X pins σ H s) (r:Vals vs us) (h:sp (vs++dvs) H Q E):wpAny (model X.prog X.w) X.A (call (.ref f) us) (EP X pins σ Q) X.xe s:=by
 have r2:Vals (vs++dvs) (us++ds):=r.append hd
 have hl:(us++ds).length=ps.length:=by rw [← r2.length]; exact F.len _ _ _ _ h
 refine wpAny_call (codeAny_mono (F.run X.A X.stack s H ⟨us,[]⟩ (us++ds) (vs++dvs) Q E hr I.env0 (hb s us I.kIn hl) r2 h) fun r s' hq=>?_)
 cases r with
 | error e=>exact hx pins σ H s e s' I hq
 | ok fl=>
  cases fl with
  | ret u=>exact I.after hq
  | next=>exact False.elim hq
  | brk=>exact False.elim hq
  | cont=>exact False.elim hq
theorem vh (F:FnOk X.prog X.w X.K X.mg X.base CX k f fd ps sp) (hr:Room k X.A) (hg:Gl X x) (hm:X.mg x=some (.ref f)) (hk:PySem.W.keepIn X.K (.ref f)=true) (hb:Binds X.K fd ps ds) (hd:Vals dvs ds) (hx:tT CX X E)
  (ha:PA X (e::es) t) (hdb:(x == ("__debug__":Str))=false:=by decide) (he:starEach (e::es) X.env=(false,eval e X.env)::starEach es X.env:=by rfl) (hpl:(backTo pos (starEach es X.env)).any (·.1)=false:=by rfl):
  PE X (.Call (.Name x p) (e::es) [] pos) (Sq sp dvs E t):=by
 intro pins s σ H Q I h
 refine wpAny_Call_Name_kw (vi I hg hm ?_ hdb)
 refine PySem.W.callWith_K (h₀:=X.base) I.ok.mod.kin hk (thn (ha pos pins s σ H _ I h) fun us s1 ⟨vs,H1,I1,r,q⟩=>⟨I1.kIn,?_⟩) he hpl
 exact pU F hr hb hd hx I1 r q
structure Mk (K:PySem.W.Frag) (C f:Addr):Prop where
 makes:PySem.W.makesIn K C=true
 init:PySem.W.findIn K (.ref C) "__init__"=some (some (.ref f))
 fn:PySem.W.isFn K (.ref f)=true
 kp:PySem.W.keepIn K (.ref C)=true
theorem iB {pins:List (Addr × Obj)} {σ:St} {H:Hp} {s:Shared} {Q:VK} {us:List Value} {vs:List V} (M:Mk X.K C f) (F:FnOk X.prog X.w X.K X.mg X.base CX k f fd ps sp) (hr:Room (k+1) X.A) (hb:Binds X.K fd ps ds) (hd:Vals dvs ds)
  (hx:tT CX X E) (I:Inv X pins σ H s) (r:Vals vs us)
  (h:∀ x dx,H x=none→H dx=none→dx≠x→sp (.ref x::(vs++dvs)) (upd (upd H dx (.own x)) x (.ins C dx [])) (fun v H2=>v=.non∧Q (.ref x) H2) E):
  wpAny (model X.prog X.w) X.A (call (.ref C) us) (EP X pins σ Q) X.xe s:=by
 have hq:=h (s.heap.objs.size+1) s.heap.objs.size (I.hok.fresh (Nat.le_succ _)) (I.hok.fresh (Nat.le_refl _)) (Nat.ne_of_lt (Nat.lt_succ_self _))
 have I2:=Inv.made (C:=C) I
 have r2:Vals (V.ref (s.heap.objs.size+1)::(vs++dvs)) (Value.ref (s.heap.objs.size+1)::(us++ds)):=.cons rfl (r.append hd)
 have hl:(Value.ref (s.heap.objs.size+1)::us++ds).length=ps.length:=by
  have e:=r2.length
  rw [F.len _ _ _ _ hq] at e
  exact e.symm
 refine wpAny_call (eW (f:=f) I.kIn M.makes M.init (beq_iff_eq.mp M.fn) (codeAny_mono (F.run _ X.stack _ _ ⟨Value.ref (s.heap.objs.size+1)::us,[]⟩ (Value.ref (s.heap.objs.size+1)::(us++ds)) _ _ E (hr.make C us [])
  (I2.env0.make C us []) (hb _ (Value.ref (s.heap.objs.size+1)::us) I2.kIn hl) r2 hq) fun r s' hq'=>?_))
 cases r with
 | error e=>exact hx pins σ _ _ e s' I2 hq'
 | ok fl=>
  cases fl with
  | ret u=>
   obtain ⟨v,H',I3,rv,ev,q3⟩:=I2.after hq'
   subst ev
   exact ⟨rv,⟨V.ref (s.heap.objs.size+1),H',I3,rfl,q3⟩⟩
  | next=>exact False.elim hq'
  | brk=>exact False.elim hq'
  | cont=>exact False.elim hq'
theorem lZ (M:Mk X.K C f) (F:FnOk X.prog X.w X.K X.mg X.base CX k f fd ps sp) (hr:Room (k+1) X.A) (hg:Gl X x) (hm:X.mg x=some (.ref C)) (hb:Binds X.K fd ps ds) (hd:Vals dvs ds) (hx:tT CX X E)
  (ha:PA X (e::es) t) (hdb:(x == ("__debug__":Str))=false:=by decide) (he:starEach (e::es) X.env=(false,eval e X.env)::starEach es X.env:=by rfl) (hpl:(backTo pos (starEach es X.env)).any (·.1)=false:=by rfl):
  PE X (.Call (.Name x p) (e::es) [] pos) (Sj C sp dvs E t):=by
 intro pins s σ H Q I h
 refine wpAny_Call_Name_kw (vi I hg hm ?_ hdb)
 refine PySem.W.callWith_K (h₀:=X.base) I.ok.mod.kin M.kp (thn (ha pos pins s σ H _ I h) fun us s1 ⟨vs,H1,I1,r,q⟩=>⟨I1.kIn,?_⟩) he hpl
 exact iB M F hr hb hd hx I1 r q
end
section
variable {X:Cx} {CX:CXT} {k:Nat} {f C:Addr} {fd:FuncData} {ps ks:List Str} {sp:Sp} {E:XK} {x m:Str} {p pos apos kpos:Pos} {e o:Expr} {es:List Expr} {kws:List Keyword} {te ta:TE} {t tk:TA} {nm:Option Str}
variable {g:List Value→List Value→List Value} {gV:List V→List V→List V}
end
structure zh (N P:List Str) (sc:Scope):Prop where
 kind:sc.kind=.function
 co:sc.isCoroutine=false
 gen:sc.isGenerator=false
 nd:N.Nodup
 pre:N.take P.length=P
 par:∀ x∈P,sc.names.lookup x=some .local∨sc.names.lookup x=some .cell
 nofree:∀ y∈sc.names,y.2≠.free
theorem pC {kindOf:Str→Option NameKind} {x:Str}:∀ {binds:List (Str × Value)} {m:Str→Option Value},(∀ v,(x,v)∉binds)→bindL kindOf binds m x=m x
 | [],_,_=>rfl
 | (n,v)::r,m,h=>by
  unfold bindL
  rw [pC fun w hw=>h w (List.mem_cons_of_mem _ hw)]
  split
  ·have:x≠n:=by rintro rfl; exact h v List.mem_cons_self
   simp [this]
  ·rfl
theorem pE {kindOf:Str→Option NameKind} {x:Str}:∀ {binds:List (Str × Value)} {m:Str→Option Value},(∀ v,(x,v)∉binds)→bindC kindOf binds m x=m x
 | [],_,_=>rfl
 | (n,v)::r,m,h=>by
  unfold bindC
  rw [pE fun w hw=>h w (List.mem_cons_of_mem _ hw)]
  split
  ·rfl
  ·have:x≠n:=by rintro rfl; exact h v List.mem_cons_self
   simp [this]
theorem pD {kindOf:Str→Option NameKind} {x:Str} {v:Value}:∀ {P:List Str} {vs:List Value} {i:Nat} {m:Str→Option Value},P.Nodup→P[i]? = some x→vs[i]? = some v→kindOf x=some .local→
  bindL kindOf (P.zip vs) m x=some v
 | [],_,_,_,_,h,_,_=>by simp at h
 | _::_,[],_,_,_,_,h,_=>by simp at h
 | p::P,w::vs,0,m,nd,h1,h2,hk=>by
  simp at h1 h2; subst h1; subst h2
  show bindL kindOf ((p,w)::P.zip vs) m p=_
  unfold bindL
  rw [pC fun v hv=>(List.nodup_cons.mp nd).1 (List.of_mem_zip hv).1,if_pos hk]
  simp
 | p::P,w::vs,i+1,m,nd,h1,h2,hk=>by
  show bindL kindOf ((p,w)::P.zip vs) m x=_
  unfold bindL
  exact pD (i:=i) (List.nodup_cons.mp nd).2 (by simpa using h1) (by simpa using h2) hk
theorem pF {kindOf:Str→Option NameKind} {x:Str} {v:Value}:∀ {P:List Str} {vs:List Value} {i:Nat} {m:Str→Option Value},P.Nodup→P[i]? = some x→vs[i]? = some v→kindOf x≠some .local→
  bindC kindOf (P.zip vs) m x=some v
 | [],_,_,_,_,h,_,_=>by simp at h
 | _::_,[],_,_,_,_,h,_=>by simp at h
 | p::P,w::vs,0,m,nd,h1,h2,hk=>by
  simp at h1 h2; subst h1; subst h2
  show bindC kindOf ((p,w)::P.zip vs) m p=_
  unfold bindC
  rw [pE fun v hv=>(List.nodup_cons.mp nd).1 (List.of_mem_zip hv).1,if_neg hk]
  simp
 | p::P,w::vs,i+1,m,nd,h1,h2,hk=>by
  show bindC kindOf ((p,w)::P.zip vs) m x=_
  unfold bindC
  exact pF (i:=i) (List.nodup_cons.mp nd).2 (by simpa using h1) (by simpa using h2) hk
def start (N:List Str) (vs:List V):St:=vs.map some++List.replicate (N.length - vs.length) none
def yo (CX:CXT) (P:Program) (w:World) (K:PySem.W.Frag) (mg:Str→Option Value) (base:Heap) (N:List Str) (qual:Str) (scope:Scope) (f:Addr) (cd:Value) (A:Around) (outer:List Env) (s:Shared) (H:Hp) (E:XK):Cx where
 prog:=P
 w:=w
 K:=K
 mg:=mg
 base:=base
 A:=A.deeper (envOfC qual scope s.heap.objs.size f cd)
 N:=N
 s₀:=s
 H₀:=H
 env:=envOfC qual scope s.heap.objs.size f cd
 outer:=outer
 stack:=envOfC qual scope s.heap.objs.size f cd::outer
 ex:=[]
 calm:=true
 fn:=fun _=>true
 pn:=[]
 xe:=fun e s'=>wpAny (model P w) (A.deeper (envOfC qual scope s.heap.objs.size f cd)) (leaving (envOfC qual scope s.heap.objs.size f cd) e) (fun _ s''=>CX outer H s E e s'') (fun e' s''=>CX outer H s E e' s'') s'
theorem qp {sc:Scope} {n:Nat} {x:Str} (h:sc.names.lookup x=some .cell):∃ c,(cellsFrom n sc.names []).lookup x=some c:=by
 have q:=PySem.W.cellsFrom_some sc.names n [] (.inl h)
 exact Option.isSome_iff_exists.mp q
theorem jO {CX:CXT} {P:Program} {w:World} {K:PySem.W.Frag} {mg:Str→Option Value} {base:Heap} {N ps:List Str} {qual:Str} {scope:Scope} {f:Addr} {cd:Value} {A:Around} {outer:List Env} {s s1:Shared} {H:Hp} {E:XK} {us:List Value} {vs:List V}
  (S:zh N ps scope) (hd:A.handled=none) (e0:Env0 P w K mg base A outer s H) (hl:vs.length=ps.length) (r:Vals vs us)
  (x:InCallC s s.heap.objs.size (bindL (envOfC qual scope s.heap.objs.size f cd).kindOf (ps.zip us) fun _=>none) (cellsFrom (s.heap.objs.size+1) scope.names []) (bindC (envOfC qual scope s.heap.objs.size f cd).kindOf (ps.zip us) fun _=>none) s1):
  Inv (yo CX P w K mg base N qual scope f cd A outer s H E) [] (start N vs) H s1:=by
 have hpl:ps.length≤N.length:=by have:=congrArg List.length S.pre; rw [List.length_take] at this; omega
 obtain ⟨h1,tk,rfl,hk⟩:=x.done
 have noA:∀ b:Addr,b∉(yo CX P w K mg base N qual scope f cd A outer s H E).ex:=fun b z=>absurd (show b∈([]:List Addr) from z) (by simp)
 refine ⟨⟨e0.mod,S.kind,rfl,rfl,Nat.le_refl _,fun y z c h1 h2=>?_,fun y hy=>?_,fun y c _ h=>?_,fun _=>hd,Around.frames_deeper e0.frames,.inr ⟨rfl,rfl⟩,fun b z=>absurd z (noA b),e0.bs,e0.bsz,fun b _ _=>noA b,fun b z=>absurd z (noA b),e0.funs,e0.frf⟩,
  rfl,e0.bare,Un.kept hk,⟨_,x.toInCall.ns,fun i y v h1 h2 h3=>?_⟩,fun y c h=>⟨_,x.cell y c h⟩,e0.hok.fresh (Nat.le_refl _),fun y c h=>?_,fun p hp=>absurd (show p∈([]:List (Addr × Obj)) from hp) (by simp),e0.hok.kept hk,?_⟩
 ·exact name_of_addr x.apart (PySem.mem_of_lookup h1) (PySem.mem_of_lookup h2)
 ·have hy:scope.names.lookup y=some .cell∨scope.names.lookup y=some .free:=hy
  rcases hy with hy | hy
  ·exact qp hy
  ·exact absurd rfl (S.nofree _ (PySem.mem_of_lookup hy))
 ·exact Nat.le_of_lt (x.above y c (PySem.mem_of_lookup h))
 ·have hi:i<vs.length:=by
   unfold start at h2
   by_cases hi:i<vs.length
   ·exact hi
   ·rw [List.getElem?_append_right (by simpa using hi)] at h2
    rw [List.getElem?_replicate] at h2
    split at h2 <;> cases h2
  have ha:vs[i]? = some v:=by
   unfold start at h2
   rw [List.getElem?_append_left (by simpa using hi),List.getElem?_map] at h2
   cases e:vs[i]? with
   | none=>rw [e] at h2; cases h2
   | some a=>rw [e] at h2; cases h2; rfl
  obtain ⟨u,hu,rv⟩:=r.get ha
  have hp:ps[i]? = some y:=by
   rw [← S.pre,List.getElem?_take_of_lt (by omega)]; exact h1
  have ndP:ps.Nodup:=by rw [← S.pre]; exact S.nd.sublist (List.take_sublist _ _)
  refine ⟨u,rv,?_⟩
  rcases S.par y (List.mem_of_getElem? hp) with k | k
  ·exact .inl ⟨k,pD ndP hp hu k⟩
  ·obtain ⟨c,e⟩:=qp (n:=s.heap.objs.size+1) k
   refine .inr ⟨.inl k,c,e,?_⟩
   have q:=x.cell y c e
   rw [pF ndP hp hu (by show scope.names.lookup y≠_; rw [k]; decide)] at q
   exact q
 ·exact e0.hok.fresh (Nat.le_of_lt (x.above y c (PySem.mem_of_lookup h)))
 ·unfold start
  show _=N.length
  rw [List.length_append,List.length_map,List.length_replicate]
  omega
theorem X5 {CX:CXT} {P:Program} {w:World} {K:PySem.W.Frag} {mg:Str→Option Value} {base:Heap} {k:Nat} {f:Addr} {name qual:Str} {params:Arguments} {body:List Stmt} {scope:Scope} {dV kV doc pm cdv ct oc:Value} {an od:Option Addr}
  {osl:Array (Option Value)} {N ps:List Str} {sp:Sp} (lk:K.lookup f=some ⟨oc,od,.func (PySem.W.fnOf name qual params body scope dV kV doc pm an cdv ct),osl⟩) (hcd:PySem.W.codeIn K cdv qual=true) (S:zh N ps scope)
  (len:∀ vs H Q E,sp vs H Q E→vs.length=ps.length)
  (hbody:∀ (A:Around) (outer:List Env) (s:Shared) (H:Hp) (vs:List V) (Q:VK) (E:XK),Room k (A.deeper (envOfC qual scope s.heap.objs.size f cdv))→sp vs H Q E→
   ∃ t,PSs (yo CX P w K mg base N qual scope f cdv A outer s H E) body t∧t { nx:=fun _ H'=>Q .non H',rt:=Q } (start N vs) H):
  FnOk P w K mg base CX (k+1) f (PySem.W.fnOf name qual params body scope dV kV doc pm an cdv ct) ps sp:=by
 refine ⟨len,fun A outer s H args us vs Q E hr e0 hb r hsp=>?_⟩
 have hl:=len _ _ _ _ hsp
 have KX:K.In s.heap:=e0.mod.kin.keeps fun b o e=>(e0.bs b o e).1
 have lim:s.heap.NoLimit:=e0.mod.nolimit.keeps fun b o e=>(e0.bs b o e).1
 have hkind:∀ y∈ps.zip us,scope.names.lookup y.1=some .local∨(scope.names.lookup y.1=some .cell∧((cellsFrom (s.heap.objs.size+1) scope.names []).lookup y.1).isSome=true):=fun ⟨n,v⟩ hy=>by
  rcases S.par n (List.of_mem_zip hy).1 with q | q
  ·exact .inl q
  ·exact .inr ⟨q,PySem.W.cellsFrom_some _ _ _ (.inl q)⟩
 refine codeAny_call_function hr.depth (KX _ _ lk) rfl S.co S.gen rfl (PySem.W.codeRec_of KX hcd) (hb _ _ _ _ ?_)
 refine wpAny_newFunctionEnv_cells S.kind hkind fun env he s1 x=>?_
 subst he
 refine ⟨lim.keeps x.toInCall.keep,codeAny_func ?_⟩
 obtain ⟨t,ht,hq⟩:=hbody A outer s H vs Q E (hr.deeper _) hsp
 have I:Inv (yo CX P w K mg base N qual scope f cdv A outer s H E) [] (start N vs) H s1:=jO S hr.hd e0 hl r x
 refine wpAny_mono (ht [] s1 (start N vs) H _ I hq) (fun fl s' hs=>?_) fun e s' hs=>hs
 have fin:∀ {σ':St} {H':Hp} {v:V} {u:Value},Inv (yo CX P w K mg base N qual scope f cdv A outer s H E) [] σ' H' s'→RelV v u→Q v H'→CE outer P w H s Q u s':=
  fun {σ' H' v u} J rv q=>⟨v,H',J.os,J.bare,J.base,J.hok,rv,q⟩
 cases fl with
 | ret u=>
  obtain ⟨v,σ',H',J,rv,q⟩:=hs
  exact fin J rv q
 | next=>
  obtain ⟨σ',H',J,q⟩:=hs
  exact fin (v:=V.non) (u:=Value.none) J rfl q
 | brk=>
  obtain ⟨_,_,_,q⟩:=hs
  exact False.elim q
 | cont=>
  obtain ⟨_,_,_,q⟩:=hs
  exact False.elim q
end L2
namespace L2
open PySem PySem.Spec PyProof.Rows
section
variable {X:Cx} {x:Str} {p pos:Pos} {e:Expr} {es:List Expr} {t:TA} {id T:String} {r:List V→Hp→VK→Prop}
def tCB (r:List V→Hp→VK→Prop) (t:TA):TE:=fun σ H Q=>t σ H fun vs H1=>r vs H1 Q
theorem xq (hc:CallR X (.builtin id) r) (hg:Gl X x) (hm:X.mg x=none) (hv:bootBuiltins x=some (.builtin id)) (ha:PA X (e::es) t) (hn:x≠"__name__":=by decide) (hdb:(x == ("__debug__":Str))=false:=by decide)
  (he:starEach (e::es) X.env=(false,eval e X.env)::starEach es X.env:=by rfl) (hpl:(backTo pos (starEach es X.env)).any (·.1)=false:=by rfl):PE X (.Call (.Name x p) (e::es) [] pos) (tCB r t):=by
 intro pins s σ H Q I h
 refine wpAny_Call_Name_kw (vO I hg hm hv ?_ hn hdb)
 exact PyProof.Rows.callWith_builtin1 (thn (ha pos pins s σ H _ I h) fun us s1 ⟨vs,H1,I1,r1,q1⟩=>hc pins s1 σ H1 vs us Q I1 r1 q1) he hpl
theorem k_ (hc:CallR X (.type T) r) (hg:Gl X x) (hm:X.mg x=none) (hv:bootBuiltins x=some (.type T)) (ha:PA X (e::es) t) (hn:x≠"__name__":=by decide) (hdb:(x == ("__debug__":Str))=false:=by decide)
  (he:starEach (e::es) X.env=(false,eval e X.env)::starEach es X.env:=by rfl) (hpl:(backTo pos (starEach es X.env)).any (·.1)=false:=by rfl):PE X (.Call (.Name x p) (e::es) [] pos) (tCB r t):=by
 intro pins s σ H Q I h
 refine wpAny_Call_Name_kw (vO I hg hm hv ?_ hn hdb)
 exact PyProof.Rows.callWith_type1 (thn (ha pos pins s σ H _ I h) fun us s1 ⟨vs,H1,I1,r1,q1⟩=>hc pins s1 σ H1 vs us Q I1 r1 q1) he hpl
end
end L2
namespace HT
open PySem PyProof.Rows
section
open PySem.SeqAt
open PySem.AutoSeq1 (wpAny_loadPart')
open PySem.MeetsSeq PySem.MeetsSeq2 PySem.MeetsSeq3
end
section
variable {prog:Program} {w:World} {A:Around} {E:Value→Shared→Prop} {s:Shared}
def sIx (n d:Nat):Option Int→Nat
 | none=>d
 | some v=>if v<0 then (v+(n:Int)).toNat else min v.toNat n
theorem sIx_none (n d:Nat):sIx n d none=d:=rfl
theorem sIx_nat (n d k:Nat):sIx n d (some (k:Int))=min k n:=by
 show (if (k:Int)<0 then ((k:Int)+(n:Int)).toNat else min (k:Int).toNat n)=min k n
 rw [if_neg (by omega),Int.toNat_natCast]
end
end HT
namespace L2
open PySem PySem.Spec PyProof.Rows
abbrev TO:=St→Hp→(Option Int→Hp→Prop)→Prop
def PO (X:Cx) (e:Option Expr) (t:TO):Prop:=
 ∀ (pins:List (Addr × Obj)) (s:Shared) (σ:St) (H:Hp) (Q:Option Int→Hp→Prop),Inv X pins σ H s→t σ H Q→
  wpAny (model X.prog X.w) X.A (evalPart e X.env) (fun u s'=>∃ o H',Inv X pins σ H' s'∧IsPart u o∧Q o H') X.xe s
def cY:TO:=fun _ H Q=>Q none H
def Se (t:TE):TO:=fun σ H Q=>t σ H fun x H1=>∃ i,x=.int i∧Q (some i) H1
section
variable {X:Cx} {e:Expr} {te:TE} {lo hi:Option Expr} {tl th:TO} {pos p2:Pos}
theorem br:PO X none cY:=by
 intro pins s σ H Q I h
 rw [evalPart_none]
 exact wpAny_pure ⟨none,H,I,.none,h⟩
theorem bq (h:PE X e te):PO X (some e) (Se te):=by
 intro pins s σ H Q I hw
 rw [evalPart_some]
 refine thn (h pins s σ H _ I hw) fun u s1 ⟨x,H1,I1,r1,q1⟩=>?_
 obtain ⟨i,rfl,q⟩:=q1
 obtain ⟨t,rfl⟩:=r1
 exact ⟨some i,H1,I1,.int i t,q⟩
def SlR (X:Cx) (r:V→Option Int→Option Int→Hp→VK→Prop):Prop:=
 ∀ (pins:List (Addr × Obj)) (s:Shared) (σ:St) (H:Hp) (x:V) (v vl vu:Value) (lo hi:Option Int) (sl:Addr) (Q:VK),Inv X pins σ H s→RelV x v→s.heap.IsSliceOf sl vl vu .none→IsPart vl lo→IsPart vu hi→r x lo hi H Q→
  ∃ T id,typeLookup (.type T) "__getitem__"=pure (some (.builtin id))∧s.TypeIs v T∧wpAny (model X.prog X.w) X.A (getItem v (.ref sl)) (EP X pins σ Q) X.xe s
theorem SlR.or {r r':V→Option Int→Option Int→Hp→VK→Prop} (h:SlR X r) (h':SlR X r'):SlR X (fun x lo hi H Q=>r x lo hi H Q∨r' x lo hi H Q):=by
 intro pins s σ H x v vl vu lo hi sl Q I rx hs pl pu q
 rcases q with q | q
 ·exact h pins s σ H x v vl vu lo hi sl Q I rx hs pl pu q
 ·exact h' pins s σ H x v vl vu lo hi sl Q I rx hs pl pu q
def tSl (r:V→Option Int→Option Int→Hp→VK→Prop) (te:TE) (tl th:TO):TE:=fun σ H Q=>te σ H fun x H1=>tl σ H1 fun l H2=>th σ H2 fun u H3=>r x l u H3 Q
theorem iO {r:V→Option Int→Option Int→Hp→VK→Prop} (hr:SlR X r) (he:PE X e te) (hl:PO X lo tl) (hu:PO X hi th):PE X (.Subscript e (.Slice lo hi none p2) pos) (tSl r te tl th):=by
 intro pins s σ H Q I h
 refine Subscript_ (thn (he pins s σ H _ I h) fun v s1 ⟨x,H1,I1,r1,q1⟩=>?_)
 refine wpAny_Slice (thn (hl pins s1 σ H1 _ I1 q1) fun vl s2 ⟨l,H2,I2,pl,q2⟩=>thn (hu pins s2 σ H2 _ I2 q2) fun vu s3 ⟨u,H3,I3,pu,q3⟩=>?_)
 rw [evalPart_none]
 refine wpAny_pure ?_
 have I4:Inv X pins σ H3 { s3 with heap:=s3.heap.push { cls:=.type "slice",data:=.fields #[vl,vu,.none] } }:=I3.kept (t':=s3.toks) fun b ob q=>Heap.get?_push_of_some _ q
 obtain ⟨T,id,hT,ht,hg⟩:=hr pins { s3 with heap:=s3.heap.push { cls:=.type "slice",data:=.fields #[vl,vu,.none] } } σ H3 x v vl vu l u s3.heap.objs.size Q I4 r1 (Heap.IsSliceOf.new ..) pl pu q3
 show wpAny (model X.prog X.w) X.A (subscriptTail e (.Slice lo hi none p2) v (.ref s3.heap.objs.size)) (EP X pins σ Q) X.xe { s3 with heap:=s3.heap.push { cls:=.type "slice",data:=.fields #[vl,vu,.none] } }
 exact tail_any (ops:=[.ref s3.heap.objs.size,v]) ht hT hg (by with_unfolding_all rfl)
def ly (xs:List V) (lo hi:Option Int):List V:=(xs.drop (HT.sIx xs.length 0 lo)).take (HT.sIx xs.length xs.length hi - HT.sIx xs.length 0 lo)
theorem nY (xs:List V) (lo hi:Option Int):(ly xs lo hi).length≤xs.length:=by
 unfold ly
 rw [List.length_take,List.length_drop]
 omega
end
end L2
namespace L2
open PySem PySem.Spec PyProof.Rows
def ixN (n:Nat) (i:Int):Option Nat:=if 0≤i then (if i<n then some i.toNat else none) else if -(n:Int)≤i then some (i+n).toNat else none
def atI {α:Type} (xs:List α) (i:Int):Option α:=(ixN xs.length i).bind fun j=>xs[j]?
theorem Y7 {n:Nat} {i:Int} {j:Nat} (h:ixN n i=some j):seqIndex? i n=some j∧j<n∧-(n:Int)≤i∧i<n:=by
 unfold ixN at h
 by_cases h0:0≤i
 ·rw [if_pos h0] at h
  by_cases h1:i<n
  ·rw [if_pos h1] at h
   have e:i.toNat=j:=Option.some.inj h
   exact ⟨by rw [seqIndex_of h0 h1,e],by omega,by omega,h1⟩
  ·rw [if_neg h1] at h; cases h
 ·rw [if_neg h0] at h
  by_cases h1:-(n:Int)≤i
  ·rw [if_pos h1] at h
   have e:(i+n).toNat=j:=Option.some.inj h
   exact ⟨by rw [seqIndex_neg (by omega) h1,e],by omega,h1,by omega⟩
  ·rw [if_neg h1] at h; cases h
theorem oO {α:Type} {xs:List α} {i:Int} {v:α} (h:atI xs i=some v):∃ j,seqIndex? i xs.length=some j∧xs[j]? = some v∧j<xs.length∧-(xs.length:Int)≤i∧i<xs.length:=by
 unfold atI at h
 cases e:ixN xs.length i with
 | none=>rw [e] at h; cases h
 | some j=>
  rw [e] at h
  obtain ⟨h1,h2,h3,h4⟩:=Y7 e
  exact ⟨j,h1,h,h2,h3,h4⟩
theorem wC {α:Type} {xs:List α} {j:Nat} {v:α} (h:xs[j]? = some v):atI xs (j:Int)=some v:=by
 have hj:j<xs.length:=(List.getElem?_eq_some_iff.mp h).1
 have e:ixN xs.length (j:Int)=some j:=by
  unfold ixN
  rw [if_pos (by omega),if_pos (by omega)]; simp
 unfold atI; rw [e]; exact h
theorem atI_last {α:Type} (xs:List α) (v:α):atI (xs++[v]) (-1)=some v:=by
 have hl:(xs++[v]).length=xs.length+1:=by simp
 have e:ixN (xs++[v]).length (-1)=some xs.length:=by
  unfold ixN
  rw [hl,if_neg (by decide),if_pos (by omega)]
  congr 1
  omega
 unfold atI
 rw [e]
 show (xs++[v])[xs.length]? = some v
 simp
def vv (b:Expr):Prop:=∀ o i,subscripted b false o i=operate [o,i] (getItem o i)
def IxR (X:Cx) (r:R2):Prop:=
 ∀ (value slice:Expr) (pins:List (Addr × Obj)) (s:Shared) (σ:St) (H:Hp) (x y:V) (v u:Value) (Q:VK),Inv X pins σ H s→RelV x v→RelV y u→r x y H Q→
  subscripted slice false v u=operate [v,u] (getItem v u)→wpAny (model X.prog X.w) X.A (subscriptTail value slice v u) (EP X pins σ Q) X.xe s
def MtR (X:Cx) (id:String) (r:V→List V→Hp→VK→Prop):Prop:=
 ∀ (pins:List (Addr × Obj)) (s:Shared) (σ:St) (H:Hp) (x:V) (xs:List V) (v:Value) (us:List Value) (Q:VK),Inv X pins σ H s→RelV x v→Vals xs us→r x xs H Q→
  wpAny (model X.prog X.w) X.A (call (.builtin id) (v::us)) (EP X pins σ Q) X.xe s
section
variable {X:Cx} {a b:Expr} {ta tb:TE} {pos:Pos}
theorem IxR.or {r r':R2} (h:IxR X r) (h':IxR X r'):IxR X (fun x y H Q=>r x y H Q∨r' x y H Q):=by
 intro value slice pins s σ H x y v u Q I rx ry q hs
 rcases q with q | q
 ·exact h value slice pins s σ H x y v u Q I rx ry q hs
 ·exact h' value slice pins s σ H x y v u Q I rx ry q hs
theorem MtR.or {id:String} {r r':V→List V→Hp→VK→Prop} (h:MtR X id r) (h':MtR X id r'):MtR X id (fun x xs H Q=>r x xs H Q∨r' x xs H Q):=by
 intro pins s σ H x xs v us Q I rx rs q
 rcases q with q | q
 ·exact h pins s σ H x xs v us Q I rx rs q
 ·exact h' pins s σ H x xs v us Q I rx rs q
theorem tU {r:R2} (hr:IxR X r) (ha:PE X a ta) (hb:PE X b tb) (hs:vv b):PE X (.Subscript a b pos) (tOp r ta tb):=by
 intro pins s σ H Q I h
 exact Subscript_ (T6 ha hb I h fun v u s2 x y H2 I2 rx ry q=>hr a b pins s2 σ H2 x y v u Q I2 rx ry q (hs _ _))
def Sx (K:PySem.W.Frag):R2:=fun x y H Q=>∃ p xs i v,x=.ref p∧y=.int i∧SqL K H p xs∧atI xs i=some v∧Q v H
def Sv (K:PySem.W.Frag):R2:=fun x y H Q=>∃ p xs i v,x=.ref p∧y=.int i∧SqT K H p xs∧atI xs i=some v∧Q v H
def Sw:R2:=fun x y H Q=>∃ z i c,x=.str z∧y=.int i∧z.length≤sizeLine∧atI z.cps.toList i=some c∧Q (.str ⟨#[c]⟩) H
theorem ix_list:IxR X (Sx X.K):=by
 intro value slice pins s σ H x y v u Q I rx ry h hs
 obtain ⟨p,xs,i,z,rfl,rfl,hq,he,q⟩:=h
 cases rx
 obtain ⟨t,rfl⟩:=ry
 obtain ⟨its,r,pl,hz⟩:=I.list hq
 obtain ⟨j,h1,h2,h3,h4,h5⟩:=oO he
 obtain ⟨w,ew,rw'⟩:=r.get h2
 have hl:=r.length
 have hn:=rV
 have fin:EP X pins σ Q w s:=⟨z,H,I,rw',q⟩
 by_cases h0:0≤i
 ·have hj:i.toNat=j:=by
   rw [seqIndex_of h0 h5] at h1
   exact Option.some.inj h1
  exact item_listR pl.isList h0 (by omega) (by rw [hj]; simpa using ew) fin hs
 ·have hj:(i+(its.toArray.size:Int)).toNat=j:=by
   rw [seqIndex_neg (by omega) h4] at h1
   rw [List.size_toArray,← hl]
   exact Option.some.inj h1
  exact subscriptTail_builtinR (x:=w) pl.isList.typeIs slot_list_getitem.lookup
   (wpAny_getItem_list_neg (Q:=fun r s'=>r=w∧EP X pins σ Q r s') pl.isList (by omega) (by rw [List.size_toArray] <;> omega) (by omega) (by rw [hj]; simpa using ew) ⟨rfl,fin⟩) hs
theorem ix_tup:IxR X (Sv X.K):=by
 intro value slice pins s σ H x y v u Q I rx ry h hs
 obtain ⟨p,xs,i,z,rfl,rfl,hq,he,q⟩:=h
 cases rx
 obtain ⟨t,rfl⟩:=ry
 obtain ⟨its,r,pl,hz⟩:=I.tuple hq
 obtain ⟨j,h1,h2,h3,h4,h5⟩:=oO he
 obtain ⟨w,ew,rw'⟩:=r.get h2
 have hl:=r.length
 have hn:=rV
 have fin:EP X pins σ Q w s:=⟨z,H,I,rw',q⟩
 exact subscriptTail_builtinR (x:=w) pl.typeIs slot_tuple_getitem.lookup
  (getItem_tuple (j:=j) (Q:=fun r s'=>r=w∧EP X pins σ Q r s') pl (by omega) (by omega) (by rw [List.size_toArray,← hl]; exact h1) (by simpa using ew) ⟨rfl,fin⟩) hs
theorem Tp:IxR X Sw:=by
 intro value slice pins s σ H x y v u Q I rx ry h hs
 obtain ⟨z,i,c,rfl,rfl,hz,he,q⟩:=h
 obtain ⟨t,rfl⟩:=rx
 obtain ⟨t',rfl⟩:=ry
 obtain ⟨j,h1,h2,h3,h4,h5⟩:=oO he
 have hl:z.cps.toList.length=z.length:=by simp [Str.length]
 rw [hl] at h1 h4 h5
 have hn:=rV
 exact tail_any (typeIs_str s z t) slot_str_getitem.lookup (getItem_str (c:=c) (by
  have e1:decide (i < -(2 ^ 63:Int))=false:=decide_eq_false (by omega)
  have e2:decide (i ≥ 2 ^ 63)=false:=decide_eq_false (by omega)
  rw [e1,e2,Bool.or_false]) (by rw [h1]; simpa using h2) ⟨.str ⟨#[c]⟩,H,I.tok _,⟨_,rfl⟩,q⟩) hs
def rIx (K:PySem.W.Frag):R2:=fun x y H Q=>Sx K x y H Q∨Sv K x y H Q∨Sw x y H Q
theorem dr:IxR X (rIx X.K):=ix_list.or (ix_tup.or Tp)
theorem pM (lo hi:Option Int) (n:Nat):(sliceBounds lo hi none n).1=((HT.sIx n 0 lo:Nat):Int)∧(sliceBounds lo hi none n).2.1=((HT.sIx n n hi:Nat):Int)∧(sliceBounds lo hi none n).2.2=1:=by
 refine ⟨?_,?_,rfl⟩
 ·cases lo with
  | none=>simp [sliceBounds,HT.sIx]
  | some i=>
   simp only [sliceBounds,HT.sIx,Option.getD_none,show (1:Int)>0 by decide,if_true]
   by_cases h:i<0
   ·simp only [h,if_true] <;> omega
   ·simp only [h,if_false] <;> omega
 ·cases hi with
  | none=>simp [sliceBounds,HT.sIx]
  | some i=>
   simp only [sliceBounds,HT.sIx,Option.getD_none,show (1:Int)>0 by decide,if_true]
   by_cases h:i<0
   ·simp only [h,if_true] <;> omega
   ·simp only [h,if_false] <;> omega
theorem qt (its:List Value) (lo hi:Option Int):slicePick its.toArray lo hi none=((its.drop (HT.sIx its.length 0 lo)).take (HT.sIx its.length its.length hi - HT.sIx its.length 0 lo)).toArray:=by
 obtain ⟨h1,h2,h3⟩:=pM lo hi its.toArray.size
 unfold slicePick
 rw [h1,h2,h3]
 simp only [sliceRange_one,pick_run,List.size_toArray] <;> rfl
def Qt (K:PySem.W.Frag):V→Option Int→Option Int→Hp→VK→Prop:=fun x lo hi H Q=>∃ a xs,x=.ref a∧SqL K H a xs∧∀ p,H p=none→Q (.ref p) (upd H p (.lst (ly xs lo hi)))
theorem c6:SlR X (Qt X.K):=by
 intro pins s σ H x v vl vu lo hi sl Q I rx hs pl pu h
 obtain ⟨a,xs,rfl,hx,q⟩:=h
 cases rx
 obtain ⟨its,r,ht,hz⟩:=I.list hx
 have hlen:=r.length
 refine ⟨"list",_,slot_list_getitem.lookup,ht.isList.typeIs,?_⟩
 refine wpAny_getItem_list_slice ht.isList hs pl pu .none (by simp) ?_ (by rw [List.size_toArray] <;> omega)
 rw [qt,← hlen]
 refine ⟨.ref s.heap.objs.size,_,I.laid (t':=s.toks) (o:=.lst (ly xs lo hi)) (fun b ob q=>Heap.get?_push_of_some _ q) (Nat.le_refl _) ?_,rfl,q _ (I.hok.fresh (Nat.le_refl _))⟩
 exact ⟨Nat.le_trans (nY xs lo hi) hz,_,0,(r.drop (HT.sIx xs.length 0 lo)).take (HT.sIx xs.length xs.length hi - HT.sIx xs.length 0 lo),Heap.get?_push_size _ rfl⟩
def km:V→Bool
 | .non=>true
 | .bl _=>true
 | .int _=>true
 | .str _=>true
 | _=>false
def eqV:V→V→Bool
 | .non,.non=>true
 | .bl a,.bl b=>a == b
 | .bl a,.int b=>(if a then 1 else 0) == b
 | .int a,.bl b=>a == (if b then 1 else 0)
 | .int a,.int b=>a == b
 | .str a,.str b=>a == b
 | _,_=>false
theorem dP {A:Around} {s:Shared} {y x:V} {u v:Value} (ry:RelV y u) (rx:RelV x v) (fy:km y=true) (fx:km x=true):SeqAt.EqAt A s u v (eqV y x):=by
 cases y with
 | non=>
  cases ry
  cases x with
  | non=>cases rx; exact SeqAt.EqAt.same _
  | bl b=>cases rx; exact SeqAt.EqAt.none_bool b
  | int b=>obtain ⟨t,rfl⟩:=rx; exact SeqAt.EqAt.none_int b t
  | str b=>obtain ⟨t,rfl⟩:=rx; exact SeqAt.EqAt.none_str b t
  | _=>exact absurd (show false=true from fx) Bool.false_ne_true
 | bl a=>
  cases ry
  cases x with
  | non=>cases rx; exact SeqAt.EqAt.bool_none a
  | bl b=>cases rx; exact SeqAt.EqAt.bool_bool a b
  | int b=>obtain ⟨t,rfl⟩:=rx; exact SeqAt.EqAt.bool_int a b t
  | str b=>obtain ⟨t,rfl⟩:=rx; exact SeqAt.EqAt.bool_str a b t
  | _=>exact absurd (show false=true from fx) Bool.false_ne_true
 | int a=>
  obtain ⟨t',rfl⟩:=ry
  cases x with
  | non=>cases rx; exact SeqAt.EqAt.int_none a t'
  | bl b=>cases rx; exact SeqAt.EqAt.int_bool a t' b
  | int b=>obtain ⟨t,rfl⟩:=rx; exact SeqAt.EqAt.int_int a t' b t
  | str b=>obtain ⟨t,rfl⟩:=rx; exact SeqAt.EqAt.int_str a t' b t
  | _=>exact absurd (show false=true from fx) Bool.false_ne_true
 | str a=>
  obtain ⟨t',rfl⟩:=ry
  cases x with
  | non=>cases rx; exact SeqAt.EqAt.str_none a t'
  | bl b=>cases rx; exact SeqAt.EqAt.str_bool a t' b
  | int b=>obtain ⟨t,rfl⟩:=rx; exact SeqAt.EqAt.str_int a t' b t
  | str b=>obtain ⟨t,rfl⟩:=rx; exact SeqAt.EqAt.str_str a t' b t
  | _=>exact absurd (show false=true from fx) Bool.false_ne_true
 | _=>exact absurd (show false=true from fy) Bool.false_ne_true
theorem uL:CallR X (.builtin "len") (fun xs H Q=>∃ p ys,xs=[.ref p]∧(SqL X.K H p ys∨SqT X.K H p ys)∧Q (.int ys.length) H):=by
 intro pins s σ H xs us Q I r h
 obtain ⟨p,ys,rfl,hq,q⟩:=h
 obtain ⟨u,rfl,rx⟩:=XN r
 cases rx
 have hn:=rV
 rcases hq with hq | hq
 ·obtain ⟨its,r',pl,hz⟩:=I.list hq
  have hlen:=r'.length
  exact Calls.call_len_list pl.isList (by simp only [List.size_toArray] <;> omega) ⟨.int ys.length,H,I.tok _,⟨s.toks + 1,by rw [List.size_toArray,hlen]⟩,q⟩
 ·obtain ⟨its,r',pl,hz⟩:=I.tuple hq
  have hlen:=r'.length
  exact len_tuple pl (by simp only [List.size_toArray] <;> omega) ⟨.int ys.length,H,I.tok _,⟨s.toks + 1,by rw [List.size_toArray,hlen]⟩,q⟩
theorem CallR.or {f:Value} {r r':List V→Hp→VK→Prop} (h:CallR X f r) (h':CallR X f r'):CallR X f (fun xs H Q=>r xs H Q∨r' xs H Q):=by
 intro pins s σ H xs us Q I rs q
 rcases q with q | q
 ·exact h pins s σ H xs us Q I rs q
 ·exact h' pins s σ H xs us Q I rs q
theorem oK:CallR X (.type "list") (fun xs H Q=>∃ p ys,xs=[.ref p]∧(SqL X.K H p ys∨SqT X.K H p ys)∧∀ l,H l=none→Q (.ref l) (upd H l (.lst ys))):=by
 intro pins s σ H xs us Q I r h
 obtain ⟨p,ys,rfl,hq,q⟩:=h
 obtain ⟨u,rfl,rx⟩:=XN r
 cases rx
 have fin:∀ (its:List Value),Vals ys its→ys.length≤sizeLine→∀ (h':Heap) (c':Nat),(∀ b o',s.heap.get? b=some o'→h'.get? b=some o')→
   h'.get? s.heap.objs.size=some { cls:=.type "list",dict:=none,data:=.seq its.toArray c',slots:=#[] }→EP X pins σ Q (.ref s.heap.objs.size) { s with heap:=h' }:=fun its r' hz h' c' kp e=>
  ⟨.ref s.heap.objs.size,_,I.laid (t':=s.toks) kp (Nat.le_refl _) (show ObjOk X.prog X.w _ h' _ (.lst ys) from ⟨hz,its,c',r',e⟩),rfl,q _ (I.hok.fresh (Nat.le_refl _))⟩
 rcases hq with hq | hq
 ·obtain ⟨its,r',pl,hz⟩:=I.list hq
  have hlen:=r'.length
  obtain ⟨o,ho,hc,n,hd⟩:=pl.isList
  exact call_list_seq p (.inl rfl) ho hc hd (fun h' c' kp e=>fin its r' hz h' c' kp e) (by simp only [List.size_toArray] <;> omega)
 ·obtain ⟨its,r',pl,hz⟩:=I.tuple hq
  have hlen:=r'.length
  obtain ⟨o,ho,hc,n,hd⟩:=pl
  exact call_list_seq p (.inr rfl) ho hc hd (fun h' c' kp e=>fin its r' hz h' c' kp e) (by simp only [List.size_toArray] <;> omega)
def tyV (K:PySem.W.Frag) (T:String) (x:V) (H:Hp):Prop:=match x with
 | .str _=>T="str"
 | .int _=>T="int"
 | .ref p=>(T="list"∧∃ xs,SqL K H p xs)∨(T="tuple"∧∃ o,K.lookup p=some o∧o.cls=.type "tuple"∧o.dict=none)∨
   (T="dict"∧((∃ kvs,H p=some (.dK kvs))∨∃ kvs,H p=some (.dT kvs)))∨(T="set"∧∃ S n,H p=some (.set S n))
 | _=>False
theorem ij {pins:List (Addr × Obj)} {σ:St} {H:Hp} {s:Shared} {T:String} {x:V} {v:Value} (I:Inv X pins σ H s) (r:RelV x v) (ty:tyV X.K T x H):
  s.TypeIs v T∧∀ a,v=.ref a→∃ ob,s.heap.get? a=some ob∧ob.dict=none:=by
 cases x with
 | str z=>
  obtain ⟨t,rfl⟩:=r
  cases (show T="str" from ty)
  exact ⟨typeIs_str s z t,fun _ e=>nomatch e⟩
 | int i=>
  obtain ⟨t,rfl⟩:=r
  cases (show T="int" from ty)
  exact ⟨typeIs_int s i t,fun _ e=>nomatch e⟩
 | ref p=>
  cases r
  rcases ty with ⟨rfl,xs,hq⟩ | ⟨rfl,o,hk,hc,hd⟩ | ⟨rfl,hk⟩ | ⟨rfl,S,n,hk⟩
  ·obtain ⟨its,_,pl,_⟩:=I.list hq
   refine ⟨pl.isList.typeIs,fun a e=>?_⟩
   cases e
   obtain ⟨o,n,e,c,hd,_⟩:=pl
   exact ⟨o,e,hd⟩
  ·refine ⟨⟨o,I.kIn p o hk,hc⟩,fun a e=>?_⟩
   cases e
   exact ⟨o,I.kIn _ o hk,hd⟩
  ·have z:∃ o,s.heap.get? p=some o∧o.ExactDict:=by
    rcases hk with ⟨kvs,hk⟩ | ⟨kvs,hk⟩
    ·obtain ⟨_,_,_,_,o,_,_,e,ex,_⟩:=I.hok p _ hk
     exact ⟨o,e,ex⟩
    ·obtain ⟨_,_,_,_,o,_,_,e,ex,_⟩:=I.hok p _ hk
     exact ⟨o,e,ex⟩
   obtain ⟨o,e,ex⟩:=z
   refine ⟨⟨o,e,ex.1⟩,fun a e2=>?_⟩
   cases e2
   exact ⟨o,e,ex.2.1⟩
  ·obtain ⟨o,_,_,_,e,ex,_⟩:=I.hok p _ hk
   refine ⟨⟨o,e,ex.1⟩,fun a e2=>?_⟩
   cases e2
   exact ⟨o,e,ex.2.1⟩
 | _=>exact False.elim ty
def Qn (K:PySem.W.Frag) (T:String) (r:V→List V→Hp→VK→Prop) (to:TE):TE:=fun σ H Q=>to σ H fun x H1=>tyV K T x H1∧r x [] H1 Q
def tBM (K:PySem.W.Frag) (T:String) (r:V→List V→Hp→VK→Prop) (to:TE) (t:TA):TE:=fun σ H Q=>to σ H fun x H1=>tyV K T x H1∧t σ H1 fun xs H2=>r x xs H2 Q
variable {o e:Expr} {es:List Expr} {to:TE} {t:TA} {name:Str} {apos cpos:Pos} {T id:String} {r:V→List V→Hp→VK→Prop}
theorem WM (pa:PlainAttrs T) (slot:Slot T name id) (hty:typeOf (.builtin id)=pure (.type "method_descriptor")) (hm:MtR X id r) (ho:PE X o to)
  (hbase:attributeBase o name X.env (eval o X.env)=eval o X.env:=by rfl) (hline:(apos.endLine == cpos.line)=true:=by rfl):PE X (.Call (.Attribute o name apos) [] [] cpos) (Qn X.K T r to):=by
 intro pins s σ H Q I h
 refine wpAny_Call_method0_late hbase hline (thn (ho pins s σ H _ I h) fun v s1 ⟨x,H1,I1,r1,ty,q1⟩=>?_)
 obtain ⟨h1,h2⟩:=ij I1 r1 ty
 exact ⟨T,id,pa,slot,hty,h1,h2,Calls.callWith_builtin rfl (PySem.evalArgs_none (hm pins s1 σ H1 x [] v [] Q I1 r1 .nil q1))⟩
theorem XU (pa:PlainAttrs T) (slot:Slot T name id) (hty:typeOf (.builtin id)=pure (.type "method_descriptor")) (hm:MtR X id r) (ho:PE X o to) (ha:PA X (e::es) t)
  (hbase:attributeBase o name X.env (eval o X.env)=eval o X.env:=by rfl)
  (hfew:((backTo cpos (starEach (e::es) X.env)).all (fun x=>!x.1) && (backToKw cpos (keywordEach [] X.env)).all (fun x=>x.1.isSome)
   && decide ((e::es).length+([]:List Keyword).length+(if ([]:List Keyword).isEmpty then 0 else 1)<30))=true:=by rfl)
  (hline:(apos.endLine == cpos.line)=true:=by rfl) (hs:starEach (e::es) X.env=(false,eval e X.env)::starEach es X.env:=by rfl) (hplain:(backTo cpos (starEach es X.env)).any (·.1)=false:=by rfl):
  PE X (.Call (.Attribute o name apos) (e::es) [] cpos) (tBM X.K T r to t):=by
 intro pins s σ H Q I h
 refine wpAny_Call_method_late hbase hfew hline rfl (thn (ho pins s σ H _ I h) fun v s1 ⟨x,H1,I1,r1,ty,q1⟩=>?_)
 obtain ⟨h1,h2⟩:=ij I1 r1 ty
 refine ⟨T,id,pa,slot,hty,h1,h2,?_⟩
 have hA:=ha cpos pins s1 σ H1 _ I1 q1
 rw [hs] at hA ⊢
 refine Calls.callWith_builtin (by show (false || (backTo cpos (starEach es X.env)).any (·.1))=false; rw [hplain] <;> rfl) (Calls.evalArgs_plain ?_)
 exact thn hA fun us s2 ⟨vs,H2,I2,r2,q2⟩=>hm pins s2 σ H2 x vs v us Q I2 r1 r2 q2
end
end L2
namespace L2
open PySem PySem.Spec PyProof.Rows
def MtM (X:Cx) (id:String) (r:V→List V→Hp→VK→Prop):Prop:=
 ∀ (pins:List (Addr × Obj)) (s:Shared) (σ:St) (H:Hp) (x:V) (xs:List V) (v:Value) (us:List Value) (Q:VK),Inv X pins σ H s→RelV x v→Vals xs us→r x xs H Q→
  wpAny (model X.prog X.w) X.A (call (.builtin id) (v::us)) (EP X pins σ Q) X.xe s
theorem Vals.one:∀ {x:V} {us:List Value},Vals [x] us→∃ u,us=[u]∧RelV x u
 | _,_,.cons r .nil=>⟨_,rfl,r⟩
theorem Vals.two:∀ {x y:V} {us:List Value},Vals [x,y] us→∃ u v,us=[u,v]∧RelV x u∧RelV y v
 | _,_,_,.cons r (.cons q .nil)=>⟨_,_,rfl,r,q⟩
theorem Vals.zero:∀ {us:List Value},Vals [] us→us=[]
 | _,.nil=>rfl
theorem Vals.dropLast {xs:List V} {us:List Value} (h:Vals xs us):Vals xs.dropLast us.dropLast:=by
 induction h with
 | nil=>exact .nil
 | cons r t ih=>
  cases t with
  | nil=>exact .nil
  | cons q t'=>exact .cons r ih
theorem Vals.eraseIdx:∀ {xs:List V} {us:List Value} (i:Nat),Vals xs us→Vals (xs.eraseIdx i) (us.eraseIdx i)
 | _,_,_,.nil=>.nil
 | _,_,0,.cons _ t=>t
 | _,_,i+1,.cons r t=>.cons r (Vals.eraseIdx i t)
theorem Vals.reverse {xs:List V} {us:List Value} (h:Vals xs us):Vals xs.reverse us.reverse:=by
 induction h with
 | nil=>exact .nil
 | cons r t ih=>rw [List.reverse_cons,List.reverse_cons]; exact Vals.append ih (.cons r .nil)
theorem Vals.rep {xs:List V} {us:List Value} (h:Vals xs us):∀ k:Nat,Vals (List.replicate k xs).flatten (List.replicate k us).flatten
 | 0=>.nil
 | k+1=>by
  rw [List.replicate_succ,List.replicate_succ,List.flatten_cons,List.flatten_cons]
  exact Vals.append h (Vals.rep h k)
theorem lh {α:Type} (l:List α):l.eraseIdx (l.length - 1)=l.dropLast:=by
 induction l with
 | nil=>rfl
 | cons a r ih=>
  cases r with
  | nil=>rfl
  | cons b r=>
   have e:(a::b::r).length - 1=((b::r).length - 1)+1:=by
    have h1:(a::b::r).length=r.length+2:=rfl
    have h2:(b::r).length=r.length+1:=rfl
    omega
   rw [e,List.eraseIdx_cons_succ,ih]
   all_goals rfl
theorem pe (its:List Value):∀ (k:Nat) (acc:List Value),
  List.foldl (fun x1 x2=>x1++x2) acc.toArray (List.replicate k its.toArray)=(acc++(List.replicate k its).flatten).toArray
 | 0,acc=>by simp
 | k+1,acc=>by
  have e:acc.toArray++its.toArray=(acc++its).toArray:=by simp
  have e2:(acc++its)++(List.replicate k its).flatten=acc++(List.replicate (k+1) its).flatten:=by
   rw [List.replicate_succ,List.flatten_cons,List.append_assoc]
  rw [← e2,← pe its k (acc++its),← e,List.replicate_succ,List.foldl_cons]
section
variable {X:Cx} {pins:List (Addr × Obj)} {σ:St} {H:Hp} {s:Shared} {l b:Addr} {xs ys zs:List V}
theorem Inv.lset {its its':List Value} {n:Nat} {f:Array Value→Array Value} {t':Nat} (I:Inv X pins σ H s) (hH:H l=some (.lst xs))
  (e:s.heap.get? l=some { cls:=.type "list",data:=.seq its.toArray n }) (hf:f its.toArray=its'.toArray) (hv:Vals ys its') (hz:ys.length≤sizeLine):
  Inv X pins σ (upd H l (.lst ys)) { s with heap:=s.heap.update l (Obj.mapSeq f),toks:=t' }:=by
 have q:=PySem.IsL.update e f
 rw [hf] at q
 refine I.write (x:=l) (e:=l) (by rw [hH]; exact trivial) (.inl rfl) (fun b' u hb hu=>(Heap.get?_update_other s.heap (Obj.mapSeq f) (Ne.symm hb)).trans hu) ⟨_,q⟩ ?_
 exact ⟨hz,its',_,hv,q⟩
theorem Inv.lnew {its:List Value} {t':Nat} (I:Inv X pins σ H s) (hv:Vals ys its) (hz:ys.length≤sizeLine):
  Inv X pins σ (upd H s.heap.objs.size (.lst ys)) { s with heap:=s.heap.push { cls:=.type "list",data:=.seq its.toArray },toks:=t' }:=
 I.laid (fun _ _ q=>Heap.get?_push_of_some _ q) (Nat.le_refl _) ⟨hz,its,0,hv,Heap.get?_push_size _ rfl⟩
theorem Inv.fresh (I:Inv X pins σ H s):H s.heap.objs.size=none:=I.hok.fresh (Nat.le_refl _)
theorem Inv.lstM (I:Inv X pins σ H s) (hH:H l=some (.lst xs)):xs.length≤sizeLine∧∃ (its:List Value) (n:Nat),Vals xs its∧xs.length=its.length∧s.heap.get? l=some { cls:=.type "list",data:=.seq its.toArray n }:=by
 obtain ⟨z,its,n,r,e⟩:=I.hok l _ hH
 exact ⟨z,its,n,r,r.length,e⟩
theorem nu {n:Nat} (h:n≤sizeLine):Builtin.List.listTooLong n=false:=by
 unfold Builtin.List.listTooLong
 exact decide_eq_false (by omega)
end
section
variable {X:Cx}
def bj:V→List V→Hp→VK→Prop:=fun x vs H Q=>∃ l xs y,x=.ref l∧vs=[y]∧H l=some (.lst xs)∧xs.length<sizeLine∧Q .non (upd H l (.lst (xs++[y])))
theorem tF:MtM X "list.append" bj:=by
 intro pins s σ H x vs v us Q I rx rv h
 obtain ⟨l,xs,y,rfl,rfl,hH,hz,q⟩:=h
 cases rx
 obtain ⟨u,rfl,ru⟩:=rv.one
 obtain ⟨z,its,n,r,hl,e⟩:=I.lstM hH
 refine call_meets F.slot_list_append ⟨_,e,rfl⟩ F.entry_list_append (F.args_list_append_2 _ _) (PySem.list_append l its.toArray n u (by rw [List.size_toArray]; omega)) ⟨e,?_⟩
 refine ⟨.non,_,I.lset (its':=its++[u]) hH e (by simp) (r.append (.cons ru .nil)) ?_,rfl,q⟩
 rw [List.length_append,List.length_singleton]
 omega
def bh:V→List V→Hp→VK→Prop:=fun x vs H Q=>∃ l b xs zs,x=.ref l∧vs=[.ref b]∧H l=some (.lst xs)∧H b=some (.lst zs)∧xs.length+zs.length≤sizeLine∧Q .non (upd H l (.lst (xs++zs)))
theorem Sb:MtM X "list.extend" bh:=by
 intro pins s σ H x vs v us Q I rx rv h
 obtain ⟨l,b,xs,zs,rfl,rfl,hH,hB,hz,q⟩:=h
 cases rx
 obtain ⟨u,rfl,ru⟩:=rv.one
 cases ru
 obtain ⟨z,its,n,r,hl,e⟩:=I.lstM hH
 obtain ⟨z2,its2,n2,r2,hl2,e2⟩:=I.lstM hB
 have hsz:its.toArray.size+its2.toArray.size≤sizeLine:=by rw [List.size_toArray,List.size_toArray]; omega
 have hlong:¬ (!its.toArray.isEmpty && Builtin.List.listTooLong (its.toArray.size+its2.toArray.size))=true:=by
  rw [nu hsz,Bool.and_false]
  exact Bool.false_ne_true
 refine call_meets F.slot_list_extend ⟨_,e,rfl⟩ F.entry_list_extend (F.args_list_extend_2 _ _)
  (AutoSeq1.list_extend_list_list_0 l its.toArray n b its2.toArray n2 hlong (by rw [List.size_toArray]; omega) (by omega)) ⟨e,e2,?_⟩
 refine ⟨.non,_,I.lset (its':=its++its2) hH e (by simp) (r.append r2) ?_,rfl,q⟩
 rw [List.length_append]
 omega
def Qv:V→List V→Hp→VK→Prop:=fun x vs H Q=>∃ l xs y,x=.ref l∧vs=[]∧H l=some (.lst xs)∧xs[xs.length - 1]? = some y∧Q y (upd H l (.lst xs.dropLast))
theorem Th:MtM X "list.pop" Qv:=by
 intro pins s σ H x vs v us Q I rx rv h
 obtain ⟨l,xs,y,rfl,rfl,hH,hy,q⟩:=h
 cases rx
 have hus:=rv.zero
 subst hus
 obtain ⟨z,its,n,r,hl,e⟩:=I.lstM hH
 obtain ⟨u,hu,ru⟩:=r.get hy
 have hy':its.toArray[its.toArray.size - 1]? = some u:=by
  show its.toArray[its.length - 1]? = some u
  rw [← Array.getElem?_toList,← hl]
  exact hu
 refine call_meets F.slot_list_pop ⟨_,e,rfl⟩ F.entry_list_pop (F.args_list_pop_1 _) (MeetsSeq.list_pop_last l its.toArray n u hy' (by rw [List.size_toArray]; omega)) ⟨e,?_⟩
 refine ⟨y,_,I.lset (its':=its.dropLast) hH e ?_ r.dropLast ?_,ru,q⟩
 ·show its.toArray.eraseIdxIfInBounds (its.toArray.size - 1)=its.dropLast.toArray
  rw [List.size_toArray,List.eraseIdxIfInBounds_toArray,lh]
 ·rw [List.length_dropLast]
  omega
def Qw:R2:=fun x y H Q=>∃ l b xs zs,x=.ref l∧y=.ref b∧H l=some (.lst xs)∧H b=some (.lst zs)∧xs.length+zs.length≤sizeLine∧∀ p,H p=none→Q (.ref p) (upd H p (.lst (xs++zs)))
theorem WT:OpR X (binaryOp .Add) Qw:=by
 intro pins s σ H x y v u Q I rx ry h
 obtain ⟨l,b,xs,zs,rfl,rfl,hH,hB,hz,q⟩:=h
 cases rx
 cases ry
 obtain ⟨z,its,n,r,hl,e⟩:=I.lstM hH
 obtain ⟨z2,its2,n2,r2,hl2,e2⟩:=I.lstM hB
 refine PySem.P.add_list e e2 ?_ (by rw [List.size_toArray,List.size_toArray]; omega)
 have ea:its.toArray++its2.toArray=(its++its2).toArray:=by simp
 rw [ea]
 exact ⟨.ref _,_,I.lnew (t':=s.toks) (r.append r2) (by rw [List.length_append]; omega),rfl,q _ I.fresh⟩
def Qu:R2:=fun x y H Q=>∃ l k xs,x=.ref l∧y=.int k∧H l=some (.lst xs)∧-(2 ^ 63)≤k∧k<2 ^ 63∧xs.length*k.toNat≤sizeLine∧
 ∀ p,H p=none→Q (.ref p) (upd H p (.lst (List.replicate k.toNat xs).flatten))
theorem YU {α:Type} (xs:List α) (k:Nat):(List.replicate k xs).flatten.length=k*xs.length:=by
 induction k with
 | zero=>simp
 | succ k ih=>rw [List.replicate_succ,List.flatten_cons,List.length_append,ih,Nat.succ_mul,Nat.add_comm]
theorem WS:OpR X (binaryOp .Mult) Qu:=by
 intro pins s σ H x y v u Q I rx ry h
 obtain ⟨l,k,xs,rfl,rfl,hH,h1,h2,hz,q⟩:=h
 cases rx
 obtain ⟨t,rfl⟩:=ry
 obtain ⟨z,its,n,r,hl,e⟩:=I.lstM hH
 have hlen:its.toArray.size*k.toNat≤sizeLine:=by rw [List.size_toArray,← hl]; exact hz
 have hcap:¬ its.toArray.size*k.toNat>(2 ^ 63 - 1) / 8:=by
  have:(sizeLine:Nat)≤(2 ^ 63 - 1) / 8:=by decide
  omega
 have hfit:¬ (!Builtin.List.listFitsIndex k)=true:=by
  rw [fitsIndex_both h1 h2]
  exact Bool.false_ne_true
 have hlong:¬ Builtin.List.listTooLong (its.toArray.size*k.toNat)=true:=by
  rw [nu hlen]
  exact Bool.false_ne_true
 have hnew:List.foldl (fun x1 x2=>x1++x2) #[] (List.replicate (if its.toArray.isEmpty=true then 0 else k.toNat) its.toArray)=(List.replicate k.toNat its).flatten.toArray:=by
  have f0:∀ m:Nat,List.foldl (fun x1 x2=>x1++x2) #[] (List.replicate m its.toArray)=(List.replicate m its).flatten.toArray:=fun m=>by
   have:=pe its m []
   rw [List.nil_append] at this
   exact this
  rw [f0]
  cases its with
  | nil=>simp
  | cons a r'=>rw [if_neg (by simp)]
 refine wpAny_binaryOp_repeat_ref (T:="list") (U:="int") (by decide) ⟨_,e,rfl⟩ (fun s'=>typeIs_int s' k t) noFill_list_mul F.fills_int_mul F.slot_int_rmul repeat_list F.slot_int_index.lookup
  (call_meets F.slot_int_rmul (typeIs_int s k t) F.entry_int_rmul (F.args_int_rmul_2 _ _) (int___rmul___int_list k t l its.toArray n)
   ⟨e,rfl,⟨_,e,rfl⟩,call_meets F.slot_list_mul ⟨_,e,rfl⟩ F.entry_list_mul (F.args_list_mul_2 _ _) (AutoListH.list___mul___list_int_3 l its.toArray n k t hfit hcap hlong) ⟨e,?_⟩⟩)
 rw [hnew]
 exact ⟨.ref _,_,I.lnew (t':=s.toks) (r.rep k.toNat) (by rw [YU,Nat.mul_comm]; exact hz),rfl,q _ I.fresh⟩
end
section
variable {prog:Program} {w:World} {A:Around} {E:Value→Shared→Prop} {s:Shared}
set_option maxRecDepth 100000 in
end
section
variable {X:Cx}
end
end L2
namespace Att
open PySem PySem.W PySem.Calls PyProof.Rows
theorem sI {P:Params} {h:Heap}:∀ (ns:List Int) (vs:List Value),WellAll P h vs (ns.map WData.int)→IntsAre vs ns:=by
 intro ns
 induction ns with
 | nil=>
  intro vs w
  rw [List.map_nil] at w
  cases w
  exact .nil
 | cons n ns ih=>
  intro vs w
  rw [List.map_cons] at w
  cases w with
  | cons a b=>
   cases a
   exact .cons _ _ (ih _ b)
theorem kQ {l:OpenLaw} {n:Nat} (hn:l.most=some n) {P:Params} {h:Heap} {args:List WData} {vals:List Value}
  (hpre:l.row.toRowW.claim.pre args=true) (hwl:WellAll P h vals args):
  ∃ a vs ns,vals=[Value.ref a]∧args=[WData.list (ns.map WData.int)]∧h.get? a=some { cls:=.type "list",data:=.seq vs.toArray }∧IntsAre vs ns∧ns.length≤n:=by
 have hsh:WShape.hasAll [] args [.list .int]=true:=(pre_splitW hpre).1
 have hc:l.pre.holds [] { args:=args }=true:=(pre_splitW hpre).2
 obtain ⟨d,r,rfl,h1,h2⟩:=hasAllW_cons hsh
 obtain rfl:=hasAllW_nil h2
 obtain ⟨xs,rfl,h3⟩:=hasW_list h1
 obtain ⟨ns,rfl⟩:=items_int h3
 have hlen:ns.length≤n:=by
  unfold OpenLaw.pre at hc
  have h4:(WTm.not (.lt (.lit (.int (n:Int))) (.len (.arg 0)))).holds [] { args:=[.list (ns.map .int)] }=true:=by
   have h4:=(holds_andW hc).1
   rw [hn] at h4
   exact h4
  have h5:=condW_of h4 (w_not (w_lt w_lit (w_len_list (w_arg rfl))))
  rw [List.length_map] at h5
  refine Nat.le_of_not_lt fun q=>?_
  have q':(n:Int)<((ns.length:Nat):Int):=by omega
  first
   | (rw [decide_eq_true q'] at h5; exact absurd h5 (by decide))
   | (simp at h5; omega)
 cases hwl with
 | cons w1 w2=>
  cases w2
  cases w1 with
  | list ho hall=>exact ⟨_,_,ns,rfl,rfl,ho,sI ns _ hall,hlen⟩
theorem kT (l:OpenLaw) (args:List WData):l.row.toRowW.claim.post args (.bool true) args=true:=
 postW_of (r:=l.row.toRowW) (X:=(true == true))
  (show WShape.has [] (.bool true) .bool=true by first | rfl | decide | simp [WShape.has,WShape.arms,WShape.armsAll])
  (show (WTm.eq .res (.lit (.bool true))).value [] { args:=args,res:=some (.bool true),after:=args }=some (.bool (true == true)) from w_eq_bool (w_res rfl) w_lit) rfl
theorem attach_call {l:OpenLaw} {n:Nat} {q:Program} {loose:List Str} {XP:(Str→Option Value)→Heap→Prop} {YP:World→Heap→Prop} {d:DefRec}
  (hn:l.most=some n) (hdf:d.params.defaults=[])
  (call:∀ (w:World) (s₀ s₁:Shared) (mg mb:Str→Option Value) (fa:Addr) (o:Obj) (pm cd doc:Value) (a:Addr) (vs:List Value) (ns:List Int),
   Ground q loose [] XP w s₀ mg mb s₁.heap→YP w s₁.heap→
   s₁.heap.get? fa=some o→o.data=.func (docDef d.name d.params d.body d.scope pm cd doc)→s₁.heap.CodeRec cd d.name→mg d.name=some (.ref fa)→
   s₁.heap.get? a=some { cls:=.type "list",data:=.seq vs.toArray }→IntsAre vs ns→ns.length≤n→s₁.gens=#[]→
   codeAny (model l.prog w) callerA (.call (.ref fa) ⟨[.ref a],[]⟩) (fun r s'=>r=.ok (.ret (.bool true))∧OldK s₁.heap s'.heap∧s'.os=s₁.os∧AllBare s'.gens) s₁):
  WalkO q loose XP YP l.row.toRowW d [] (fun f vs=>PySem.call f vs):=by
 intro w s₀ s₁ mg mb G Y fa o pm cd doc dV kV ho hd hcd hD hmg hg args vals as hpre hlay hrd hwl hlo
 obtain rfl:dV=.none:=Dflts.none hD hdf
 obtain rfl:kV=.none:=Dflts.noKw hD
 obtain ⟨a,vs,ns,rfl,rfl,hobj,hints,hlen⟩:=kQ hn hpre hwl
 refine enter_call (codeAny_mono (call w s₀ s₁ mg mb fa o pm cd doc a vs ns G Y ho (fd_plain hd) hcd hmg hobj hints hlen hg) fun r s' hq=>?_)
 obtain ⟨rfl,h2,h3,h4⟩:=hq
 exact ⟨.inl ⟨.bool true,.bool true,[],rfl,fun _=>rfl,.bool true,kT l _,fun _=>⟨List.Pairwise.nil,fun _ hm=>(nomatch hm)⟩⟩,h2,h3,h4⟩
section
variable {prog:Program} {w:World} {A:Around} {E:Value→Shared→Prop} {s:Shared} {K:Frag}
def QE (h:Heap) (L d:Addr):List (Addr × Obj):=(List.range h.objs.size).filterMap fun a=>if a=L∨a=d then none else (h.get? a).map fun o=>(a,o)
end
end Att
namespace L2
open PySem PySem.Spec PyProof.Rows
theorem qS:∀ {vs:List Value} {ns:List Int},IntsAre vs ns→Vals (ns.map V.int) vs
 | _,_,.nil=>.nil
 | _,_,.cons n t h=>.cons ⟨t,rfl⟩ (qS h)
def Sa (H:Hp):Prop:=∀ b,H b=none∨∃ o xs,H b=some (.frz o (.lst xs))
theorem dj {P:Program} {w:World} {K:PySem.W.Frag} {mg mb:Str→Option Value} {CX:CXT} {k:Nat} {fa a:Addr} {fd:FuncData} {x:Str} {sp:Sp} {s₁:Shared} {vs:List Value} {ns:List Int}
  (KX:K.In s₁.heap) (hns:s₁.heap.Ns mainGlobals mg) (hb:s₁.heap.Ns builtinsNs mb) (hbb:∀ x:Str,x≠"__name__"→mb x=bootBuiltins x) (hlim:s₁.heap.NoLimit) (hg:s₁.gens=#[])
  (ha:s₁.heap.get? a=some { cls:=.type "list",data:=.seq vs.toArray }) (hi:IntsAre vs ns) (hl:ns.length≤sizeLine) (hr:Room k callerA)
  (F:∀ base:Heap,K.In base→base.Ns mainGlobals mg→FnOk P w K mg base CX k fa fd [x] sp) (hbind:∀ (s:Shared) (u:Value),BindsTo s fd ⟨[u],[]⟩ [(x,u)])
  (hsp:∀ H:Hp,Sa H→SqL K H a (ns.map V.int)→sp [.ref a] H (fun v _=>v=.bl true) fun _ _ _=>False)
  (hCX:∀ H e s',CX [] H s₁ (fun _ _ _=>False) e s'→False):
  codeAny (model P w) callerA (.call (.ref fa) ⟨[.ref a],[]⟩) (fun r s'=>r=.ok (.ret (.bool true))∧OldK s₁.heap s'.heap∧s'.os=s₁.os∧AllBare s'.gens) s₁:=by
 have rv:=qS hi
 have lenV:=hi.length
 have core:∀ H:Hp,Sa H→SqL K H a (ns.map V.int)→HOk P w H s₁.heap→(∀ b,H b≠none→b=a)→(H a≠none→K.lookup a=none)→
   codeAny (model P w) callerA (.call (.ref fa) ⟨[.ref a],[]⟩) (fun r s'=>r=.ok (.ret (.bool true))∧OldK s₁.heap s'.heap∧s'.os=s₁.os∧AllBare s'.gens) s₁:=by
  intro H hO hS hok hA hK
  have base_of:∀ {b:Addr} {o:Obj},s₁.heap.get? b=some o→H b=none→(oB s₁.heap H).get? b=some o:=fun e n=>dz e n
  have noA:∀ {b:Addr} {o:Obj} {es:Array DictEntry} {ep:Nat},s₁.heap.get? b=some o→o.data=.dict es ep→H b=none:=fun {b o es ep} e d=>by
   cases q:H b with
   | none=>rfl
   | some u=>
    have e':b=a:=hA b (by rw [q]; simp)
    subst e'
    rw [ha] at e; cases e
    have d':Data.seq vs.toArray _=Data.dict es ep:=d
    cases d'
  have nsK:∀ {b:Addr} {m:Str→Option Value},s₁.heap.Ns b m→(oB s₁.heap H).Ns b m:=fun {b m} ⟨o,es,ep,e,d,r⟩=>⟨o,es,ep,base_of e (noA e d),d,r⟩
  have hKb:K.In (oB s₁.heap H):=fun b o e=>base_of (KX b o e) (by
   cases q:H b with
   | none=>rfl
   | some u=>
    have e':b=a:=hA b (by rw [q]; simp)
    subst e'
    rw [hK (by rw [q]; simp)] at e; cases e)
  have hM:Mod K mg (oB s₁.heap H):=⟨hKb,nsK hns,⟨mb,nsK hb,hbb⟩,let ⟨mc,h1,h2⟩:=hlim; ⟨mc,nsK h1,h2⟩⟩
  have e0:Env0 P w K mg (oB s₁.heap H) callerA [] s₁ H:=⟨rfl,hM,fun b o e=>bI e,Nat.le_of_eq (jR _ _),trivial,fun b hb=>absurd (show b∈([]:List Addr) from hb) (by simp),hok,.of_eq hg⟩
  refine codeAny_mono ((F _ hKb (nsK hns)).run callerA [] s₁ H ⟨[.ref a],[]⟩ [.ref a] [.ref a] _ _ hr e0 (hbind s₁ (.ref a)) (.cons rfl .nil) (hsp H hO hS)) fun r s' h=>?_
  cases r with
  | error e=>exact (hCX H e s' h).elim
  | ok fl=>
   cases fl with
   | next=>exact False.elim h
   | brk=>exact False.elim h
   | cont=>exact False.elim h
   | ret u=>
    obtain ⟨v,H',os,bare,un,hok',r',q⟩:=h
    have q':v=.bl true:=q
    subst q'
    obtain rfl:u=Value.bool true:=r'
    refine ⟨rfl,OldK.of_keep fun b o e=>?_,os,bare⟩
    cases q:H b with
    | none=>exact un.keep b o e q (by intro z; exact absurd (show b∈([]:List Addr) from z) (by simp)) (by simp)
    | some u=>
     rcases hO b with z | ⟨ob,xs,z⟩
     ·rw [q] at z; cases z
     ·have z2:=un.frzs b ob _ z
      obtain ⟨e1,_⟩:=hok b _ z
      obtain ⟨e2,_⟩:=hok' b _ z2
      rw [e] at e1; cases e1
      exact e2
 cases hk:K.lookup a with
 | some o=>
  have e:=KX a o hk
  rw [ha] at e
  cases e
  refine core (fun _=>none) (fun _=>.inl rfl) (.inr ⟨_,vs.toArray,_,hk,rfl,rfl,rfl,by rw [List.size_toArray,lenV]; exact hl,by simpa using rv⟩) (fun b u z=>by have z':(none:Option HO)=some u:=z; cases z') (fun b z=>absurd rfl z) fun z=>absurd rfl z
 | none=>
  refine core (fun b=>if b=a then some (.frz { cls:=.type "list",data:=.seq vs.toArray } (.lst (ns.map V.int))) else none) (fun b=>?_) (.inl (.inr ⟨{ cls:=.type "list",data:=.seq vs.toArray },if_pos rfl⟩)) (fun b u z=>?_) (fun b z=>?_) fun _=>hk
  ·by_cases hb:b=a
   ·exact .inr ⟨_,_,if_pos hb⟩
   ·exact .inl (if_neg hb)
  ·by_cases hb:b=a
   ·have z':=(if_pos hb).symm.trans z
    cases z'
    subst hb
    exact ⟨ha,by rw [List.length_map]; exact hl,vs,_,rv,ha⟩
   ·have z':=(if_neg hb).symm.trans z
    cases z'
  ·by_cases hb:b=a
   ·exact hb
   ·exact absurd (if_neg hb) z
end L2
namespace L2
open PySem PySem.Spec PyProof.Rows
abbrev KOf {K:PySem.W.Frag} {h:Heap} (_:K.In h):PySem.W.Frag:=K
theorem walk_of {l:PySem.W.OpenLaw} {n k:Nat} {q:Program} {loose:List Str} {XP:(Str→Option Value)→Heap→Prop} {YP:World→Heap→Prop} {d:DefRec} {K:Params→PySem.W.Frag} {CX:World→CXT} {sp:World→Sp} {x:Str}
  (hn:l.most=some n) (hn2:n≤sizeLine) (hdf:d.params.defaults=[]) (hr:Room k callerA)
  (hY:∀ (w:World) (h:Heap),YP w h→(K w.params).In h)
  (F:∀ (w:World) (mg:Str→Option Value) (fa:Addr) (h:Heap),(K w.params).In h→h.Ns mainGlobals mg→mg d.name=some (.ref fa)→
   ∃ fd:FuncData,(∀ (s:Shared) (u:Value),BindsTo s fd ⟨[u],[]⟩ [(x,u)])∧
    ∀ base:Heap,(K w.params).In base→base.Ns mainGlobals mg→FnOk l.prog w (K w.params) mg base (CX w) k fa fd [x] (sp w))
  (hsp:∀ (w:World) (H:Hp) (a:Addr) (ns:List Int),ns.length≤n→Sa H→SqL (K w.params) H a (ns.map V.int)→sp w [.ref a] H (fun v _=>v=.bl true) fun _ _ _=>False)
  (hCX:∀ (w:World) (H:Hp) (s:Shared) (e:Value) (s':Shared),CX w [] H s (fun _ _ _=>False) e s'→False):
  PySem.W.WalkO q loose XP YP l.row.toRowW d [] (fun f vs=>PySem.call f vs):=by
 refine Att.attach_call hn hdf fun w s₀ s₁ mg mb fa o pm cd doc a vs ns G Y ho hd hcd hmg hobj hints hlen hg=>?_
 have KX:=hY w _ Y
 obtain ⟨fd,hb,hF⟩:=F w mg fa _ KX G.T.g hmg
 exact dj KX G.T.g G.T.b G.T.builtins G.T.nolimit hg hobj hints (Nat.le_trans hlen hn2) hr hF hb (fun H hO hS=>hsp w H a ns hlen hO hS) fun H e s'=>hCX w H s₁ e s'
end L2
namespace L2
open PySem PySem.Spec PyProof.Rows
def inClass (s:Stmt) (j:Nat):Stmt:=match s with
 | .ClassDef _ _ _ body _ _ _ _ _ _ _=>body.getD j (.Pass ⟨0,0,0,0⟩)
 | _=>.Pass ⟨0,0,0,0⟩
def defArgs (s:Stmt):Arguments:=match s with
 | .FunctionDef _ a _ _ _ _ _ _ _ _=>a
 | _=>{ posonlyargs:=[],args:=[],vararg:=none,kwonlyargs:=[],kw_defaults:=[],kwarg:=none,defaults:=[] }
def defBody (s:Stmt):List Stmt:=match s with
 | .FunctionDef _ _ b _ _ _ _ _ _ _=>b
 | _=>[]
def defScope (s:Stmt):Scope:=match s with
 | .FunctionDef _ _ _ _ _ _ sc _ _ _=>sc
 | _=>{ kind:=.function,names:=[],isGenerator:=false,isCoroutine:=false }
abbrev CX0:CXT:=fun _ _ _ _ _ _=>False
abbrev E0:XK:=fun _ _ _=>False
theorem qZ {X:Cx}:tT CX0 X E0:=fun _ _ _ _ _ _ _ h=>h.elim
structure Fun (K:PySem.W.Frag) (x qual:Str) (st:Stmt) (f:Addr) (fd:FuncData):Prop where
 ex:∃ (oc:Value) (od:Option Addr) (kV doc pm:Value) (an:Option Addr) (cdv ct:Value) (osl:Array (Option Value)),
  fd=PySem.W.fnOf x qual (defArgs st) (defBody st) (defScope st) .none kV doc pm an cdv ct∧K.lookup f=some ⟨oc,od,.func fd,osl⟩∧PySem.W.codeIn K cdv qual=true
 kp:PySem.W.keepIn K (.ref f)=true
section
variable {P:Program} {w:World} {K:PySem.W.Frag} {mg:Str→Option Value} {base:Heap}
theorem Fun.ok {x qual:Str} {st:Stmt} {f:Addr} {fd:FuncData} {N ps:List Str} {k:Nat} {sp:Sp} (F:Fun K x qual st f fd) (S:zh N ps (defScope st)) (len:∀ vs H Q E,sp vs H Q E→vs.length=ps.length)
  (hbody:∀ (cdv:Value) (A:Around) (outer:List Env) (s:Shared) (H:Hp) (vs:List V) (Q:VK) (E:XK),Room k (A.deeper (envOfC qual (defScope st) s.heap.objs.size f cdv))→sp vs H Q E→
   ∃ t,PSs (yo CX0 P w K mg base N qual (defScope st) f cdv A outer s H E).nox (defBody st) t∧t { nx:=fun _ H'=>Q .non H',rt:=Q } (start N vs) H):FnOk P w K mg base CX0 (k+1) f fd ps sp:=by
 obtain ⟨oc,od,kV,doc,pm,an,cdv,ct,osl,rfl,lk,hcd⟩:=F.ex
 refine X5 lk hcd S len fun A outer s H vs Q E hr hsp=>?_
 obtain ⟨t,h,q⟩:=hbody cdv A outer s H vs Q E hr hsp
 exact ⟨t,h.nox,q⟩
theorem Fun.binds {x qual:Str} {st:Stmt} {f:Addr} {fd:FuncData} {ps:List Str} (F:Fun K x qual st f fd)
  (h:∀ (kV doc pm:Value) (an:Option Addr) (cdv ct:Value) (us:List Value),us.length=ps.length→bindArgs (PySem.W.fnOf x qual (defArgs st) (defBody st) (defScope st) .none kV doc pm an cdv ct) ⟨us,[]⟩=pure (ps.zip us)):Binds K fd ps []:=by
 obtain ⟨oc,od,kV,doc,pm,an,cdv,ct,osl,rfl,lk,hcd⟩:=F.ex
 exact .all (h kV doc pm an cdv ct)
theorem m8 {x qual:Str} {st:Stmt} {f:Addr} {oc:Value} {od an:Option Addr} {osl:Array (Option Value)} {kV doc pm cdv ct:Value} (l:K.lookup f=some ⟨oc,od,.func (PySem.W.fnOf x qual (defArgs st) (defBody st) (defScope st) .none kV doc pm an cdv ct),osl⟩)
  (c:PySem.W.codeIn K cdv qual=true) (k:PySem.W.keepIn K (.ref f)=true):Fun K x qual st f (PySem.W.fnOf x qual (defArgs st) (defBody st) (defScope st) .none kV doc pm an cdv ct):=⟨⟨oc,od,kV,doc,pm,an,cdv,ct,osl,rfl,l,c⟩,k⟩
end
section
variable {X:Cx}
theorem pv (i:Nat) {x:Str} {pos:Pos} (hN:X.N[i]? = some x:=by rfl) (hv:Vis X.env.scope x:=by first | exact Or.inl rfl | exact Or.inr (Or.inl rfl) | exact Or.inr (Or.inr rfl)) (hd:(x == ("__debug__":Str))=false:=by decide)
  (hcd:(x == ("__classdict__":Str))=false:=by decide):PE X (.Name x pos) (cX i):=zQ hN hv hd hcd
end
theorem QL {A B:Prop} (h:B):if false=true then A else B:=by
 rw [if_neg Bool.false_ne_true]
 exact h
theorem QK {A B:Prop} (h:A):if true=true then A else B:=by
 rw [if_pos rfl]
 exact h
theorem Rh {c A B:Prop} [Decidable c] (h1:c→A) (h2:¬ c→B):if c then A else B:=by
 by_cases h:c
 ·rw [if_pos h]
  exact h1 h
 ·rw [if_neg h]
  exact h2 h
def Same (H H':Hp):Prop:=∀ b o,H b=some o→H' b=some o
theorem Same.refl (H:Hp):Same H H:=fun _ _ h=>h
theorem Same.trans {H H1 H2:Hp} (a:Same H H1) (b:Same H1 H2):Same H H2:=fun c o h=>b c o (a c o h)
theorem Same.free {H H':Hp} (e:Same H H') {l:Addr} (h:H' l=Option.none):H l=Option.none:=by
 cases q:H l with
 | none=>rfl
 | some o=>
  rw [e l o q] at h
  cases h
theorem Same.seq {K:PySem.W.Frag} {H H':Hp} {a:Addr} {xs:List V} (e:Same H H') (h:SqL K H a xs):SqL K H' a xs:=by
 rcases h with (h | ⟨o,h⟩) | h
 ·exact .inl (.inl (e _ _ h))
 ·exact .inl (.inr ⟨o,e _ _ h⟩)
 ·exact .inr h
end L2
set_option maxRecDepth 1000000
set_option maxHeartbeats 0
open PySem in
def My.top (i:Nat):Stmt:=PySem.Challenge.pw_oddbases_k64_whole_machine_is_settling.main.body.getD i (.Pass ⟨0,0,0,0⟩)
noncomputable section
open PySem My
namespace My
abbrev v_:Option Value:=some (.ref 6)
abbrev g_:Array GenState:=⟨[]⟩
abbrev d_:=@Drawn.mk 0 0 0 0
abbrev P_:=@Pos.mk
abbrev N_ (o:Params→Obj) (a b:Params→W.BT) (x:Params):W.BT:=.node (o x) (a x) (b x)
abbrev Z_ (_:Params):W.BT:=.nil
abbrev L_ (o:Params→Obj):=N_ o Z_ Z_
theorem sg_ {tb p w n₀ ann b} {n:Nat} {s s':W.SharedT} {t:Thread} {f:Flow} {c:Code} {q:Pos} (h:W.segRunT tb p w n₀ ann b n s t=some (f,s',c,q)):W.segRun tb p w n₀ ann b n s.abs t=some (f,s'.abs,c,q):=W.segRun_of h
abbrev p_ (a:String) (b:Nat):Value:=.str (.ofString a) b
abbrev j_ (a:Int) (b:Nat):Value:=.int a b
abbrev r_ (a:Nat):Value:=.ref a
abbrev e_ (x:Params) (a:String) (b:Nat) (v:Value):DictEntry:=⟨PyData.keyHash x (.ofString a),.str (.ofString a) b,v⟩
abbrev t0 (a1:String) (a3:Nat) (a7:String) (a8 a9:Nat) (x:Params):Obj:=(@Obj.mk (.type "function") none (@Data.func (@FuncData.mk (.ofString a1) (.ofString a1) (L2.defArgs (My.top a3)) (@FuncBody.stmts (L2.defBody (My.top a3))) (L2.defScope (My.top a3)) 3 (@List.nil (@Prod @Str @Nat)) .none .none .none (p_ a7 a8) none (r_ a9) .none 0)) #[])
abbrev t1 (a1:String) (a2:Nat) (a3:String) (a4 a6:Nat) (a7 a9:Int) (a17 a20 a21 a22 a23:Nat) (a24:Int) (a29:Nat) (x:Params):Obj:=(@Obj.mk (.type "code") none (@Data.fields (List.toArray [(p_ a1 a2),(p_ a3 a4),(p_ "/claim/cut.py" a6),(j_ a7 0),(j_ a9 0),(j_ 0 0),(j_ 0 0),(j_ 3 0),(r_ a17),(.bool @Bool.true),(j_ 181 0),(r_ a20),.none,(r_ a21),(r_ a22),(r_ a23),(j_ a24 0),(j_ a7 0),(p_ "/claim/cut.py" a29)])) #[])
abbrev t2 (a0:String) (a2:Nat) (x:Params):Obj:=(@Obj.mk .none none (@Data.func (@FuncData.mk (.ofString a0) (.ofString a0) (L2.defArgs (My.top a2)) (@FuncBody.stmts (L2.defBody (My.top a2))) (L2.defScope (My.top a2)) 0 (@List.nil (@Prod @Str @Nat)) .none .none .none .none none .none .none 0)) #[])
abbrev t3 (x:Params):Obj:=(@Obj.mk (.type "tuple") none (@Data.seq #[] 0) #[])
abbrev t4 (x:Params):Obj:=(@Obj.mk .none none (@Data.fields #[]) #[])
abbrev t5 (a1:String) (a2:Nat) (a3:String) (a4:Nat) (a5:String) (a6:Nat) (a7:String) (a8:Nat) (x:Params):Obj:=(@Obj.mk (.type "tuple") none (@Data.seq (List.toArray [(p_ a1 a2),(p_ a3 a4),(p_ a5 a6),(p_ a7 a8)]) 0) #[])
abbrev t6 (a1:String) (a2:Nat) (a3:String) (a4:Nat) (a5:String) (a6:Nat) (a7:String) (a8:Nat) (a9:String) (a10:Nat) (x:Params):Obj:=(@Obj.mk (.type "tuple") none (@Data.seq (List.toArray [(p_ a1 a2),(p_ a3 a4),(p_ a5 a6),(p_ a7 a8),(p_ a9 a10)]) 0) #[])
abbrev t7 (a1:String) (a2:Nat) (a3:String) (a4:Nat) (a5:String) (a6:Nat) (x:Params):Obj:=(@Obj.mk (.type "tuple") none (@Data.seq (List.toArray [(p_ a1 a2),(p_ a3 a4),(p_ a5 a6)]) 0) #[])
abbrev t8 (a1:String) (a2:Nat) (a3:String) (a4:Nat) (a5:String) (a6:Nat) (a7:String) (a8:Nat) (a9:String) (a10:Nat) (a11:String) (a12:Nat) (a13:String) (a14:Nat) (x:Params):Obj:=(@Obj.mk (.type "tuple") none (@Data.seq (List.toArray [(p_ a1 a2),(p_ a3 a4),(p_ a5 a6),(p_ a7 a8),(p_ a9 a10),(p_ a11 a12),(p_ a13 a14)]) 0) #[])
abbrev t9 (a1:String) (a2:Nat) (a3:String) (a4:Nat) (x:Params):Obj:=(@Obj.mk (.type "tuple") none (@Data.seq (List.toArray [(p_ a1 a2),(p_ a3 a4)]) 0) #[])
abbrev t10 (a1:String) (a2:Nat) (a3:String) (a4:Nat) (a5:String) (a6:Nat) (a7:String) (a8:Nat) (a9:String) (a10:Nat) (a11:String) (a12:Nat) (x:Params):Obj:=(@Obj.mk (.type "tuple") none (@Data.seq (List.toArray [(p_ a1 a2),(p_ a3 a4),(p_ a5 a6),(p_ a7 a8),(p_ a9 a10),(p_ a11 a12)]) 0) #[])
abbrev t11 (a1:String) (a2 a4 a6:Nat) (a7:Int) (a17 a20 a21:Nat) (a22:Int) (a27:Nat) (x:Params):Obj:=(@Obj.mk (.type "code") none (@Data.fields (List.toArray [(p_ a1 a2),(p_ a1 a4),(p_ "/claim/cut.py" a6),(j_ a7 0),(j_ 2 0),(j_ 0 0),(j_ 0 0),(j_ 3 0),(r_ a17),(.bool @Bool.true),(j_ 181 0),(r_ a20),.none,.none,.none,(r_ a21),(j_ a22 0),(j_ a7 0),(p_ "/claim/cut.py" a27)])) #[])
abbrev t12 (a2:Nat) (x:Params):Obj:=(@Obj.mk (.type "builtin_function_or_method") none (@Data.fields (List.toArray [(.builtin "object.__init_subclass__"),(r_ a2)])) #[])
abbrev t13 (a1:Nat) (x:Params):Obj:=(@Obj.mk (.type "super") none (@Data.fields (List.toArray [(r_ a1),(r_ a1),(r_ a1)])) #[])
abbrev t14 (a2 a3:Nat) (x:Params):Obj:=(@Obj.mk (.type "getset_descriptor") none (@Data.fields (List.toArray [(p_ "__weakref__" a2),(r_ a3),(.builtin "ExceptionGroup.__weakref__"),.none])) #[])
abbrev t15 (a2 a3:Nat) (x:Params):Obj:=(@Obj.mk (.type "getset_descriptor") none (@Data.fields (List.toArray [(p_ "__dict__" a2),(r_ a3),(.builtin "function.__dict__"),(.builtin "function.__dict__#set")])) #[])
abbrev t16 (a3:Nat) (a4:String) (a5 a8:Nat) (a9:Int) (a10 a13 a14:Nat) (a15:String) (a17 a18:Nat) (a19:String) (a21 a22:Nat) (a23:String) (a25 a26:Nat) (a27:String) (a29 a30:Nat) (a31:String) (a33 a34:Nat) (a35:String) (a37 a38 a41 a42:Nat) (x:Params):Obj:=(@Obj.mk (.type "dict") none (@Data.dict (List.toArray [(e_ x "__module__" a3 (p_ a4 a5)),(e_ x "__firstlineno__" a8 (j_ a9 a10)),(e_ x "__init__" a13 (r_ a14)),(e_ x a15 a17 (r_ a18)),(e_ x a19 a21 (r_ a22)),(e_ x a23 a25 (r_ a26)),(e_ x a27 a29 (r_ a30)),(e_ x a31 a33 (r_ a34)),(e_ x a35 a37 (r_ a38)),(e_ x "__doc__" a41 .none)]) a42) #[])
abbrev t17 (a1 a2:String) (a3 a4:Nat) (a10:String) (a11 a12:Nat) (x:Params):Obj:=(@Obj.mk (.type "function") none (@Data.func (@FuncData.mk (.ofString a1) (.ofString a2) (L2.defArgs (L2.inClass (My.top a3) a4)) (@FuncBody.stmts (L2.defBody (L2.inClass (My.top a3) a4))) (L2.defScope (L2.inClass (My.top a3) a4)) 3 (@List.nil (@Prod @Str @Nat)) .none .none .none (p_ a10 a11) none (r_ a12) .none 0)) #[])
abbrev t18 (a0 a1:String) (a2 a3:Nat) (x:Params):Obj:=(@Obj.mk .none none (@Data.func (@FuncData.mk (.ofString a0) (.ofString a1) (L2.defArgs (L2.inClass (My.top a2) a3)) (@FuncBody.stmts (L2.defBody (L2.inClass (My.top a2) a3))) (L2.defScope (L2.inClass (My.top a2) a3)) 0 (@List.nil (@Prod @Str @Nat)) .none .none .none .none none .none .none 0)) #[])
abbrev t19 (a1:String) (a2:Nat) (x:Params):Obj:=(@Obj.mk (.type "tuple") none (@Data.seq (List.toArray [(p_ a1 a2)]) 0) #[])
abbrev t20 (a1 a3:Nat) (a4:String) (a5:Nat) (x:Params):Obj:=(@Obj.mk (.type "frame") none @Data.plain (@List.toArray (@Option @Value) [(some (r_ a1)),(some (r_ 3)),(some (r_ a3)),none,(some (p_ a4 a5)),none,(some (r_ 0))]))
abbrev t21 (a1:String) (a2 a4 a6:Nat) (a7:Int) (a17 a20:Nat) (a21:Int) (a26:Nat) (x:Params):Obj:=(@Obj.mk (.type "code") none (@Data.fields (List.toArray [(p_ a1 a2),(p_ a1 a4),(p_ "/claim/cut.py" a6),(j_ a7 0),(j_ 0 0),(j_ 0 0),(j_ 0 0),(j_ 0 0),(r_ a17),(.bool @Bool.false),(j_ 181 0),(r_ a20),.none,.none,.none,.none,(j_ a21 0),(j_ a7 0),(p_ "/claim/cut.py" a26)])) #[])
abbrev t22 (a0:Int) (a4:Nat) (a5:Int) (a9:Nat) (a10:Int) (a14:Nat) (a15:Int) (a19:Nat) (x:Params):Obj:=(@Obj.mk .none none (@Data.fields (List.toArray [(j_ a0 0),(j_ 4 0),(r_ a4),(j_ a5 0),(j_ 4 0),(r_ a9),(j_ a10 0),(j_ 4 0),(r_ a14),(j_ a15 0),(j_ 4 0),(r_ a19)])) #[])
abbrev t23 (a3:Nat) (a4:String) (a5 a8:Nat) (a9:String) (a10 a13:Nat) (a14:Int) (a15 a18 a19:Nat) (a20:String) (a22 a23:Nat) (a24:String) (a26 a27:Nat) (a28:String) (a30 a31 a34 a35:Nat) (x:Params):Obj:=(@Obj.mk (.type "dict") none (@Data.dict (List.toArray [(e_ x "__module__" a3 (p_ a4 a5)),(e_ x "__qualname__" a8 (p_ a9 a10)),(e_ x "__firstlineno__" a13 (j_ a14 a15)),(e_ x "__init__" a18 (r_ a19)),(e_ x a20 a22 (r_ a23)),(e_ x a24 a26 (r_ a27)),(e_ x a28 a30 (r_ a31)),(e_ x "__static_attributes__" a34 (r_ a35))]) 8) #[])
abbrev t24 (x:Params):Obj:=(@Obj.mk (.type "builtin_function_or_method") none (@Data.fields (List.toArray [(.builtin "type.__prepare__"),(.type "type")])) #[])
abbrev t25 (a1:String) (a3 a6 a8 a10 a12:Nat) (x:Params):Obj:=(@Obj.mk (.type "type") none (@Data.cls (@ClassData.mk (.ofString a1) [(r_ 212)] [(r_ a3),(r_ 212),(.type "object")] a6 (.ofString a1) @Bool.true [] [] @Bool.false (@Option.none @Bool) @Bool.false)) (@List.toArray (@Option @Value) [(some (r_ a8)),none,(some (p_ a1 a10)),(some (p_ a1 a12)),(some (.builtin "object.__new__")),(some (.bool @Bool.true))]))
abbrev t26 (a0:Int) (a4:Nat) (a5:Int) (a9:Nat) (a10:Int) (a14:Nat) (a15:Int) (a19:Nat) (a20:Int) (a24:Nat) (a25:Int) (a29:Nat) (x:Params):Obj:=(@Obj.mk .none none (@Data.fields (List.toArray [(j_ a0 0),(j_ 4 0),(r_ a4),(j_ a5 0),(j_ 4 0),(r_ a9),(j_ a10 0),(j_ 4 0),(r_ a14),(j_ a15 0),(j_ 4 0),(r_ a19),(j_ a20 0),(j_ 4 0),(r_ a24),(j_ a25 0),(j_ 4 0),(r_ a29)])) #[])
abbrev t27 (a3 a8:Nat) (a9:String) (a10 a13:Nat) (a14:Int) (a15:Nat) (a16:String) (a18 a19:Nat) (a20:String) (a22 a23:Nat) (a24:String) (a26 a27:Nat) (a28:String) (a30 a31 a34 a35 a38 a39 a42 a43:Nat) (x:Params):Obj:=(@Obj.mk (.type "dict") none (@Data.dict (List.toArray [(e_ x "__module__" a3 (p_ "oddbases.ways" 369)),(e_ x "__qualname__" a8 (p_ a9 a10)),(e_ x "__firstlineno__" a13 (j_ a14 a15)),(e_ x a16 a18 (r_ a19)),(e_ x a20 a22 (r_ a23)),(e_ x a24 a26 (r_ a27)),(e_ x a28 a30 (r_ a31)),(e_ x "split" a34 (r_ a35)),(e_ x "has" a38 (r_ a39)),(e_ x "__static_attributes__" a42 (r_ a43))]) 10) #[])
abbrev t28 (a1:Nat) (x:Params):Obj:=(@Obj.mk (.type "tuple") none (@Data.seq (List.toArray [(r_ a1)]) 0) #[])
abbrev t29 (a3 a8:Nat) (a9:Int) (a10 a13 a14:Nat) (a15:String) (a17 a18:Nat) (a19:String) (a21 a22 a25 a26:Nat) (a27:String) (a29 a30 a33 a34 a37:Nat) (x:Params):Obj:=(@Obj.mk (.type "dict") none (@Data.dict (List.toArray [(e_ x "__module__" a3 (p_ "oddbases.ways" 369)),(e_ x "__firstlineno__" a8 (j_ a9 a10)),(e_ x "__init__" a13 (r_ a14)),(e_ x a15 a17 (r_ a18)),(e_ x a19 a21 (r_ a22)),(e_ x "ratio" a25 (r_ a26)),(e_ x a27 a29 (r_ a30)),(e_ x "__static_attributes__" a33 (r_ a34)),(e_ x "__doc__" a37 .none)]) 2) #[])
abbrev t30 (a0:Int) (a4:Nat) (a5:Int) (a9:Nat) (a10:Int) (a14:Nat) (a15:Int) (a19:Nat) (a20:Int) (a24:Nat) (x:Params):Obj:=(@Obj.mk .none none (@Data.fields (List.toArray [(j_ a0 0),(j_ 4 0),(r_ a4),(j_ a5 0),(j_ 4 0),(r_ a9),(j_ a10 0),(j_ 4 0),(r_ a14),(j_ a15 0),(j_ 4 0),(r_ a19),(j_ a20 0),(j_ 4 0),(r_ a24)])) #[])
abbrev t31 (a3 a8:Nat) (a9:String) (a10 a13:Nat) (a14:Int) (a15 a18 a19:Nat) (a20:String) (a22 a23:Nat) (a24:String) (a26 a27 a30 a31:Nat) (a32:String) (a34 a35 a38 a39:Nat) (x:Params):Obj:=(@Obj.mk (.type "dict") none (@Data.dict (List.toArray [(e_ x "__module__" a3 (p_ "oddbases.ways" 369)),(e_ x "__qualname__" a8 (p_ a9 a10)),(e_ x "__firstlineno__" a13 (j_ a14 a15)),(e_ x "__init__" a18 (r_ a19)),(e_ x a20 a22 (r_ a23)),(e_ x a24 a26 (r_ a27)),(e_ x "ratio" a30 (r_ a31)),(e_ x a32 a34 (r_ a35)),(e_ x "__static_attributes__" a38 (r_ a39))]) 9) #[])
abbrev t32 (a3 a8:Nat) (a9:Int) (a10 a13 a14 a17 a18 a21 a22 a25 a26 a29:Nat) (x:Params):Obj:=(@Obj.mk (.type "dict") none (@Data.dict (List.toArray [(e_ x "__module__" a3 (p_ "oddbases.ways" 369)),(e_ x "__firstlineno__" a8 (j_ a9 a10)),(e_ x "__init__" a13 (r_ a14)),(e_ x "high" a17 (r_ a18)),(e_ x "ratio" a21 (r_ a22)),(e_ x "__static_attributes__" a25 (r_ a26)),(e_ x "__doc__" a29 .none)]) 2) #[])
abbrev t33 (a0:Int) (a4:Nat) (a5:Int) (a9:Nat) (a10:Int) (a14:Nat) (x:Params):Obj:=(@Obj.mk .none none (@Data.fields (List.toArray [(j_ a0 0),(j_ 4 0),(r_ a4),(j_ a5 0),(j_ 4 0),(r_ a9),(j_ a10 0),(j_ 4 0),(r_ a14)])) #[])
abbrev t34 (a3 a8:Nat) (a9:String) (a10 a13:Nat) (a14:Int) (a15 a18 a19 a22 a23 a26 a27 a30 a31:Nat) (x:Params):Obj:=(@Obj.mk (.type "dict") none (@Data.dict (List.toArray [(e_ x "__module__" a3 (p_ "oddbases.ways" 369)),(e_ x "__qualname__" a8 (p_ a9 a10)),(e_ x "__firstlineno__" a13 (j_ a14 a15)),(e_ x "__init__" a18 (r_ a19)),(e_ x "high" a22 (r_ a23)),(e_ x "ratio" a26 (r_ a27)),(e_ x "__static_attributes__" a30 (r_ a31))]) 7) #[])
abbrev t35 (a1:String) (a3 a9 a11 a13 a15:Nat) (x:Params):Obj:=(@Obj.mk (.type "type") none (@Data.cls (@ClassData.mk (.ofString a1) [(r_ 31)] [(r_ a3),(r_ 31),(.type "ValueError"),(.type "Exception"),(.type "BaseException"),(.type "object")] a9 (.ofString a1) @Bool.true [] [] @Bool.false (@Option.none @Bool) @Bool.false)) (@List.toArray (@Option @Value) [(some (r_ a11)),none,(some (p_ a1 a13)),(some (p_ a1 a15)),(some (.builtin "ValueError.__new__")),(some (.bool @Bool.true))]))
abbrev t36 (a3 a8:Nat) (a9:Int) (a10 a13 a14 a17:Nat) (x:Params):Obj:=(@Obj.mk (.type "dict") none (@Data.dict (List.toArray [(e_ x "__module__" a3 (p_ "oddbases.errors" 194)),(e_ x "__firstlineno__" a8 (j_ a9 a10)),(e_ x "__static_attributes__" a13 (r_ a14)),(e_ x "__doc__" a17 .none)]) 2) #[])
abbrev t37 (a3 a8:Nat) (a9:String) (a10 a13:Nat) (a14:Int) (a15 a18 a19:Nat) (x:Params):Obj:=(@Obj.mk (.type "dict") none (@Data.dict (List.toArray [(e_ x "__module__" a3 (p_ "oddbases.errors" 194)),(e_ x "__qualname__" a8 (p_ a9 a10)),(e_ x "__firstlineno__" a13 (j_ a14 a15)),(e_ x "__static_attributes__" a18 (r_ a19))]) 4) #[])
abbrev U22 (x:Params):DictEntry:=(e_ x "NoWay" 229 (r_ 44))
abbrev U21 (x:Params):DictEntry:=(e_ x "_wall" 193 (r_ 21))
abbrev U20 (x:Params):DictEntry:=(e_ x "__doc__" 166 .none)
abbrev U19 (x:Params):DictEntry:=(e_ x "added" 358 (r_ 146))
abbrev U18 (x:Params):DictEntry:=(e_ x "__spec__" 169 .none)
abbrev U17 (x:Params):DictEntry:=(e_ x "NoSpan" 309 (r_ 104))
abbrev U16 (x:Params):DictEntry:=(e_ x "NoRatio" 277 (r_ 80))
abbrev U15 (x:Params):DictEntry:=(e_ x "TooLess" 261 (r_ 68))
abbrev U14 (x:Params):DictEntry:=(e_ x "bounded" 379 (r_ 160))
abbrev U13 (x:Params):DictEntry:=(e_ x "as_pair" 348 (r_ 139))
abbrev U12 (x:Params):DictEntry:=(e_ x "is_pair" 341 (r_ 132))
abbrev U11 (x:Params):DictEntry:=(e_ x "NoTotal" 325 (r_ 116))
abbrev U10 (x:Params):DictEntry:=(e_ x "OddError" 213 (r_ 31))
abbrev U9 (x:Params):DictEntry:=(e_ x "__cached__" 174 .none)
abbrev U8 (x:Params):DictEntry:=(e_ x "is_whole" 334 (r_ 125))
abbrev U7 (x:Params):DictEntry:=(e_ x "NoFalling" 293 (r_ 92))
abbrev U6 (x:Params):DictEntry:=(e_ x "NoWriting" 245 (r_ 56))
abbrev U5 (x:Params):DictEntry:=(e_ x "__package__" 167 .none)
abbrev U4 (x:Params):DictEntry:=(e_ x "multiplied" 368 (r_ 153))
abbrev U3 (x:Params):DictEntry:=(e_ x "__builtins__" 171 (r_ 4))
abbrev U2 (x:Params):DictEntry:=(e_ x "__annotations__" 170 (r_ 6))
abbrev U1 (x:Params):DictEntry:=(e_ x "__file__" 173 (p_ "/claim/cut.py" 172))
abbrev U0 (x:Params):DictEntry:=(e_ x "__loader__" 168 (.builtin "__main__.__loader__#opaque"))
def WX:=t0 "law" 75 "law_oddbases_k64_whole_machine_is_settling" 1107 808
def WY:=t1 "law" 1257 "law" 1258 1259 458 1 803 804 805 806 807 1268 1269
def SM:=t2 "law" 75
def za:=t3
def WZ (x:Params):Obj:=(@Obj.mk (.type "tuple") none (@Data.seq (List.toArray [(p_ "_law_script" 1260),(p_ "_law_name" 1261),(p_ "_law_number" 1262),(p_ "_law_bounds_here" 1263),(p_ "_law_one" 1264),(p_ "_law_other" 1265),(p_ "_law_way_here" 1266),(p_ "_law_first" 1267)]) 0) #[])
def zg:=t4
def W7:=t0 "_law_differences" 74 "law_oddbases_k64_whole_machine_is_settling" 1107 801
def W8:=t1 "_law_differences" 1239 "_law_differences" 1240 1241 450 6 796 797 798 799 800 1254 1255
def SN:=t2 "_law_differences" 74
def W9 (x:Params):Obj:=(@Obj.mk (.type "tuple") none (@Data.seq (List.toArray [(p_ "_law_name" 1242),(p_ "_law_number" 1243),(p_ "_law_way_here" 1244),(p_ "_law_one" 1245),(p_ "_law_other" 1246),(p_ "_law_first" 1247),(p_ "_law_low" 1248),(p_ "_law_high" 1249),(p_ "_law_machine" 1250),(p_ "_law_figures" 1251),(p_ "_law_carry" 1252),(p_ "_law_found" 1253)]) 0) #[])
def Va:=t0 "_law_sums" 73 "law_oddbases_k64_whole_machine_is_settling" 1107 794
def Vb:=t1 "_law_sums" 1216 "_law_sums" 1217 1218 433 6 789 790 791 792 793 1236 1237
def SQ:=t2 "_law_sums" 73
def Vc (x:Params):Obj:=(@Obj.mk (.type "tuple") none (@Data.seq (List.toArray [(p_ "_law_name" 1219),(p_ "_law_number" 1220),(p_ "_law_way_here" 1221),(p_ "_law_one" 1222),(p_ "_law_other" 1223),(p_ "_law_first" 1224),(p_ "_law_low" 1225),(p_ "_law_high" 1226),(p_ "_law_machine" 1227),(p_ "_law_totals_here" 1228),(p_ "_law_figures" 1229),(p_ "_law_carry" 1230),(p_ "_law_due" 1231),(p_ "_law_mine" 1232),(p_ "_law_its" 1233),(p_ "_law_path_here" 1234),(p_ "_law_last" 1235)]) 0) #[])
def Vd:=t0 "_law_difference" 72 "law_oddbases_k64_whole_machine_is_settling" 1107 787
def Ve:=t1 "_law_difference" 1206 "_law_difference" 1207 1208 426 3 782 783 784 785 786 1213 1214
def SR:=t2 "_law_difference" 72
def Vf:=t5 "_law_way_here" 1209 "_law_one" 1210 "_law_other" 1211 "_law_found" 1212
def Vg:=t0 "_law_worth" 71 "law_oddbases_k64_whole_machine_is_settling" 1107 780
def Vh:=t1 "_law_worth" 1195 "_law_worth" 1196 1197 420 3 775 776 777 778 779 1203 1204
def SS:=t2 "_law_worth" 71
def Vi:=t6 "_law_name" 1198 "_law_number" 1199 "_law_row" 1200 "_law_found" 1201 "_law_k" 1202
def Vj:=t0 "_law_times" 70 "law_oddbases_k64_whole_machine_is_settling" 1107 773
def Vk:=t1 "_law_times" 1186 "_law_times" 1187 1188 416 3 768 769 770 771 772 1192 1193
def ST:=t2 "_law_times" 70
def Vl:=t7 "_law_name" 1189 "_law_number" 1190 "_law_carry" 1191
def Vm:=t0 "_law_path" 69 "law_oddbases_k64_whole_machine_is_settling" 1107 766
def Vn:=t1 "_law_path" 1173 "_law_path" 1174 1175 408 3 761 762 763 764 765 1183 1184
def SU:=t2 "_law_path" 69
def Vo:=t8 "_law_machine" 1176 "_law_totals_here" 1177 "_law_first" 1178 "_law_table" 1179 "_law_row" 1180 "_law_path_here" 1181 "_law_total" 1182
def Vp:=t0 "_law_stripped" 68 "law_oddbases_k64_whole_machine_is_settling" 1107 759
def Vq:=t1 "_law_stripped" 1165 "_law_stripped" 1166 1167 403 1 754 755 756 757 758 1170 1171
def SV:=t2 "_law_stripped" 68
def Vr:=t9 "_law_figures" 1168 "_law_made" 1169
def Vs:=t0 "_law_totals" 67 "law_oddbases_k64_whole_machine_is_settling" 1107 752
def Vu:=t1 "_law_totals" 1153 "_law_totals" 1154 1155 393 3 747 748 749 750 751 1162 1163
def SW:=t2 "_law_totals" 67
def Vv:=t10 "_law_one" 1156 "_law_other" 1157 "_law_sign" 1158 "_law_totals_here" 1159 "_law_k" 1160 "_law_total" 1161
def Vx:=t0 "_law_row_by" 66 "law_oddbases_k64_whole_machine_is_settling" 1107 745
def Vy:=t1 "_law_row_by" 1142 "_law_row_by" 1143 1144 382 2 740 741 742 743 744 1150 1151
def SY:=t2 "_law_row_by" 66
def Vz:=t6 "_law_bounds_here" 1145 "_law_cells" 1146 "_law_row" 1147 "_law_cell" 1148 "_law_mixed" 1149
def VA:=t0 "_law_bounds" 65 "law_oddbases_k64_whole_machine_is_settling" 1107 738
def VB:=t1 "_law_bounds" 1134 "_law_bounds" 1135 1136 376 2 733 734 735 736 737 1139 1140
def SZ:=t2 "_law_bounds" 65
def VC:=t9 "_law_name" 1137 "_law_number" 1138
def VD:=t0 "_law_way" 64 "law_oddbases_k64_whole_machine_is_settling" 1107 731
def VE:=t1 "_law_way" 1126 "_law_way" 1127 1128 368 2 726 727 728 729 730 1131 1132
def S0:=t2 "_law_way" 64
def VF:=t9 "_law_name" 1129 "_law_number" 1130
def VG:=t0 "_law_chosen" 63 "law_oddbases_k64_whole_machine_is_settling" 1107 724
def VH:=t1 "_law_chosen" 1117 "_law_chosen" 1118 1119 360 1 719 720 721 722 723 1123 1124
def S1:=t2 "_law_chosen" 63
def VI:=t7 "_law_cell" 1120 "_law_name" 1121 "_law_part" 1122
def VJ:=t0 "_law_cell_at" 62 "law_oddbases_k64_whole_machine_is_settling" 1107 717
def VL:=t1 "_law_cell_at" 1109 "_law_cell_at" 1110 1111 356 2 712 713 714 715 716 1114 1115
def S2:=t2 "_law_cell_at" 62
def VM:=t9 "_law_script" 1112 "_law_k" 1113
def VN:=t0 "minus" 60 "oddbases.sums" 1046 710
def VO:=t1 "minus" 1097 "minus" 1098 1099 349 3 705 706 707 708 709 1104 1105
def S3:=t2 "minus" 60
def VP:=t5 "way" 1100 "one" 1101 "other" 1102 "difference" 1103
def VQ:=t0 "plus" 59 "oddbases.sums" 1046 703
def VR:=t1 "plus" 1088 "plus" 1089 1090 346 3 698 699 700 701 702 1094 1095
def S4:=t2 "plus" 59
def VS:=t7 "way" 1091 "one" 1092 "other" 1093
def VT:=t0 "without_debts" 58 "oddbases.sums" 1046 696
def VU:=t1 "without_debts" 1078 "without_debts" 1079 1080 340 2 691 692 693 694 695 1085 1086
def S5:=t2 "without_debts" 58
def VV:=t5 "way" 1081 "row" 1082 "things" 1083 "place" 1084
def VW:=t0 "lend" 57 "oddbases.sums" 1046 689
def VX:=t1 "lend" 1069 "lend" 1070 1071 333 3 684 685 686 687 688 1075 1076
def S6:=t2 "lend" 57
def VY:=t7 "way" 1072 "row" 1073 "lender" 1074
def VZ:=t0 "lender_above" 56 "oddbases.sums" 1046 682
def V0:=t1 "lender_above" 1060 "lender_above" 1061 1062 328 2 677 678 679 680 681 1066 1067
def S7:=t2 "lender_above" 56
def V1:=t7 "row" 1063 "place" 1064 "lender" 1065
def V2:=t0 "row_times" 55 "oddbases.sums" 1046 675
def V3:=t11 "row_times" 1054 1055 1056 326 672 673 674 1057 1058
def S8:=t2 "row_times" 55
def V4:=t0 "row_plus" 54 "oddbases.sums" 1046 670
def V5:=t11 "row_plus" 1048 1049 1050 323 667 668 669 1051 1052
def S9:=t2 "row_plus" 54
def V6:=t0 "written_row" 52 "oddbases.writings" 1000 665
def V7:=t1 "written_row" 1038 "written_row" 1039 1040 318 2 660 661 662 663 664 1043 1044
def Ra:=t2 "written_row" 52
def V8:=t9 "way" 1041 "row" 1042
def V9:=t0 "held_to_be_writings" 51 "oddbases.writings" 1000 658
def V_:=t1 "held_to_be_writings" 1029 "held_to_be_writings" 1030 1031 314 2 653 654 655 656 657 1035 1036
def Rb:=t2 "held_to_be_writings" 51
def Ua:=t7 "way" 1032 "rows" 1033 "row" 1034
def Ub:=t0 "is_writing" 50 "oddbases.writings" 1000 651
def Uc:=t1 "is_writing" 1021 "is_writing" 1022 1023 308 2 646 647 648 649 650 1026 1027
def Rc:=t2 "is_writing" 50
def Ud:=t9 "way" 1024 "row" 1025
def Ue:=t0 "has_mosts_above_noughts_alone" 49 "oddbases.writings" 1000 644
def Uf:=t1 "has_mosts_above_noughts_alone" 1012 "has_mosts_above_noughts_alone" 1013 1014 303 2 639 640 641 642 643 1018 1019
def Re:=t2 "has_mosts_above_noughts_alone" 49
def Ug:=t7 "way" 1015 "row" 1016 "place" 1017
def bJ:=t0 "has_figures_alone" 48 "oddbases.writings" 1000 637
def bK:=t1 "has_figures_alone" 1002 "has_figures_alone" 1003 1004 298 2 632 633 634 635 636 1009 1010
def Uh:=t2 "has_figures_alone" 48
def bL:=t5 "way" 1005 "row" 1006 "place" 1007 "thing" 1008
def bM:=t0 "fallen" 46 "oddbases.falls" 926 630
def bN:=t1 "fallen" 992 "fallen" 993 994 295 2 625 626 627 628 629 997 998
def Ui:=t2 "fallen" 46
def bO:=t9 "way" 995 "heap" 996
def bP:=t0 "steps_and_writing" 45 "oddbases.falls" 926 623
def bQ:=t1 "steps_and_writing" 979 "steps_and_writing" 980 981 280 2 618 619 620 621 622 989 990
def Uj:=t2 "steps_and_writing" 45
def bR:=t8 "way" 982 "heap" 983 "done" 984 "left" 985 "place" 986 "step" 987 "many" 988
def bS:=t0 "how_often" 44 "oddbases.falls" 926 616
def bT:=t1 "how_often" 969 "how_often" 970 971 275 3 611 612 613 614 615 976 977
def Uk:=t2 "how_often" 44
def bU:=t5 "way" 972 "heap" 973 "step" 974 "place" 975
def bV:=t0 "step_at" 43 "oddbases.falls" 926 609
def bW:=t1 "step_at" 960 "step_at" 961 962 269 3 604 605 606 607 608 966 967
def Ul:=t2 "step_at" 43
def bX:=t7 "way" 963 "heap" 964 "place" 965
def bY:=t0 "do_steps" 42 "oddbases.falls" 926 602
def bZ:=t1 "do_steps" 948 "do_steps" 949 950 264 4 597 598 599 600 601 957 958
def Um:=t2 "do_steps" 42
def b_:=t10 "way" 951 "heap" 952 "step" 953 "many" 954 "place" 955 "things" 956
def aa:=t0 "changes" 41 "oddbases.falls" 926 595
def ac:=t1 "changes" 937 "changes" 938 939 252 2 590 591 592 593 594 945 946
def Uo:=t2 "changes" 41
def ad:=t6 "way" 940 "step" 941 "kind" 942 "place" 943 "parted" 944
def ae:=t0 "held_to_be_a_heap" 40 "oddbases.falls" 926 588
def af:=t1 "held_to_be_a_heap" 928 "held_to_be_a_heap" 929 930 246 2 583 584 585 586 587 934 935
def Up:=t2 "held_to_be_a_heap" 40
def ag:=t7 "way" 931 "heap" 932 "things" 933
def ah:=t0 "carries" 38 "oddbases.settling" 895 581
def ai:=t1 "carries" 918 "carries" 919 920 243 2 576 577 578 579 580 923 924
def Uq:=t2 "carries" 38
def aj:=t9 "way" 921 "totals" 922
def ak:=t0 "settled" 37 "oddbases.settling" 895 574
def al:=t1 "settled" 910 "settled" 911 912 241 2 569 570 571 572 573 915 916
def Ur:=t2 "settled" 37
def ao:=t9 "way" 913 "totals" 914
def ap:=t0 "figures_and_carries" 36 "oddbases.settling" 895 567
def aq:=t1 "figures_and_carries" 897 "figures_and_carries" 898 899 226 2 562 563 564 565 566 907 908
def Us:=t2 "figures_and_carries" 36
def au:=t8 "way" 900 "totals" 901 "figures" 902 "carry" 903 "found" 904 "place" 905 "parts" 906
def av:=t0 "trimmed" 34 "oddbases.rows" 877 560
def aw:=t1 "trimmed" 887 "trimmed" 888 889 220 1 555 556 557 558 559 892 893
def Ut:=t2 "trimmed" 34
def ax:=t9 "row" 890 "things" 891
def ay:=t0 "thing_at" 33 "oddbases.rows" 877 553
def az:=t1 "thing_at" 879 "thing_at" 880 881 216 2 548 549 550 551 552 884 885
def Uu:=t2 "thing_at" 33
def aA:=t9 "row" 882 "place" 883
def Uv:=t12 543
def Uw:=t13 543
def aB:=t14 872 543
def aC:=t15 870 543
def aD (x:Params):Obj:=(@Obj.mk (.type "type") none (@Data.cls (@ClassData.mk (.ofString "Machine") [(.type "object")] [(r_ 543),(.type "object")] 542 (.ofString "Machine") @Bool.true [] [] @Bool.false (@Option.none @Bool) @Bool.false)) (@List.toArray (@Option @Value) [none,none,(some (p_ "Machine" 817)),(some (p_ "Machine" 825)),(some (.builtin "object.__new__")),(some (.bool @Bool.true))]))
def aE:=t16 824 "oddbases.machines" 766 828 189 827 839 519 "carries" 846 526 "rows" 853 533 "read" 865 540 "__static_attributes__" 869 541 "__dict__" 871 544 "__weakref__" 873 545 874 4
def aF:=t7 "found" 866 "leads" 867 "made" 868
def aG:=t17 "read" "Machine.read" 31 3 "oddbases.machines" 766 539
def aH:=t1 "read" 854 "Machine.read" 855 856 205 2 534 535 536 537 538 863 864
def Ux:=t18 "read" "Machine.read" 31 3
def aI:=t10 "self" 857 "totals" 858 "figures" 859 "carry" 860 "total" 861 "lead" 862
def aJ:=t17 "rows" "Machine.rows" 31 2 "oddbases.machines" 766 532
def aK:=t1 "rows" 847 "Machine.rows" 848 849 202 1 527 528 529 530 531 851 852
def Uy:=t18 "rows" "Machine.rows" 31 2
def aL:=t19 "self" 850
def aM:=t17 "carries" "Machine.carries" 31 1 "oddbases.machines" 766 525
def aN:=t1 "carries" 840 "Machine.carries" 841 842 199 1 520 521 522 523 524 844 845
def Uz:=t18 "carries" "Machine.carries" 31 1
def aO:=t19 "self" 843
def aP:=t17 "__init__" "Machine.__init__" 31 0 "oddbases.machines" 766 518
def aQ:=t1 "__init__" 829 "Machine.__init__" 830 831 191 4 513 514 515 516 517 837 838
def UA:=t18 "__init__" "Machine.__init__" 31 0
def aR:=t6 "self" 832 "way" 833 "low" 834 "high" 835 "made" 836
def UB:=t20 511 508 "oddbases.machines" 766
def UC:=t21 "Machine" 819 820 821 189 509 510 822 823
def UD:=t22 191 518 199 525 202 532 205 539
def UE:=t23 824 "oddbases.machines" 766 826 "Machine" 825 828 189 827 839 519 "carries" 846 526 "rows" 853 533 "read" 865 540 869 541
def zx:=t24
def aS:=t0 "leads_of" 30 "oddbases.machines" 766 504
def aU:=t1 "leads_of" 808 "leads_of" 809 810 184 1 499 500 501 502 503 814 815
def UF:=t2 "leads_of" 30
def aV:=t7 "rows" 811 "leads" 812 "row" 813
def aW:=t0 "carries_and_rows" 29 "oddbases.machines" 766 497
def aX:=t1 "carries_and_rows" 792 "carries_and_rows" 793 794 169 3 492 493 494 495 496 805 806
def UG:=t2 "carries_and_rows" 29
def aY (x:Params):Obj:=(@Obj.mk (.type "tuple") none (@Data.seq (List.toArray [(p_ "way" 795),(p_ "low" 796),(p_ "high" 797),(p_ "carries" 798),(p_ "known" 799),(p_ "rows" 800),(p_ "at" 801),(p_ "carry" 802),(p_ "total" 803),(p_ "parts" 804)]) 0) #[])
def aZ:=t0 "held_to_be_a_span" 28 "oddbases.machines" 766 490
def a_:=t1 "held_to_be_a_span" 782 "held_to_be_a_span" 783 784 165 3 485 486 487 488 489 789 790
def UH:=t2 "held_to_be_a_span" 28
def Za:=t5 "way" 785 "low" 786 "high" 787 "farthest" 788
def Zb:=t0 "held_to_have_one_ratio" 27 "oddbases.machines" 766 483
def Zc:=t1 "held_to_have_one_ratio" 775 "held_to_have_one_ratio" 776 777 162 1 478 479 480 481 482 779 780
def UI:=t2 "held_to_have_one_ratio" 27
def Zd:=t19 "way" 778
def Ze:=t0 "farthest_total" 26 "oddbases.machines" 766 476
def Zf:=t1 "farthest_total" 768 "farthest_total" 769 770 158 1 471 472 473 474 475 772 773
def UJ:=t2 "farthest_total" 26
def Zg:=t19 "way" 771
def UK:=t12 468
def UL:=t13 468
def Zh:=t25 "Pairs" 468 467 417 697 705
def Zi:=t16 704 "oddbases.ways" 369 708 134 707 716 430 "nought" 723 437 "high" 731 444 "ratio" 739 451 "split" 752 458 "has" 760 465 "__static_attributes__" 762 466 763 2
def Zj:=t19 "most" 761
def Zk:=t17 "has" "Pairs.has" 24 5 "oddbases.ways" 369 464
def Zl:=t1 "has" 753 "Pairs.has" 754 755 155 2 459 460 461 462 463 758 759
def UM:=t18 "has" "Pairs.has" 24 5
def Zm:=t9 "self" 756 "number" 757
def Zo:=t17 "split" "Pairs.split" 24 4 "oddbases.ways" 369 457
def Zp:=t1 "split" 740 "Pairs.split" 741 742 148 3 452 453 454 455 456 750 751
def UN:=t18 "split" "Pairs.split" 24 4
def Zq:=t8 "self" 743 "total" 744 "place" 745 "pair" 746 "figures" 747 "figure" 748 "turned" 749
def Zr:=t17 "ratio" "Pairs.ratio" 24 3 "oddbases.ways" 369 450
def Zs:=t1 "ratio" 732 "Pairs.ratio" 733 734 145 2 445 446 447 448 449 737 738
def UO:=t18 "ratio" "Pairs.ratio" 24 3
def Zt:=t9 "self" 735 "place" 736
def Zu:=t17 "high" "Pairs.high" 24 2 "oddbases.ways" 369 443
def Zv:=t1 "high" 724 "Pairs.high" 725 726 142 2 438 439 440 441 442 729 730
def UP:=t18 "high" "Pairs.high" 24 2
def Zw:=t9 "self" 727 "place" 728
def Zy:=t17 "nought" "Pairs.nought" 24 1 "oddbases.ways" 369 436
def Zz:=t1 "nought" 717 "Pairs.nought" 718 719 139 1 431 432 433 434 435 721 722
def UQ:=t18 "nought" "Pairs.nought" 24 1
def ZA:=t19 "self" 720
def ZB:=t17 "__init__" "Pairs.__init__" 24 0 "oddbases.ways" 369 429
def ZC:=t1 "__init__" 709 "Pairs.__init__" 710 711 136 2 424 425 426 427 428 714 715
def UR:=t18 "__init__" "Pairs.__init__" 24 0
def ZD:=t9 "self" 712 "most" 713
def US:=t20 422 419 "oddbases.ways" 369
def UT:=t21 "Pairs" 699 700 701 134 420 421 702 703
def UU:=t26 136 429 139 436 142 443 145 450 148 457 155 464
def UV:=t27 704 706 "Pairs" 705 708 134 707 "__init__" 716 430 "nought" 723 437 "high" 731 444 "ratio" 739 451 752 458 760 465 762 466
def yV:=t28 212
def UW:=t12 414
def UX:=t13 414
def ZF:=t25 "Falling" 414 413 370 639 647
def ZG:=t29 646 650 118 649 658 383 "high" 666 390 "weights" 674 397 682 404 "split" 691 411 693 412 694
def ZH:=t19 "most" 692
def ZI:=t17 "split" "Falling.split" 23 4 "oddbases.ways" 369 410
def ZJ:=t1 "split" 683 "Falling.split" 684 685 132 3 405 406 407 408 409 689 690
def UY:=t18 "split" "Falling.split" 23 4
def ZK:=t7 "self" 686 "total" 687 "place" 688
def ZL:=t17 "ratio" "Falling.ratio" 23 3 "oddbases.ways" 369 403
def ZM:=t1 "ratio" 675 "Falling.ratio" 676 677 129 2 398 399 400 401 402 680 681
def UZ:=t18 "ratio" "Falling.ratio" 23 3
def ZN:=t9 "self" 678 "place" 679
def ZO:=t17 "weights" "Falling.weights" 23 2 "oddbases.ways" 369 396
def ZP:=t1 "weights" 667 "Falling.weights" 668 669 126 2 391 392 393 394 395 672 673
def U_:=t18 "weights" "Falling.weights" 23 2
def ZQ:=t9 "self" 670 "many" 671
def ZR:=t17 "high" "Falling.high" 23 1 "oddbases.ways" 369 389
def ZS:=t1 "high" 659 "Falling.high" 660 661 123 2 384 385 386 387 388 664 665
def Ta:=t18 "high" "Falling.high" 23 1
def ZT:=t9 "self" 662 "place" 663
def ZU:=t17 "__init__" "Falling.__init__" 23 0 "oddbases.ways" 369 382
def ZV:=t1 "__init__" 651 "Falling.__init__" 652 653 120 2 377 378 379 380 381 656 657
def Tb:=t18 "__init__" "Falling.__init__" 23 0
def ZW:=t9 "self" 654 "most" 655
def Tc:=t20 375 372 "oddbases.ways" 369
def Td:=t21 "Falling" 641 642 643 118 373 374 644 645
def Te:=t30 120 382 123 389 126 396 129 403 132 410
def Tf:=t31 646 648 "Falling" 647 650 118 649 658 383 "high" 666 390 "weights" 674 397 682 404 "split" 691 411 693 412
def ZX:=t12 367
def ZY:=t13 367
def i_:=t25 "Growing" 367 366 337 598 606
def hG:=t32 605 609 108 608 617 350 625 357 633 364 635 365 636
def hV:=t19 "first" 634
def hW:=t17 "ratio" "Growing.ratio" 22 2 "oddbases.ways" 369 363
def hZ:=t1 "ratio" 626 "Growing.ratio" 627 628 116 2 358 359 360 361 362 631 632
def ZZ:=t18 "ratio" "Growing.ratio" 22 2
def h8:=t9 "self" 629 "place" 630
def h9:=t17 "high" "Growing.high" 22 1 "oddbases.ways" 369 356
def h_:=t1 "high" 618 "Growing.high" 619 620 113 2 351 352 353 354 355 623 624
def Z0:=t18 "high" "Growing.high" 22 1
def gb:=t9 "self" 621 "place" 622
def gc:=t17 "__init__" "Growing.__init__" 22 0 "oddbases.ways" 369 349
def gd:=t1 "__init__" 610 "Growing.__init__" 611 612 110 2 344 345 346 347 348 615 616
def Z1:=t18 "__init__" "Growing.__init__" 22 0
def ge:=t9 "self" 613 "first" 614
def Z2:=t20 342 339 "oddbases.ways" 369
def Z3:=t21 "Growing" 600 601 602 108 340 341 603 604
def Z4:=t33 110 349 113 356 116 363
def Z5:=t34 605 607 "Growing" 606 609 108 608 617 350 625 357 633 364 635 365
def Z6:=t12 334
def Z7:=t13 334
def gf:=t25 "Balanced" 334 333 290 541 549
def gg:=t29 548 552 92 551 560 303 "low" 568 310 "high" 576 317 584 324 "has" 592 331 594 332 595
def gh:=t19 "half" 593
def gi:=t17 "has" "Balanced.has" 21 4 "oddbases.ways" 369 330
def gj:=t1 "has" 585 "Balanced.has" 586 587 106 2 325 326 327 328 329 590 591
def Z8:=t18 "has" "Balanced.has" 21 4
def gk:=t9 "self" 588 "number" 589
def gl:=t17 "ratio" "Balanced.ratio" 21 3 "oddbases.ways" 369 323
def gm:=t1 "ratio" 577 "Balanced.ratio" 578 579 103 2 318 319 320 321 322 582 583
def Z9:=t18 "ratio" "Balanced.ratio" 21 3
def gp:=t9 "self" 580 "place" 581
def gq:=t17 "high" "Balanced.high" 21 2 "oddbases.ways" 369 316
def gr:=t1 "high" 569 "Balanced.high" 570 571 100 2 311 312 313 314 315 574 575
def Yb:=t18 "high" "Balanced.high" 21 2
def gu:=t9 "self" 572 "place" 573
def gv:=t17 "low" "Balanced.low" 21 1 "oddbases.ways" 369 309
def gw:=t1 "low" 561 "Balanced.low" 562 563 97 2 304 305 306 307 308 566 567
def Yc:=t18 "low" "Balanced.low" 21 1
def gx:=t9 "self" 564 "place" 565
def gz:=t17 "__init__" "Balanced.__init__" 21 0 "oddbases.ways" 369 302
def gA:=t1 "__init__" 553 "Balanced.__init__" 554 555 94 2 297 298 299 300 301 558 559
def Yd:=t18 "__init__" "Balanced.__init__" 21 0
def gB:=t9 "self" 556 "half" 557
def Ye:=t20 295 292 "oddbases.ways" 369
def Yg:=t21 "Balanced" 543 544 545 92 293 294 546 547
def Yh:=t30 94 302 97 309 100 316 103 323 106 330
def Yi:=t31 548 550 "Balanced" 549 552 92 551 560 303 "low" 568 310 "high" 576 317 584 324 "has" 592 331 594 332
def Yj:=t12 287
def Yk:=t13 287
def gC:=t25 "Below" 287 286 250 492 500
def gE (x:Params):Obj:=(@Obj.mk (.type "dict") none (@Data.dict (List.toArray [(e_ x "__module__" 499 (p_ "oddbases.ways" 369)),(e_ x "__firstlineno__" 503 (j_ 79 502)),(e_ x "__init__" 511 (r_ 263)),(e_ x "high" 519 (r_ 270)),(e_ x "ratio" 527 (r_ 277)),(e_ x "has" 535 (r_ 284)),(e_ x "__static_attributes__" 537 (r_ 285)),(e_ x "__doc__" 538 .none)]) 2) #[])
def gF:=t19 "base" 536
def gG:=t17 "has" "Below.has" 20 3 "oddbases.ways" 369 283
def gH:=t1 "has" 528 "Below.has" 529 530 90 2 278 279 280 281 282 533 534
def Yl:=t18 "has" "Below.has" 20 3
def gJ:=t9 "self" 531 "number" 532
def gK:=t17 "ratio" "Below.ratio" 20 2 "oddbases.ways" 369 276
def gL:=t1 "ratio" 520 "Below.ratio" 521 522 87 2 271 272 273 274 275 525 526
def Ym:=t18 "ratio" "Below.ratio" 20 2
def gM:=t9 "self" 523 "place" 524
def gN:=t17 "high" "Below.high" 20 1 "oddbases.ways" 369 269
def gO:=t1 "high" 512 "Below.high" 513 514 84 2 264 265 266 267 268 517 518
def Yn:=t18 "high" "Below.high" 20 1
def gP:=t9 "self" 515 "place" 516
def gQ:=t17 "__init__" "Below.__init__" 20 0 "oddbases.ways" 369 262
def gR:=t1 "__init__" 504 "Below.__init__" 505 506 81 2 257 258 259 260 261 509 510
def Yo:=t18 "__init__" "Below.__init__" 20 0
def gT:=t9 "self" 507 "base" 508
def Yp:=t20 255 252 "oddbases.ways" 369
def Yq:=t21 "Below" 494 495 496 79 253 254 497 498
def Yr:=t22 81 262 84 269 87 276 90 283
def Ys:=t23 499 "oddbases.ways" 369 501 "Below" 500 503 79 502 511 263 "high" 519 270 "ratio" 527 277 "has" 535 284 537 285
def Yt:=t12 247
def Yu:=t13 247
def gU:=t25 "Plain" 247 246 217 451 459
def gW:=t32 458 462 69 461 470 230 478 237 486 244 488 245 489
def gX:=t19 "base" 487
def gY:=t17 "ratio" "Plain.ratio" 19 2 "oddbases.ways" 369 243
def gZ:=t1 "ratio" 479 "Plain.ratio" 480 481 77 2 238 239 240 241 242 484 485
def Yv:=t18 "ratio" "Plain.ratio" 19 2
def g7:=t9 "self" 482 "place" 483
def g8:=t17 "high" "Plain.high" 19 1 "oddbases.ways" 369 236
def g9:=t1 "high" 471 "Plain.high" 472 473 74 2 231 232 233 234 235 476 477
def Yw:=t18 "high" "Plain.high" 19 1
def fb:=t9 "self" 474 "place" 475
def fc:=t17 "__init__" "Plain.__init__" 19 0 "oddbases.ways" 369 229
def fe:=t1 "__init__" 463 "Plain.__init__" 464 465 71 2 224 225 226 227 228 468 469
def Yx:=t18 "__init__" "Plain.__init__" 19 0
def ff:=t9 "self" 466 "base" 467
def Yy:=t20 222 219 "oddbases.ways" 369
def Yz:=t21 "Plain" 453 454 455 69 220 221 456 457
def YA:=t33 71 229 74 236 77 243
def YB:=t34 458 460 "Plain" 459 462 69 461 470 230 478 237 486 244 488 245
def YC:=t12 212
def YD:=t13 212
def fg:=t14 446 212
def fh:=t15 444 212
def ZE (x:Params):Obj:=(@Obj.mk (.type "type") none (@Data.cls (@ClassData.mk (.ofString "Way") [(.type "object")] [(r_ 212),(.type "object")] 211 (.ofString "Way") @Bool.true [] [(r_ 247),(r_ 287),(r_ 334),(r_ 367),(r_ 414),(r_ 468)] @Bool.false (@Option.none @Bool) @Bool.false)) (@List.toArray (@Option @Value) [none,none,(some (p_ "Way" 380)),(some (p_ "Way" 388)),(some (.builtin "object.__new__")),(some (.bool @Bool.true))]))
def fj (x:Params):Obj:=(@Obj.mk (.type "dict") none (@Data.dict (List.toArray [(e_ x "__module__" 387 (p_ "oddbases.ways" 369)),(e_ x "__firstlineno__" 391 (j_ 47 390)),(e_ x "nought" 398 (r_ 174)),(e_ x "low" 406 (r_ 181)),(e_ x "weights" 414 (r_ 188)),(e_ x "weight" 422 (r_ 195)),(e_ x "split" 434 (r_ 202)),(e_ x "has" 442 (r_ 209)),(e_ x "__static_attributes__" 443 (r_ 210)),(e_ x "__dict__" 445 (r_ 213)),(e_ x "__weakref__" 447 (r_ 214)),(e_ x "__doc__" 448 .none)]) 4) #[])
def fk:=t17 "has" "Way.has" 18 5 "oddbases.ways" 369 208
def fm:=t1 "has" 435 "Way.has" 436 437 67 2 203 204 205 206 207 440 441
def YE:=t18 "has" "Way.has" 18 5
def fo:=t9 "self" 438 "number" 439
def fq:=t17 "split" "Way.split" 18 4 "oddbases.ways" 369 201
def ft:=t1 "split" 423 "Way.split" 424 425 61 3 196 197 198 199 200 432 433
def YF:=t18 "split" "Way.split" 18 4
def fu:=t10 "self" 426 "total" 427 "place" 428 "low" 429 "figures" 430 "figure" 431
def fv:=t17 "weight" "Way.weight" 18 3 "oddbases.ways" 369 194
def fw:=t1 "weight" 415 "Way.weight" 416 417 58 2 189 190 191 192 193 420 421
def YG:=t18 "weight" "Way.weight" 18 3
def fz:=t9 "self" 418 "place" 419
def fA:=t17 "weights" "Way.weights" 18 2 "oddbases.ways" 369 187
def fB:=t1 "weights" 407 "Way.weights" 408 409 55 2 182 183 184 185 186 412 413
def YH:=t18 "weights" "Way.weights" 18 2
def fC:=t9 "self" 410 "many" 411
def fD:=t17 "low" "Way.low" 18 1 "oddbases.ways" 369 180
def fE:=t1 "low" 399 "Way.low" 400 401 52 2 175 176 177 178 179 404 405
def YI:=t18 "low" "Way.low" 18 1
def fF:=t9 "self" 402 "place" 403
def fG:=t17 "nought" "Way.nought" 18 0 "oddbases.ways" 369 173
def fH:=t1 "nought" 392 "Way.nought" 393 394 49 1 168 169 170 171 172 396 397
def YJ:=t18 "nought" "Way.nought" 18 0
def fI:=t19 "self" 395
def YK:=t20 166 163 "oddbases.ways" 369
def YL:=t21 "Way" 382 383 384 47 164 165 385 386
def YM:=t26 49 173 52 180 55 187 58 194 61 201 67 208
def YN:=t27 387 389 "Way" 388 391 47 390 "nought" 398 174 "low" 406 181 "weights" 414 188 "weight" 422 195 434 202 442 209 443 210
def jc:=t0 "bounded" 17 "oddbases.ways" 369 159
def jd:=t1 "bounded" 371 "bounded" 372 373 43 3 154 155 156 157 158 377 378
def fJ:=t2 "bounded" 17
def je:=t7 "number" 374 "least" 375 "most" 376
def jf:=t0 "multiplied" 15 "oddbases.pairs" 326 152
def jg:=t1 "multiplied" 359 "multiplied" 360 361 36 2 147 148 149 150 151 366 367
def fK:=t2 "multiplied" 15
def jh:=t5 "one" 362 "other" 363 "left" 364 "right" 365
def ji:=t0 "added" 14 "oddbases.pairs" 326 145
def jk:=t1 "added" 349 "added" 350 351 30 2 140 141 142 143 144 356 357
def fL:=t2 "added" 14
def jl:=t5 "one" 352 "other" 353 "left" 354 "right" 355
def jm:=t0 "as_pair" 13 "oddbases.pairs" 326 138
def jn:=t1 "as_pair" 342 "as_pair" 343 344 26 1 133 134 135 136 137 346 347
def fM:=t2 "as_pair" 13
def jo:=t19 "number" 345
def jp:=t0 "is_pair" 12 "oddbases.pairs" 326 131
def jq:=t1 "is_pair" 335 "is_pair" 336 337 24 1 126 127 128 129 130 339 340
def fN:=t2 "is_pair" 12
def jr:=t19 "value" 338
def jt:=t0 "is_whole" 11 "oddbases.pairs" 326 124
def ju:=t1 "is_whole" 328 "is_whole" 329 330 22 1 119 120 121 122 123 332 333
def fO:=t2 "is_whole" 11
def jv:=t19 "value" 331
def fP:=t12 116
def fQ:=t13 116
def jw:=t35 "NoTotal" 116 115 107 310 318
def jx:=t36 317 321 19 320 322 114 323
def fR:=t20 112 109 "oddbases.errors" 194
def fS:=t21 "NoTotal" 312 313 314 19 110 111 315 316
def fU:=t37 317 319 "NoTotal" 318 321 19 320 322 114
def zW:=t28 31
def fV:=t12 104
def fW:=t13 104
def jz:=t35 "NoSpan" 104 103 95 294 302
def jA:=t36 301 305 17 304 306 102 307
def fX:=t20 100 97 "oddbases.errors" 194
def fY:=t21 "NoSpan" 296 297 298 17 98 99 299 300
def fZ:=t37 301 303 "NoSpan" 302 305 17 304 306 102
def f_:=t12 92
def eh:=t13 92
def jB:=t35 "NoFalling" 92 91 83 278 286
def jC:=t36 285 289 15 288 290 90 291
def eo:=t20 88 85 "oddbases.errors" 194
def eB:=t21 "NoFalling" 280 281 282 15 86 87 283 284
def eD:=t37 285 287 "NoFalling" 286 289 15 288 290 90
def eE:=t12 80
def eG:=t13 80
def jD:=t35 "NoRatio" 80 79 71 262 270
def jE:=t36 269 273 13 272 274 78 275
def eH:=t20 76 73 "oddbases.errors" 194
def eI:=t21 "NoRatio" 264 265 266 13 74 75 267 268
def eJ:=t37 269 271 "NoRatio" 270 273 13 272 274 78
def eK:=t12 68
def eM:=t13 68
def jF:=t35 "TooLess" 68 67 59 246 254
def jG:=t36 253 257 11 256 258 66 259
def eN:=t20 64 61 "oddbases.errors" 194
def eO:=t21 "TooLess" 248 249 250 11 62 63 251 252
def eP:=t37 253 255 "TooLess" 254 257 11 256 258 66
def eQ:=t12 56
def o99:=t13 56
def o98:=t35 "NoWriting" 56 55 47 230 238
def o97:=t36 237 241 9 240 242 54 243
def o95:=t20 52 49 "oddbases.errors" 194
def o94:=t21 "NoWriting" 232 233 234 9 50 51 235 236
def o91:=t37 237 239 "NoWriting" 238 241 9 240 242 54
def o85:=t12 44
def o84:=t13 44
def o83:=t35 "NoWay" 44 43 35 214 222
def o82:=t36 221 225 7 224 226 42 227
def o80:=t20 40 37 "oddbases.errors" 194
def o79:=t21 "NoWay" 216 217 218 7 38 39 219 220
def o76:=t37 221 223 "NoWay" 222 225 7 224 226 42
def o70:=t12 31
def o69:=t13 31
def o68:=t14 209 31
def jy (x:Params):Obj:=(@Obj.mk (.type "type") none (@Data.cls (@ClassData.mk (.ofString "OddError") [(.type "ValueError")] [(r_ 31),(.type "ValueError"),(.type "Exception"),(.type "BaseException"),(.type "object")] 30 (.ofString "OddError") @Bool.true [] [(r_ 44),(r_ 56),(r_ 68),(r_ 80),(r_ 92),(r_ 104),(r_ 116)] @Bool.false (@Option.none @Bool) @Bool.false)) (@List.toArray (@Option @Value) [(some (r_ 22)),none,(some (p_ "OddError" 196)),(some (p_ "OddError" 204)),(some (.builtin "ValueError.__new__")),(some (.bool @Bool.true))]))
def o66 (x:Params):Obj:=(@Obj.mk (.type "dict") none (@Data.dict (List.toArray [(e_ x "__module__" 203 (p_ "oddbases.errors" 194)),(e_ x "__firstlineno__" 207 (j_ 5 206)),(e_ x "__static_attributes__" 208 (r_ 29)),(e_ x "__weakref__" 210 (r_ 32)),(e_ x "__doc__" 211 .none)]) 3) #[])
def o64:=t20 27 24 "oddbases.errors" 194
def o63:=t21 "OddError" 198 199 200 5 25 26 201 202
def o60:=t37 203 205 "OddError" 204 207 5 206 208 29
def o58 (x:Params):Obj:=(@Obj.mk (.type "tuple") none (@Data.seq (List.toArray [(.type "ValueError")]) 0) #[])
def o57:=t0 "_wall" 0 "__main__" 164 20
def o56:=t1 "_wall" 187 "_wall" 188 189 1 1 15 16 17 18 19 191 192
def o55:=t2 "_wall" 0
def o53:=t19 "k" 190
def o46:=t20 13 3 "__main__" 164
def o45:=t21 "<module>" 182 183 184 1 11 12 185 186
def SO (x:Params):Obj:=(@Obj.mk .none none (@Data.fields (List.toArray ((j_ 1 0)::(j_ 0 0)::(r_ 20)::(j_ 5 0)::(j_ 0 0)::(r_ 27)::(j_ 7 0)::(j_ 0 0)::(r_ 40)::(j_ 9 0)::(j_ 0 0)::(r_ 52)::(j_ 11 0)::(j_ 0 0)::(r_ 64)::(j_ 13 0)::(j_ 0 0)::(r_ 76)::(j_ 15 0)::(j_ 0 0)::(r_ 88)::(j_ 17 0)::(j_ 0 0)::(r_ 100)::(j_ 19 0)::(j_ 0 0)::(r_ 112)::(j_ 22 0)::(j_ 0 0)::(r_ 124)::(j_ 24 0)::(j_ 0 0)::(r_ 131)::(j_ 26 0)::(j_ 0 0)::(r_ 138)::(j_ 30 0)::(j_ 0 0)::(r_ 145)::(j_ 36 0)::(j_ 0 0)::(r_ 152)::(j_ 43 0)::(j_ 0 0)::(r_ 159)::(j_ 47 0)::(j_ 0 0)::(r_ 166)::(j_ 69 0)::(j_ 0 0)::(r_ 222)::(j_ 79 0)::(j_ 0 0)::(r_ 255)::(j_ 92 0)::(j_ 0 0)::(r_ 295)::(j_ 108 0)::(j_ 0 0)::(r_ 342)::(j_ 118 0)::(j_ 0 0)::(r_ 375)::(j_ 134 0)::(j_ 0 0)::(r_ 422)::(j_ 158 0)::(j_ 0 0)::(r_ 476)::(j_ 162 0)::(j_ 0 0)::(r_ 483)::(j_ 165 0)::(j_ 0 0)::(r_ 490)::(j_ 169 0)::(j_ 0 0)::(r_ 497)::(j_ 184 0)::(j_ 0 0)::(r_ 504)::(j_ 189 0)::(j_ 0 0)::(r_ 511)::(j_ 216 0)::(j_ 0 0)::(r_ 553)::(j_ 220 0)::(j_ 0 0)::(r_ 560)::(j_ 226 0)::(j_ 0 0)::(r_ 567)::(j_ 241 0)::(j_ 0 0)::(r_ 574)::(j_ 243 0)::(j_ 0 0)::(r_ 581)::(j_ 246 0)::(j_ 0 0)::(r_ 588)::(j_ 252 0)::(j_ 0 0)::(r_ 595)::(j_ 264 0)::(j_ 0 0)::(r_ 602)::(j_ 269 0)::(j_ 0 0)::(r_ 609)::(j_ 275 0)::(j_ 0 0)::(r_ 616)::(j_ 280 0)::(j_ 0 0)::(r_ 623)::(j_ 295 0)::(j_ 0 0)::(r_ 630)::(j_ 298 0)::(j_ 0 0)::(r_ 637)::(j_ 303 0)::(j_ 0 0)::(r_ 644)::(j_ 308 0)::(j_ 0 0)::(r_ 651)::(j_ 314 0)::(j_ 0 0)::(r_ 658)::(j_ 318 0)::(j_ 0 0)::(r_ 665)::(j_ 323 0)::(j_ 0 0)::(r_ 670)::(j_ 326 0)::(j_ 0 0)::(r_ 675)::(j_ 328 0)::(j_ 0 0)::(r_ 682)::(j_ 333 0)::(j_ 0 0)::(r_ 689)::(j_ 340 0)::(j_ 0 0)::(r_ 696)::(j_ 346 0)::(j_ 0 0)::(r_ 703)::(j_ 349 0)::(j_ 0 0)::(r_ 710)::(j_ 356 0)::(j_ 0 0)::(r_ 717)::(j_ 360 0)::(j_ 0 0)::(r_ 724)::(j_ 368 0)::(j_ 0 0)::(r_ 731)::(j_ 376 0)::(j_ 0 0)::(r_ 738)::(j_ 382 0)::(j_ 0 0)::(r_ 745)::(j_ 393 0)::(j_ 0 0)::(r_ 752)::(j_ 403 0)::(j_ 0 0)::(r_ 759)::(j_ 408 0)::(j_ 0 0)::(r_ 766)::(j_ 416 0)::(j_ 0 0)::(r_ 773)::(j_ 420 0)::(j_ 0 0)::(r_ 780)::(j_ 426 0)::(j_ 0 0)::(r_ 787)::(j_ 433 0)::(j_ 0 0)::(r_ 794)::(j_ 450 0)::(j_ 0 0)::(r_ 801)::(j_ 458 0)::(j_ 0 0)::(r_ 808)::[]))) #[])
def W_ (x:Params):Obj:=(@Obj.mk (.type "dict") none (@Data.dict (List.toArray ((e_ x "__name__" 165 (p_ "law_oddbases_k64_whole_machine_is_settling" 1107))::(U20 x)::(U5 x)::(U0 x)::(U18 x)::(U2 x)::(U3 x)::(U1 x)::(U9 x)::(U21 x)::(U10 x)::(U22 x)::(U6 x)::(U15 x)::(U16 x)::(U7 x)::(U17 x)::(U11 x)::(U8 x)::(U12 x)::(U13 x)::(U19 x)::(U4 x)::(U14 x)::(e_ x "Way" 450 (r_ 212))::(e_ x "Plain" 491 (r_ 247))::(e_ x "Below" 540 (r_ 287))::(e_ x "Balanced" 597 (r_ 334))::(e_ x "Growing" 638 (r_ 367))::(e_ x "Falling" 696 (r_ 414))::(e_ x "Pairs" 765 (r_ 468))::(e_ x "farthest_total" 774 (r_ 477))::(e_ x "held_to_have_one_ratio" 781 (r_ 484))::(e_ x "held_to_be_a_span" 791 (r_ 491))::(e_ x "carries_and_rows" 807 (r_ 498))::(e_ x "leads_of" 816 (r_ 505))::(e_ x "Machine" 876 (r_ 543))::(e_ x "thing_at" 886 (r_ 554))::(e_ x "trimmed" 894 (r_ 561))::(e_ x "figures_and_carries" 909 (r_ 568))::(e_ x "settled" 917 (r_ 575))::(e_ x "carries" 925 (r_ 582))::(e_ x "held_to_be_a_heap" 936 (r_ 589))::(e_ x "changes" 947 (r_ 596))::(e_ x "do_steps" 959 (r_ 603))::(e_ x "step_at" 968 (r_ 610))::(e_ x "how_often" 978 (r_ 617))::(e_ x "steps_and_writing" 991 (r_ 624))::(e_ x "fallen" 999 (r_ 631))::(e_ x "has_figures_alone" 1011 (r_ 638))::(e_ x "has_mosts_above_noughts_alone" 1020 (r_ 645))::(e_ x "is_writing" 1028 (r_ 652))::(e_ x "held_to_be_writings" 1037 (r_ 659))::(e_ x "written_row" 1045 (r_ 666))::(e_ x "row_plus" 1053 (r_ 671))::(e_ x "row_times" 1059 (r_ 676))::(e_ x "lender_above" 1068 (r_ 683))::(e_ x "lend" 1077 (r_ 690))::(e_ x "without_debts" 1087 (r_ 697))::(e_ x "plus" 1096 (r_ 704))::(e_ x "minus" 1106 (r_ 711))::(e_ x "_law_cell_at" 1116 (r_ 718))::(e_ x "_law_chosen" 1125 (r_ 725))::(e_ x "_law_way" 1133 (r_ 732))::(e_ x "_law_bounds" 1141 (r_ 739))::(e_ x "_law_row_by" 1152 (r_ 746))::(e_ x "_law_totals" 1164 (r_ 753))::(e_ x "_law_stripped" 1172 (r_ 760))::(e_ x "_law_path" 1185 (r_ 767))::(e_ x "_law_times" 1194 (r_ 774))::(e_ x "_law_worth" 1205 (r_ 781))::(e_ x "_law_difference" 1215 (r_ 788))::(e_ x "_law_sums" 1238 (r_ 795))::(e_ x "_law_differences" 1256 (r_ 802))::(e_ x "law" 1270 (r_ 809))::[])) 75) #[])
def Qx (x:Params):Obj:=(@Obj.mk .none none (@Data.fields (List.toArray ((j_ 1 0)::(j_ 0 0)::(r_ 20)::(j_ 5 0)::(j_ 0 0)::(r_ 27)::(j_ 7 0)::(j_ 0 0)::(r_ 40)::(j_ 9 0)::(j_ 0 0)::(r_ 52)::(j_ 11 0)::(j_ 0 0)::(r_ 64)::(j_ 13 0)::(j_ 0 0)::(r_ 76)::(j_ 15 0)::(j_ 0 0)::(r_ 88)::(j_ 17 0)::(j_ 0 0)::(r_ 100)::(j_ 19 0)::(j_ 0 0)::(r_ 112)::(j_ 22 0)::(j_ 0 0)::(r_ 124)::(j_ 24 0)::(j_ 0 0)::(r_ 131)::(j_ 26 0)::(j_ 0 0)::(r_ 138)::(j_ 30 0)::(j_ 0 0)::(r_ 145)::(j_ 36 0)::(j_ 0 0)::(r_ 152)::(j_ 43 0)::(j_ 0 0)::(r_ 159)::(j_ 47 0)::(j_ 0 0)::(r_ 166)::(j_ 69 0)::(j_ 0 0)::(r_ 222)::(j_ 79 0)::(j_ 0 0)::(r_ 255)::(j_ 92 0)::(j_ 0 0)::(r_ 295)::(j_ 108 0)::(j_ 0 0)::(r_ 342)::(j_ 118 0)::(j_ 0 0)::(r_ 375)::(j_ 134 0)::(j_ 0 0)::(r_ 422)::(j_ 158 0)::(j_ 0 0)::(r_ 476)::(j_ 162 0)::(j_ 0 0)::(r_ 483)::(j_ 165 0)::(j_ 0 0)::(r_ 490)::(j_ 169 0)::(j_ 0 0)::(r_ 497)::(j_ 184 0)::(j_ 0 0)::(r_ 504)::(j_ 189 0)::(j_ 0 0)::(r_ 511)::(j_ 216 0)::(j_ 0 0)::(r_ 553)::(j_ 220 0)::(j_ 0 0)::(r_ 560)::(j_ 226 0)::(j_ 0 0)::(r_ 567)::(j_ 241 0)::(j_ 0 0)::(r_ 574)::(j_ 243 0)::(j_ 0 0)::(r_ 581)::(j_ 246 0)::(j_ 0 0)::(r_ 588)::(j_ 252 0)::(j_ 0 0)::(r_ 595)::(j_ 264 0)::(j_ 0 0)::(r_ 602)::(j_ 269 0)::(j_ 0 0)::(r_ 609)::(j_ 275 0)::(j_ 0 0)::(r_ 616)::(j_ 280 0)::(j_ 0 0)::(r_ 623)::(j_ 295 0)::(j_ 0 0)::(r_ 630)::(j_ 298 0)::(j_ 0 0)::(r_ 637)::[]))) #[])
def Qy (x:Params):Obj:=(@Obj.mk (.type "dict") none (@Data.dict (List.toArray [(e_ x "__name__" 165 (p_ "oddbases.writings" 1000)),(U20 x),(U5 x),(U0 x),(U18 x),(U2 x),(U3 x),(U1 x),(U9 x),(U21 x),(U10 x),(U22 x),(U6 x),(U15 x),(U16 x),(U7 x),(U17 x),(U11 x),(U8 x),(U12 x),(U13 x),(U19 x),(U4 x),(U14 x),(e_ x "Way" 450 (r_ 212)),(e_ x "Plain" 491 (r_ 247)),(e_ x "Below" 540 (r_ 287)),(e_ x "Balanced" 597 (r_ 334)),(e_ x "Growing" 638 (r_ 367)),(e_ x "Falling" 696 (r_ 414)),(e_ x "Pairs" 765 (r_ 468)),(e_ x "farthest_total" 774 (r_ 477)),(e_ x "held_to_have_one_ratio" 781 (r_ 484)),(e_ x "held_to_be_a_span" 791 (r_ 491)),(e_ x "carries_and_rows" 807 (r_ 498)),(e_ x "leads_of" 816 (r_ 505)),(e_ x "Machine" 876 (r_ 543)),(e_ x "thing_at" 886 (r_ 554)),(e_ x "trimmed" 894 (r_ 561)),(e_ x "figures_and_carries" 909 (r_ 568)),(e_ x "settled" 917 (r_ 575)),(e_ x "carries" 925 (r_ 582)),(e_ x "held_to_be_a_heap" 936 (r_ 589)),(e_ x "changes" 947 (r_ 596)),(e_ x "do_steps" 959 (r_ 603)),(e_ x "step_at" 968 (r_ 610)),(e_ x "how_often" 978 (r_ 617)),(e_ x "steps_and_writing" 991 (r_ 624)),(e_ x "fallen" 999 (r_ 631)),(e_ x "has_figures_alone" 1011 (r_ 638))]) 50) #[])
def Qz (x:Params):Obj:=(@Obj.mk (.type "type") none (@Data.cls (@ClassData.mk (.ofString "Way") [(.type "object")] [(r_ 212),(.type "object")] 211 (.ofString "Way") @Bool.true [] [(r_ 247),(r_ 287),(r_ 334),(r_ 367)] @Bool.false (@Option.none @Bool) @Bool.false)) (@List.toArray (@Option @Value) [none,none,(some (p_ "Way" 380)),(some (p_ "Way" 388)),(some (.builtin "object.__new__")),(some (.bool @Bool.true))]))
def QA (x:Params):Obj:=(@Obj.mk .none none (@Data.fields (List.toArray [(j_ 1 0),(j_ 0 0),(r_ 20),(j_ 5 0),(j_ 0 0),(r_ 27),(j_ 7 0),(j_ 0 0),(r_ 40),(j_ 9 0),(j_ 0 0),(r_ 52),(j_ 11 0),(j_ 0 0),(r_ 64),(j_ 13 0),(j_ 0 0),(r_ 76),(j_ 15 0),(j_ 0 0),(r_ 88),(j_ 17 0),(j_ 0 0),(r_ 100),(j_ 19 0),(j_ 0 0),(r_ 112),(j_ 22 0),(j_ 0 0),(r_ 124),(j_ 24 0),(j_ 0 0),(r_ 131),(j_ 26 0),(j_ 0 0),(r_ 138),(j_ 30 0),(j_ 0 0),(r_ 145),(j_ 36 0),(j_ 0 0),(r_ 152),(j_ 43 0),(j_ 0 0),(r_ 159),(j_ 47 0),(j_ 0 0),(r_ 166),(j_ 69 0),(j_ 0 0),(r_ 222),(j_ 79 0),(j_ 0 0),(r_ 255),(j_ 92 0),(j_ 0 0),(r_ 295),(j_ 108 0),(j_ 0 0),(r_ 342)])) #[])
def QB (x:Params):Obj:=(@Obj.mk (.type "dict") none (@Data.dict (List.toArray [(e_ x "__name__" 165 (p_ "oddbases.ways" 369)),(U20 x),(U5 x),(U0 x),(U18 x),(U2 x),(U3 x),(U1 x),(U9 x),(U21 x),(U10 x),(U22 x),(U6 x),(U15 x),(U16 x),(U7 x),(U17 x),(U11 x),(U8 x),(U12 x),(U13 x),(U19 x),(U4 x),(U14 x),(e_ x "Way" 450 (r_ 212)),(e_ x "Plain" 491 (r_ 247)),(e_ x "Below" 540 (r_ 287)),(e_ x "Balanced" 597 (r_ 334)),(e_ x "Growing" 638 (r_ 367))]) 29) #[])
def QC (x:Params):Obj:=(@Obj.mk .none none (@Data.fields (List.toArray [(j_ 1 0),(j_ 0 0),(r_ 20),(j_ 5 0),(j_ 0 0),(r_ 27),(j_ 7 0),(j_ 0 0),(r_ 40),(j_ 9 0),(j_ 0 0),(r_ 52),(j_ 11 0),(j_ 0 0),(r_ 64),(j_ 13 0),(j_ 0 0),(r_ 76),(j_ 15 0),(j_ 0 0),(r_ 88),(j_ 17 0),(j_ 0 0),(r_ 100),(j_ 19 0),(j_ 0 0),(r_ 112),(j_ 22 0),(j_ 0 0),(r_ 124),(j_ 24 0),(j_ 0 0),(r_ 131),(j_ 26 0),(j_ 0 0),(r_ 138),(j_ 30 0),(j_ 0 0),(r_ 145),(j_ 36 0),(j_ 0 0),(r_ 152),(j_ 43 0),(j_ 0 0),(r_ 159)])) #[])
def QD (x:Params):Obj:=(@Obj.mk (.type "dict") none (@Data.dict (List.toArray [(e_ x "__name__" 165 (p_ "oddbases.ways" 369)),(U20 x),(U5 x),(U0 x),(U18 x),(U2 x),(U3 x),(U1 x),(U9 x),(U21 x),(U10 x),(U22 x),(U6 x),(U15 x),(U16 x),(U7 x),(U17 x),(U11 x),(U8 x),(U12 x),(U13 x),(U19 x),(U4 x),(U14 x)]) 24) #[])
abbrev Y6:=N_ zg (L_ za) Z_
abbrev Y5:=N_ zg (L_ zg) Z_
abbrev Y4:=N_ yV (L_ zg) Z_
abbrev Y3:=N_ za (L_ zg) Z_
abbrev Y2:=N_ za (L_ za) Z_
abbrev Y1:=N_ za (L_ za) (L_ zg)
abbrev Y0:=N_ za Y2 (L_ zg)
def myAs:List Nat:=((nat_lit 2)::(nat_lit 3)::(nat_lit 15)::(nat_lit 17)::(nat_lit 18)::(nat_lit 20)::(nat_lit 21)::(nat_lit 22)::(nat_lit 29)::(nat_lit 30)::(nat_lit 31)::(nat_lit 32)::(nat_lit 35)::(nat_lit 42)::(nat_lit 43)::(nat_lit 44)::(nat_lit 47)::(nat_lit 54)::(nat_lit 55)::(nat_lit 56)::(nat_lit 59)::(nat_lit 66)::(nat_lit 67)::(nat_lit 68)::(nat_lit 71)::(nat_lit 78)::(nat_lit 79)::(nat_lit 80)::(nat_lit 83)::(nat_lit 90)::(nat_lit 91)::(nat_lit 92)::(nat_lit 95)::(nat_lit 102)::(nat_lit 103)::(nat_lit 104)::(nat_lit 107)::(nat_lit 114)::(nat_lit 115)::(nat_lit 116)::(nat_lit 119)::(nat_lit 121)::(nat_lit 122)::(nat_lit 124)::(nat_lit 125)::(nat_lit 126)::(nat_lit 128)::(nat_lit 129)::(nat_lit 131)::(nat_lit 132)::(nat_lit 133)::(nat_lit 135)::(nat_lit 136)::(nat_lit 138)::(nat_lit 139)::(nat_lit 140)::(nat_lit 142)::(nat_lit 143)::(nat_lit 145)::(nat_lit 146)::(nat_lit 147)::(nat_lit 149)::(nat_lit 150)::(nat_lit 152)::(nat_lit 153)::(nat_lit 154)::(nat_lit 156)::(nat_lit 157)::(nat_lit 159)::(nat_lit 160)::(nat_lit 168)::(nat_lit 170)::(nat_lit 171)::(nat_lit 173)::(nat_lit 174)::(nat_lit 175)::(nat_lit 177)::(nat_lit 178)::(nat_lit 180)::(nat_lit 181)::(nat_lit 182)::(nat_lit 184)::(nat_lit 185)::(nat_lit 187)::(nat_lit 188)::(nat_lit 189)::(nat_lit 191)::(nat_lit 192)::(nat_lit 194)::(nat_lit 195)::(nat_lit 196)::(nat_lit 198)::(nat_lit 199)::(nat_lit 201)::(nat_lit 202)::(nat_lit 203)::(nat_lit 205)::(nat_lit 206)::(nat_lit 208)::(nat_lit 209)::(nat_lit 210)::(nat_lit 211)::(nat_lit 212)::(nat_lit 213)::(nat_lit 214)::(nat_lit 217)::(nat_lit 224)::(nat_lit 226)::(nat_lit 227)::(nat_lit 229)::(nat_lit 230)::(nat_lit 231)::(nat_lit 233)::(nat_lit 234)::(nat_lit 236)::(nat_lit 237)::(nat_lit 238)::(nat_lit 240)::(nat_lit 241)::(nat_lit 243)::(nat_lit 244)::(nat_lit 245)::(nat_lit 246)::(nat_lit 247)::(nat_lit 250)::(nat_lit 257)::(nat_lit 259)::(nat_lit 260)::(nat_lit 262)::(nat_lit 263)::(nat_lit 264)::(nat_lit 266)::(nat_lit 267)::(nat_lit 269)::(nat_lit 270)::(nat_lit 271)::(nat_lit 273)::(nat_lit 274)::(nat_lit 276)::(nat_lit 277)::(nat_lit 278)::(nat_lit 280)::(nat_lit 281)::(nat_lit 283)::(nat_lit 284)::(nat_lit 285)::(nat_lit 286)::(nat_lit 287)::(nat_lit 290)::(nat_lit 297)::(nat_lit 299)::(nat_lit 300)::(nat_lit 302)::(nat_lit 303)::(nat_lit 304)::(nat_lit 306)::(nat_lit 307)::(nat_lit 309)::(nat_lit 310)::(nat_lit 311)::(nat_lit 313)::(nat_lit 314)::(nat_lit 316)::(nat_lit 317)::(nat_lit 318)::(nat_lit 320)::(nat_lit 321)::(nat_lit 323)::(nat_lit 324)::(nat_lit 325)::(nat_lit 327)::(nat_lit 328)::(nat_lit 330)::(nat_lit 331)::(nat_lit 332)::(nat_lit 333)::(nat_lit 334)::(nat_lit 337)::(nat_lit 344)::(nat_lit 346)::(nat_lit 347)::(nat_lit 349)::(nat_lit 350)::(nat_lit 351)::(nat_lit 353)::(nat_lit 354)::(nat_lit 356)::(nat_lit 357)::(nat_lit 358)::(nat_lit 360)::(nat_lit 361)::(nat_lit 363)::(nat_lit 364)::(nat_lit 365)::(nat_lit 366)::(nat_lit 367)::(nat_lit 370)::(nat_lit 377)::(nat_lit 379)::(nat_lit 380)::(nat_lit 382)::(nat_lit 383)::(nat_lit 384)::(nat_lit 386)::(nat_lit 387)::(nat_lit 389)::(nat_lit 390)::(nat_lit 391)::(nat_lit 393)::(nat_lit 394)::(nat_lit 396)::(nat_lit 397)::(nat_lit 398)::(nat_lit 400)::(nat_lit 401)::(nat_lit 403)::(nat_lit 404)::(nat_lit 405)::(nat_lit 407)::(nat_lit 408)::(nat_lit 410)::(nat_lit 411)::(nat_lit 412)::(nat_lit 413)::(nat_lit 414)::(nat_lit 417)::(nat_lit 424)::(nat_lit 426)::(nat_lit 427)::(nat_lit 429)::(nat_lit 430)::(nat_lit 431)::(nat_lit 433)::(nat_lit 434)::(nat_lit 436)::(nat_lit 437)::(nat_lit 438)::(nat_lit 440)::(nat_lit 441)::(nat_lit 443)::(nat_lit 444)::(nat_lit 445)::(nat_lit 447)::(nat_lit 448)::(nat_lit 450)::(nat_lit 451)::(nat_lit 452)::(nat_lit 454)::(nat_lit 455)::(nat_lit 457)::(nat_lit 458)::(nat_lit 459)::(nat_lit 461)::(nat_lit 462)::(nat_lit 464)::(nat_lit 465)::(nat_lit 466)::(nat_lit 467)::(nat_lit 468)::(nat_lit 471)::(nat_lit 473)::(nat_lit 474)::(nat_lit 476)::(nat_lit 477)::(nat_lit 478)::(nat_lit 480)::(nat_lit 481)::(nat_lit 483)::(nat_lit 484)::(nat_lit 485)::(nat_lit 487)::(nat_lit 488)::(nat_lit 490)::(nat_lit 491)::(nat_lit 492)::(nat_lit 494)::(nat_lit 495)::(nat_lit 497)::(nat_lit 498)::(nat_lit 499)::(nat_lit 501)::(nat_lit 502)::(nat_lit 504)::(nat_lit 505)::(nat_lit 513)::(nat_lit 515)::(nat_lit 516)::(nat_lit 518)::(nat_lit 519)::(nat_lit 520)::(nat_lit 522)::(nat_lit 523)::(nat_lit 525)::(nat_lit 526)::(nat_lit 527)::(nat_lit 529)::(nat_lit 530)::(nat_lit 532)::(nat_lit 533)::(nat_lit 534)::(nat_lit 536)::(nat_lit 537)::(nat_lit 539)::(nat_lit 540)::(nat_lit 541)::(nat_lit 542)::(nat_lit 543)::(nat_lit 544)::(nat_lit 545)::(nat_lit 548)::(nat_lit 550)::(nat_lit 551)::(nat_lit 553)::(nat_lit 554)::(nat_lit 555)::(nat_lit 557)::(nat_lit 558)::(nat_lit 560)::(nat_lit 561)::(nat_lit 562)::(nat_lit 564)::(nat_lit 565)::(nat_lit 567)::(nat_lit 568)::(nat_lit 569)::(nat_lit 571)::(nat_lit 572)::(nat_lit 574)::(nat_lit 575)::(nat_lit 576)::(nat_lit 578)::(nat_lit 579)::(nat_lit 581)::(nat_lit 582)::(nat_lit 583)::(nat_lit 585)::(nat_lit 586)::(nat_lit 588)::(nat_lit 589)::(nat_lit 590)::(nat_lit 592)::(nat_lit 593)::(nat_lit 595)::(nat_lit 596)::(nat_lit 597)::(nat_lit 599)::(nat_lit 600)::(nat_lit 602)::(nat_lit 603)::(nat_lit 604)::(nat_lit 606)::(nat_lit 607)::(nat_lit 609)::(nat_lit 610)::(nat_lit 611)::(nat_lit 613)::(nat_lit 614)::(nat_lit 616)::(nat_lit 617)::(nat_lit 618)::(nat_lit 620)::(nat_lit 621)::(nat_lit 623)::(nat_lit 624)::(nat_lit 625)::(nat_lit 627)::(nat_lit 628)::(nat_lit 630)::(nat_lit 631)::(nat_lit 632)::(nat_lit 634)::(nat_lit 635)::(nat_lit 637)::(nat_lit 638)::(nat_lit 639)::(nat_lit 641)::(nat_lit 642)::(nat_lit 644)::(nat_lit 645)::(nat_lit 646)::(nat_lit 648)::(nat_lit 649)::(nat_lit 651)::(nat_lit 652)::(nat_lit 653)::(nat_lit 655)::(nat_lit 656)::(nat_lit 658)::(nat_lit 659)::(nat_lit 660)::(nat_lit 662)::(nat_lit 663)::(nat_lit 665)::(nat_lit 666)::(nat_lit 667)::(nat_lit 670)::(nat_lit 671)::(nat_lit 672)::(nat_lit 675)::(nat_lit 676)::(nat_lit 677)::(nat_lit 679)::(nat_lit 680)::(nat_lit 682)::(nat_lit 683)::(nat_lit 684)::(nat_lit 686)::(nat_lit 687)::(nat_lit 689)::(nat_lit 690)::(nat_lit 691)::(nat_lit 693)::(nat_lit 694)::(nat_lit 696)::(nat_lit 697)::(nat_lit 698)::(nat_lit 700)::(nat_lit 701)::(nat_lit 703)::(nat_lit 704)::(nat_lit 705)::(nat_lit 707)::(nat_lit 708)::(nat_lit 710)::(nat_lit 711)::(nat_lit 712)::(nat_lit 714)::(nat_lit 715)::(nat_lit 717)::(nat_lit 718)::(nat_lit 719)::(nat_lit 721)::(nat_lit 722)::(nat_lit 724)::(nat_lit 725)::(nat_lit 726)::(nat_lit 728)::(nat_lit 729)::(nat_lit 731)::(nat_lit 732)::(nat_lit 733)::(nat_lit 735)::(nat_lit 736)::(nat_lit 738)::(nat_lit 739)::(nat_lit 740)::(nat_lit 742)::(nat_lit 743)::(nat_lit 745)::(nat_lit 746)::(nat_lit 747)::(nat_lit 749)::(nat_lit 750)::(nat_lit 752)::(nat_lit 753)::(nat_lit 754)::(nat_lit 756)::(nat_lit 757)::(nat_lit 759)::(nat_lit 760)::(nat_lit 761)::(nat_lit 763)::(nat_lit 764)::(nat_lit 766)::(nat_lit 767)::(nat_lit 768)::(nat_lit 770)::(nat_lit 771)::(nat_lit 773)::(nat_lit 774)::(nat_lit 775)::(nat_lit 777)::(nat_lit 778)::(nat_lit 780)::(nat_lit 781)::(nat_lit 782)::(nat_lit 784)::(nat_lit 785)::(nat_lit 787)::(nat_lit 788)::(nat_lit 789)::(nat_lit 791)::(nat_lit 792)::(nat_lit 794)::(nat_lit 795)::(nat_lit 796)::(nat_lit 798)::(nat_lit 799)::(nat_lit 801)::(nat_lit 802)::(nat_lit 803)::(nat_lit 805)::(nat_lit 806)::(nat_lit 808)::(nat_lit 809)::[])
def h_heap_39:PySem.Params→PySem.W.Frag:=fun x=>
(nat_lit 2,(@W.boot_o_2 x))::
(nat_lit 3,(W_ x))::
(nat_lit 15,(za x))::
(nat_lit 17,(o53 x))::
(nat_lit 18,(za x))::
(nat_lit 20,(o56 x))::
(nat_lit 21,(o57 x))::
(nat_lit 22,(o58 x))::
(nat_lit 29,(za x))::
(nat_lit 30,(o66 x))::
(nat_lit 31,(jy x))::
(nat_lit 32,(o68 x))::
(nat_lit 35,(zW x))::
(nat_lit 42,(za x))::
(nat_lit 43,(o82 x))::
(nat_lit 44,(o83 x))::
(nat_lit 47,(zW x))::
(nat_lit 54,(za x))::
(nat_lit 55,(o97 x))::
(nat_lit 56,(o98 x))::
(nat_lit 59,(zW x))::
(nat_lit 66,(za x))::
(nat_lit 67,(jG x))::
(nat_lit 68,(jF x))::
(nat_lit 71,(zW x))::
(nat_lit 78,(za x))::
(nat_lit 79,(jE x))::
(nat_lit 80,(jD x))::
(nat_lit 83,(zW x))::
(nat_lit 90,(za x))::
(nat_lit 91,(jC x))::
(nat_lit 92,(jB x))::
(nat_lit 95,(zW x))::
(nat_lit 102,(za x))::
(nat_lit 103,(jA x))::
(nat_lit 104,(jz x))::
(nat_lit 107,(zW x))::
(nat_lit 114,(za x))::
(nat_lit 115,(jx x))::
(nat_lit 116,(jw x))::
(nat_lit 119,(za x))::
(nat_lit 121,(jv x))::
(nat_lit 122,(za x))::
(nat_lit 124,(ju x))::
(nat_lit 125,(jt x))::
(nat_lit 126,(za x))::
(nat_lit 128,(jr x))::
(nat_lit 129,(za x))::
(nat_lit 131,(jq x))::
(nat_lit 132,(jp x))::
(nat_lit 133,(za x))::
(nat_lit 135,(jo x))::
(nat_lit 136,(za x))::
(nat_lit 138,(jn x))::
(nat_lit 139,(jm x))::
(nat_lit 140,(za x))::
(nat_lit 142,(jl x))::
(nat_lit 143,(za x))::
(nat_lit 145,(jk x))::
(nat_lit 146,(ji x))::
(nat_lit 147,(za x))::
(nat_lit 149,(jh x))::
(nat_lit 150,(za x))::
(nat_lit 152,(jg x))::
(nat_lit 153,(jf x))::
(nat_lit 154,(za x))::
(nat_lit 156,(je x))::
(nat_lit 157,(za x))::
(nat_lit 159,(jd x))::
(nat_lit 160,(jc x))::
(nat_lit 168,(za x))::
(nat_lit 170,(fI x))::
(nat_lit 171,(za x))::
(nat_lit 173,(fH x))::
(nat_lit 174,(fG x))::
(nat_lit 175,(za x))::
(nat_lit 177,(fF x))::
(nat_lit 178,(za x))::
(nat_lit 180,(fE x))::
(nat_lit 181,(fD x))::
(nat_lit 182,(za x))::
(nat_lit 184,(fC x))::
(nat_lit 185,(za x))::
(nat_lit 187,(fB x))::
(nat_lit 188,(fA x))::
(nat_lit 189,(za x))::
(nat_lit 191,(fz x))::
(nat_lit 192,(za x))::
(nat_lit 194,(fw x))::
(nat_lit 195,(fv x))::
(nat_lit 196,(za x))::
(nat_lit 198,(fu x))::
(nat_lit 199,(za x))::
(nat_lit 201,(ft x))::
(nat_lit 202,(fq x))::
(nat_lit 203,(za x))::
(nat_lit 205,(fo x))::
(nat_lit 206,(za x))::
(nat_lit 208,(fm x))::
(nat_lit 209,(fk x))::
(nat_lit 210,(za x))::
(nat_lit 211,(fj x))::
(nat_lit 212,(ZE x))::
(nat_lit 213,(fh x))::
(nat_lit 214,(fg x))::
(nat_lit 217,(yV x))::
(nat_lit 224,(za x))::
(nat_lit 226,(ff x))::
(nat_lit 227,(za x))::
(nat_lit 229,(fe x))::
(nat_lit 230,(fc x))::
(nat_lit 231,(za x))::
(nat_lit 233,(fb x))::
(nat_lit 234,(za x))::
(nat_lit 236,(g9 x))::
(nat_lit 237,(g8 x))::
(nat_lit 238,(za x))::
(nat_lit 240,(g7 x))::
(nat_lit 241,(za x))::
(nat_lit 243,(gZ x))::
(nat_lit 244,(gY x))::
(nat_lit 245,(gX x))::
(nat_lit 246,(gW x))::
(nat_lit 247,(gU x))::
(nat_lit 250,(yV x))::
(nat_lit 257,(za x))::
(nat_lit 259,(gT x))::
(nat_lit 260,(za x))::
(nat_lit 262,(gR x))::
(nat_lit 263,(gQ x))::
(nat_lit 264,(za x))::
(nat_lit 266,(gP x))::
(nat_lit 267,(za x))::
(nat_lit 269,(gO x))::
(nat_lit 270,(gN x))::
(nat_lit 271,(za x))::
(nat_lit 273,(gM x))::
(nat_lit 274,(za x))::
(nat_lit 276,(gL x))::
(nat_lit 277,(gK x))::
(nat_lit 278,(za x))::
(nat_lit 280,(gJ x))::
(nat_lit 281,(za x))::
(nat_lit 283,(gH x))::
(nat_lit 284,(gG x))::
(nat_lit 285,(gF x))::
(nat_lit 286,(gE x))::
(nat_lit 287,(gC x))::
(nat_lit 290,(yV x))::
(nat_lit 297,(za x))::
(nat_lit 299,(gB x))::
(nat_lit 300,(za x))::
(nat_lit 302,(gA x))::
(nat_lit 303,(gz x))::
(nat_lit 304,(za x))::
(nat_lit 306,(gx x))::
(nat_lit 307,(za x))::
(nat_lit 309,(gw x))::
(nat_lit 310,(gv x))::
(nat_lit 311,(za x))::
(nat_lit 313,(gu x))::
(nat_lit 314,(za x))::
(nat_lit 316,(gr x))::
(nat_lit 317,(gq x))::
(nat_lit 318,(za x))::
(nat_lit 320,(gp x))::
(nat_lit 321,(za x))::
(nat_lit 323,(gm x))::
(nat_lit 324,(gl x))::
(nat_lit 325,(za x))::
(nat_lit 327,(gk x))::
(nat_lit 328,(za x))::
(nat_lit 330,(gj x))::
(nat_lit 331,(gi x))::
(nat_lit 332,(gh x))::
(nat_lit 333,(gg x))::
(nat_lit 334,(gf x))::
(nat_lit 337,(yV x))::
(nat_lit 344,(za x))::
(nat_lit 346,(ge x))::
(nat_lit 347,(za x))::
(nat_lit 349,(gd x))::
(nat_lit 350,(gc x))::
(nat_lit 351,(za x))::
(nat_lit 353,(gb x))::
(nat_lit 354,(za x))::
(nat_lit 356,(h_ x))::
(nat_lit 357,(h9 x))::
(nat_lit 358,(za x))::
(nat_lit 360,(h8 x))::
(nat_lit 361,(za x))::
(nat_lit 363,(hZ x))::
(nat_lit 364,(hW x))::
(nat_lit 365,(hV x))::
(nat_lit 366,(hG x))::
(nat_lit 367,(i_ x))::
(nat_lit 370,(yV x))::
(nat_lit 377,(za x))::
(nat_lit 379,(ZW x))::
(nat_lit 380,(za x))::
(nat_lit 382,(ZV x))::
(nat_lit 383,(ZU x))::
(nat_lit 384,(za x))::
(nat_lit 386,(ZT x))::
(nat_lit 387,(za x))::
(nat_lit 389,(ZS x))::
(nat_lit 390,(ZR x))::
(nat_lit 391,(za x))::
(nat_lit 393,(ZQ x))::
(nat_lit 394,(za x))::
(nat_lit 396,(ZP x))::
(nat_lit 397,(ZO x))::
(nat_lit 398,(za x))::
(nat_lit 400,(ZN x))::
(nat_lit 401,(za x))::
(nat_lit 403,(ZM x))::
(nat_lit 404,(ZL x))::
(nat_lit 405,(za x))::
(nat_lit 407,(ZK x))::
(nat_lit 408,(za x))::
(nat_lit 410,(ZJ x))::
(nat_lit 411,(ZI x))::
(nat_lit 412,(ZH x))::
(nat_lit 413,(ZG x))::
(nat_lit 414,(ZF x))::
(nat_lit 417,(yV x))::
(nat_lit 424,(za x))::
(nat_lit 426,(ZD x))::
(nat_lit 427,(za x))::
(nat_lit 429,(ZC x))::
(nat_lit 430,(ZB x))::
(nat_lit 431,(za x))::
(nat_lit 433,(ZA x))::
(nat_lit 434,(za x))::
(nat_lit 436,(Zz x))::
(nat_lit 437,(Zy x))::
(nat_lit 438,(za x))::
(nat_lit 440,(Zw x))::
(nat_lit 441,(za x))::
(nat_lit 443,(Zv x))::
(nat_lit 444,(Zu x))::
(nat_lit 445,(za x))::
(nat_lit 447,(Zt x))::
(nat_lit 448,(za x))::
(nat_lit 450,(Zs x))::
(nat_lit 451,(Zr x))::
(nat_lit 452,(za x))::
(nat_lit 454,(Zq x))::
(nat_lit 455,(za x))::
(nat_lit 457,(Zp x))::
(nat_lit 458,(Zo x))::
(nat_lit 459,(za x))::
(nat_lit 461,(Zm x))::
(nat_lit 462,(za x))::
(nat_lit 464,(Zl x))::
(nat_lit 465,(Zk x))::
(nat_lit 466,(Zj x))::
(nat_lit 467,(Zi x))::
(nat_lit 468,(Zh x))::
(nat_lit 471,(za x))::
(nat_lit 473,(Zg x))::
(nat_lit 474,(za x))::
(nat_lit 476,(Zf x))::
(nat_lit 477,(Ze x))::
(nat_lit 478,(za x))::
(nat_lit 480,(Zd x))::
(nat_lit 481,(za x))::
(nat_lit 483,(Zc x))::
(nat_lit 484,(Zb x))::
(nat_lit 485,(za x))::
(nat_lit 487,(Za x))::
(nat_lit 488,(za x))::
(nat_lit 490,(a_ x))::
(nat_lit 491,(aZ x))::
(nat_lit 492,(za x))::
(nat_lit 494,(aY x))::
(nat_lit 495,(za x))::
(nat_lit 497,(aX x))::
(nat_lit 498,(aW x))::
(nat_lit 499,(za x))::
(nat_lit 501,(aV x))::
(nat_lit 502,(za x))::
(nat_lit 504,(aU x))::
(nat_lit 505,(aS x))::
(nat_lit 513,(za x))::
(nat_lit 515,(aR x))::
(nat_lit 516,(za x))::
(nat_lit 518,(aQ x))::
(nat_lit 519,(aP x))::
(nat_lit 520,(za x))::
(nat_lit 522,(aO x))::
(nat_lit 523,(za x))::
(nat_lit 525,(aN x))::
(nat_lit 526,(aM x))::
(nat_lit 527,(za x))::
(nat_lit 529,(aL x))::
(nat_lit 530,(za x))::
(nat_lit 532,(aK x))::
(nat_lit 533,(aJ x))::
(nat_lit 534,(za x))::
(nat_lit 536,(aI x))::
(nat_lit 537,(za x))::
(nat_lit 539,(aH x))::
(nat_lit 540,(aG x))::
(nat_lit 541,(aF x))::
(nat_lit 542,(aE x))::
(nat_lit 543,(aD x))::
(nat_lit 544,(aC x))::
(nat_lit 545,(aB x))::
(nat_lit 548,(za x))::
(nat_lit 550,(aA x))::
(nat_lit 551,(za x))::
(nat_lit 553,(az x))::
(nat_lit 554,(ay x))::
(nat_lit 555,(za x))::
(nat_lit 557,(ax x))::
(nat_lit 558,(za x))::
(nat_lit 560,(aw x))::
(nat_lit 561,(av x))::
(nat_lit 562,(za x))::
(nat_lit 564,(au x))::
(nat_lit 565,(za x))::
(nat_lit 567,(aq x))::
(nat_lit 568,(ap x))::
(nat_lit 569,(za x))::
(nat_lit 571,(ao x))::
(nat_lit 572,(za x))::
(nat_lit 574,(al x))::
(nat_lit 575,(ak x))::
(nat_lit 576,(za x))::
(nat_lit 578,(aj x))::
(nat_lit 579,(za x))::
(nat_lit 581,(ai x))::
(nat_lit 582,(ah x))::
(nat_lit 583,(za x))::
(nat_lit 585,(ag x))::
(nat_lit 586,(za x))::
(nat_lit 588,(af x))::
(nat_lit 589,(ae x))::
(nat_lit 590,(za x))::
(nat_lit 592,(ad x))::
(nat_lit 593,(za x))::
(nat_lit 595,(ac x))::
(nat_lit 596,(aa x))::
(nat_lit 597,(za x))::
(nat_lit 599,(b_ x))::
(nat_lit 600,(za x))::
(nat_lit 602,(bZ x))::
(nat_lit 603,(bY x))::
(nat_lit 604,(za x))::
(nat_lit 606,(bX x))::
(nat_lit 607,(za x))::
(nat_lit 609,(bW x))::
(nat_lit 610,(bV x))::
(nat_lit 611,(za x))::
(nat_lit 613,(bU x))::
(nat_lit 614,(za x))::
(nat_lit 616,(bT x))::
(nat_lit 617,(bS x))::
(nat_lit 618,(za x))::
(nat_lit 620,(bR x))::
(nat_lit 621,(za x))::
(nat_lit 623,(bQ x))::
(nat_lit 624,(bP x))::
(nat_lit 625,(za x))::
(nat_lit 627,(bO x))::
(nat_lit 628,(za x))::
(nat_lit 630,(bN x))::
(nat_lit 631,(bM x))::
(nat_lit 632,(za x))::
(nat_lit 634,(bL x))::
(nat_lit 635,(za x))::
(nat_lit 637,(bK x))::
(nat_lit 638,(bJ x))::
(nat_lit 639,(za x))::
(nat_lit 641,(Ug x))::
(nat_lit 642,(za x))::
(nat_lit 644,(Uf x))::
(nat_lit 645,(Ue x))::
(nat_lit 646,(za x))::
(nat_lit 648,(Ud x))::
(nat_lit 649,(za x))::
(nat_lit 651,(Uc x))::
(nat_lit 652,(Ub x))::
(nat_lit 653,(za x))::
(nat_lit 655,(Ua x))::
(nat_lit 656,(za x))::
(nat_lit 658,(V_ x))::
(nat_lit 659,(V9 x))::
(nat_lit 660,(za x))::
(nat_lit 662,(V8 x))::
(nat_lit 663,(za x))::
(nat_lit 665,(V7 x))::
(nat_lit 666,(V6 x))::
(nat_lit 667,(za x))::
(nat_lit 670,(V5 x))::
(nat_lit 671,(V4 x))::
(nat_lit 672,(za x))::
(nat_lit 675,(V3 x))::
(nat_lit 676,(V2 x))::
(nat_lit 677,(za x))::
(nat_lit 679,(V1 x))::
(nat_lit 680,(za x))::
(nat_lit 682,(V0 x))::
(nat_lit 683,(VZ x))::
(nat_lit 684,(za x))::
(nat_lit 686,(VY x))::
(nat_lit 687,(za x))::
(nat_lit 689,(VX x))::
(nat_lit 690,(VW x))::
(nat_lit 691,(za x))::
(nat_lit 693,(VV x))::
(nat_lit 694,(za x))::
(nat_lit 696,(VU x))::
(nat_lit 697,(VT x))::
(nat_lit 698,(za x))::
(nat_lit 700,(VS x))::
(nat_lit 701,(za x))::
(nat_lit 703,(VR x))::
(nat_lit 704,(VQ x))::
(nat_lit 705,(za x))::
(nat_lit 707,(VP x))::
(nat_lit 708,(za x))::
(nat_lit 710,(VO x))::
(nat_lit 711,(VN x))::
(nat_lit 712,(za x))::
(nat_lit 714,(VM x))::
(nat_lit 715,(za x))::
(nat_lit 717,(VL x))::
(nat_lit 718,(VJ x))::
(nat_lit 719,(za x))::
(nat_lit 721,(VI x))::
(nat_lit 722,(za x))::
(nat_lit 724,(VH x))::
(nat_lit 725,(VG x))::
(nat_lit 726,(za x))::
(nat_lit 728,(VF x))::
(nat_lit 729,(za x))::
(nat_lit 731,(VE x))::
(nat_lit 732,(VD x))::
(nat_lit 733,(za x))::
(nat_lit 735,(VC x))::
(nat_lit 736,(za x))::
(nat_lit 738,(VB x))::
(nat_lit 739,(VA x))::
(nat_lit 740,(za x))::
(nat_lit 742,(Vz x))::
(nat_lit 743,(za x))::
(nat_lit 745,(Vy x))::
(nat_lit 746,(Vx x))::
(nat_lit 747,(za x))::
(nat_lit 749,(Vv x))::
(nat_lit 750,(za x))::
(nat_lit 752,(Vu x))::
(nat_lit 753,(Vs x))::
(nat_lit 754,(za x))::
(nat_lit 756,(Vr x))::
(nat_lit 757,(za x))::
(nat_lit 759,(Vq x))::
(nat_lit 760,(Vp x))::
(nat_lit 761,(za x))::
(nat_lit 763,(Vo x))::
(nat_lit 764,(za x))::
(nat_lit 766,(Vn x))::
(nat_lit 767,(Vm x))::
(nat_lit 768,(za x))::
(nat_lit 770,(Vl x))::
(nat_lit 771,(za x))::
(nat_lit 773,(Vk x))::
(nat_lit 774,(Vj x))::
(nat_lit 775,(za x))::
(nat_lit 777,(Vi x))::
(nat_lit 778,(za x))::
(nat_lit 780,(Vh x))::
(nat_lit 781,(Vg x))::
(nat_lit 782,(za x))::
(nat_lit 784,(Vf x))::
(nat_lit 785,(za x))::
(nat_lit 787,(Ve x))::
(nat_lit 788,(Vd x))::
(nat_lit 789,(za x))::
(nat_lit 791,(Vc x))::
(nat_lit 792,(za x))::
(nat_lit 794,(Vb x))::
(nat_lit 795,(Va x))::
(nat_lit 796,(za x))::
(nat_lit 798,(W9 x))::
(nat_lit 799,(za x))::
(nat_lit 801,(W8 x))::
(nat_lit 802,(W7 x))::
(nat_lit 803,(za x))::
(nat_lit 805,(WZ x))::
(nat_lit 806,(za x))::
(nat_lit 808,(WY x))::
(nat_lit 809,(WX x))::[]
def h_view_39:PySem.Program:={ PySem.Challenge.pw_oddbases_k64_whole_machine_is_settling with main:={ PySem.Challenge.pw_oddbases_k64_whole_machine_is_settling.main with body:=[My.top 0,My.top 2,My.top 3,My.top 4,My.top 5,My.top 6,My.top 7,My.top 8,My.top 9,My.top 11,My.top 12,My.top 13,My.top 14,My.top 15,My.top 17,My.top 18,My.top 19,My.top 20,My.top 21,My.top 22,My.top 23,My.top 24,My.top 26,My.top 27,My.top 28,My.top 29,My.top 30,My.top 31,My.top 33,My.top 34,My.top 36,My.top 37,My.top 38,My.top 40,My.top 41,My.top 42,My.top 43,My.top 44,My.top 45,My.top 46,My.top 48,My.top 49,My.top 50,My.top 51,My.top 52,My.top 54,My.top 55,My.top 56,My.top 57,My.top 58,My.top 59,My.top 60,My.top 62,My.top 63,My.top 64,My.top 65,My.top 66,My.top 67,My.top 68,My.top 69,My.top 70,My.top 71,My.top 72,My.top 73,My.top 74,My.top 75] } }
def xv:((x:@Params)→@Heap):=(fun x=>(@Heap.mk (@Array.mk @Obj ((@W.boot_o_0 x)::(@W.boot_o_1 x)::(@W.boot_o_2 x)::(W_ x)::(@W.boot_o_4 x)::(@W.boot_o_5 x)::(@W.boot_o_6 x)::(@W.boot_o_7 x)::(@W.boot_o_8 x)::(@W.boot_o_9 x)::(@W.boot_o_10 x)::(za x)::(SO x)::(o45 x)::(o46 x)::(za x)::(zg x)::(o53 x)::(za x)::(o55 x)::(o56 x)::(o57 x)::(o58 x)::(zx x)::(o60 x)::(za x)::(zg x)::(o63 x)::(o64 x)::(za x)::(o66 x)::(jy x)::(o68 x)::(o69 x)::(o70 x)::(zW x)::(zx x)::(o76 x)::(za x)::(zg x)::(o79 x)::(o80 x)::(za x)::(o82 x)::(o83 x)::(o84 x)::(o85 x)::(zW x)::(zx x)::(o91 x)::(za x)::(zg x)::(o94 x)::(o95 x)::(za x)::(o97 x)::(o98 x)::(o99 x)::(eQ x)::(zW x)::(zx x)::(eP x)::(za x)::(zg x)::(eO x)::(eN x)::(za x)::(jG x)::(jF x)::(eM x)::(eK x)::(zW x)::(zx x)::(eJ x)::(za x)::(zg x)::(eI x)::(eH x)::(za x)::(jE x)::(jD x)::(eG x)::(eE x)::(zW x)::(zx x)::(eD x)::(za x)::(zg x)::(eB x)::(eo x)::(za x)::(jC x)::(jB x)::(eh x)::(f_ x)::(zW x)::(zx x)::(fZ x)::(za x)::(zg x)::(fY x)::(fX x)::(za x)::(jA x)::(jz x)::(fW x)::(fV x)::(zW x)::(zx x)::(fU x)::(za x)::(zg x)::(fS x)::(fR x)::(za x)::(jx x)::(jw x)::(fQ x)::(fP x)::(za x)::(zg x)::(jv x)::(za x)::(fO x)::(ju x)::(jt x)::(za x)::(zg x)::(jr x)::(za x)::(fN x)::(jq x)::(jp x)::(za x)::(zg x)::(jo x)::(za x)::(fM x)::(jn x)::(jm x)::(za x)::(zg x)::(jl x)::(za x)::(fL x)::(jk x)::(ji x)::(za x)::(zg x)::(jh x)::(za x)::(fK x)::(jg x)::(jf x)::(za x)::(zg x)::(je x)::(za x)::(fJ x)::(jd x)::(jc x)::(za x)::(zx x)::(YN x)::(za x)::(YM x)::(YL x)::(YK x)::(za x)::(zg x)::(fI x)::(za x)::(YJ x)::(fH x)::(fG x)::(za x)::(zg x)::(fF x)::(za x)::(YI x)::(fE x)::(fD x)::(za x)::(zg x)::(fC x)::(za x)::(YH x)::(fB x)::(fA x)::(za x)::(zg x)::(fz x)::(za x)::(YG x)::(fw x)::(fv x)::(za x)::(zg x)::(fu x)::(za x)::(YF x)::(ft x)::(fq x)::(za x)::(zg x)::(fo x)::(za x)::(YE x)::(fm x)::(fk x)::(za x)::(fj x)::(ZE x)::(fh x)::(fg x)::(YD x)::(YC x)::(yV x)::(zx x)::(YB x)::(za x)::(YA x)::(Yz x)::(Yy x)::(za x)::(zg x)::(ff x)::(za x)::(Yx x)::(fe x)::(fc x)::(za x)::(zg x)::(fb x)::(za x)::(Yw x)::(g9 x)::(g8 x)::(za x)::(zg x)::(g7 x)::(za x)::(Yv x)::(gZ x)::(gY x)::(gX x)::(gW x)::(gU x)::(Yu x)::(Yt x)::(yV x)::(zx x)::(Ys x)::(za x)::(Yr x)::(Yq x)::(Yp x)::(za x)::(zg x)::(gT x)::(za x)::(Yo x)::(gR x)::(gQ x)::(za x)::(zg x)::(gP x)::(za x)::(Yn x)::(gO x)::(gN x)::(za x)::(zg x)::(gM x)::(za x)::(Ym x)::(gL x)::(gK x)::(za x)::(zg x)::(gJ x)::(za x)::(Yl x)::(gH x)::(gG x)::(gF x)::(gE x)::(gC x)::(Yk x)::(Yj x)::(yV x)::(zx x)::(Yi x)::(za x)::(Yh x)::(Yg x)::(Ye x)::(za x)::(zg x)::(gB x)::(za x)::(Yd x)::(gA x)::(gz x)::(za x)::(zg x)::(gx x)::(za x)::(Yc x)::(gw x)::(gv x)::(za x)::(zg x)::(gu x)::(za x)::(Yb x)::(gr x)::(gq x)::(za x)::(zg x)::(gp x)::(za x)::(Z9 x)::(gm x)::(gl x)::(za x)::(zg x)::(gk x)::(za x)::(Z8 x)::(gj x)::(gi x)::(gh x)::(gg x)::(gf x)::(Z7 x)::(Z6 x)::(yV x)::(zx x)::(Z5 x)::(za x)::(Z4 x)::(Z3 x)::(Z2 x)::(za x)::(zg x)::(ge x)::(za x)::(Z1 x)::(gd x)::(gc x)::(za x)::(zg x)::(gb x)::(za x)::(Z0 x)::(h_ x)::(h9 x)::(za x)::(zg x)::(h8 x)::(za x)::(ZZ x)::(hZ x)::(hW x)::(hV x)::(hG x)::(i_ x)::(ZY x)::(ZX x)::(yV x)::(zx x)::(Tf x)::(za x)::(Te x)::(Td x)::(Tc x)::(za x)::(zg x)::(ZW x)::(za x)::(Tb x)::(ZV x)::(ZU x)::(za x)::(zg x)::(ZT x)::(za x)::(Ta x)::(ZS x)::(ZR x)::(za x)::(zg x)::(ZQ x)::(za x)::(U_ x)::(ZP x)::(ZO x)::(za x)::(zg x)::(ZN x)::(za x)::(UZ x)::(ZM x)::(ZL x)::(za x)::(zg x)::(ZK x)::(za x)::(UY x)::(ZJ x)::(ZI x)::(ZH x)::(ZG x)::(ZF x)::(UX x)::(UW x)::(yV x)::(zx x)::(UV x)::(za x)::(UU x)::(UT x)::(US x)::(za x)::(zg x)::(ZD x)::(za x)::(UR x)::(ZC x)::(ZB x)::(za x)::(zg x)::(ZA x)::(za x)::(UQ x)::(Zz x)::(Zy x)::(za x)::(zg x)::(Zw x)::(za x)::(UP x)::(Zv x)::(Zu x)::(za x)::(zg x)::(Zt x)::(za x)::(UO x)::(Zs x)::(Zr x)::(za x)::(zg x)::(Zq x)::(za x)::(UN x)::(Zp x)::(Zo x)::(za x)::(zg x)::(Zm x)::(za x)::(UM x)::(Zl x)::(Zk x)::(Zj x)::(Zi x)::(Zh x)::(UL x)::(UK x)::(za x)::(zg x)::(Zg x)::(za x)::(UJ x)::(Zf x)::(Ze x)::(za x)::(zg x)::(Zd x)::(za x)::(UI x)::(Zc x)::(Zb x)::(za x)::(zg x)::(Za x)::(za x)::(UH x)::(a_ x)::(aZ x)::(za x)::(zg x)::(aY x)::(za x)::(UG x)::(aX x)::(aW x)::(za x)::(zg x)::(aV x)::(za x)::(UF x)::(aU x)::(aS x)::(za x)::(zx x)::(UE x)::(za x)::(UD x)::(UC x)::(UB x)::(za x)::(zg x)::(aR x)::(za x)::(UA x)::(aQ x)::(aP x)::(za x)::(zg x)::(aO x)::(za x)::(Uz x)::(aN x)::(aM x)::(za x)::(zg x)::(aL x)::(za x)::(Uy x)::(aK x)::(aJ x)::(za x)::(zg x)::(aI x)::(za x)::(Ux x)::(aH x)::(aG x)::(aF x)::(aE x)::(aD x)::(aC x)::(aB x)::(Uw x)::(Uv x)::(za x)::(zg x)::(aA x)::(za x)::(Uu x)::(az x)::(ay x)::(za x)::(zg x)::(ax x)::(za x)::(Ut x)::(aw x)::(av x)::(za x)::(zg x)::(au x)::(za x)::(Us x)::(aq x)::(ap x)::(za x)::(zg x)::(ao x)::(za x)::(Ur x)::(al x)::(ak x)::(za x)::(zg x)::(aj x)::(za x)::(Uq x)::(ai x)::(ah x)::(za x)::(zg x)::(ag x)::(za x)::(Up x)::(af x)::(ae x)::(za x)::(zg x)::(ad x)::(za x)::(Uo x)::(ac x)::(aa x)::(za x)::(zg x)::(b_ x)::(za x)::(Um x)::(bZ x)::(bY x)::(za x)::(zg x)::(bX x)::(za x)::(Ul x)::(bW x)::(bV x)::(za x)::(zg x)::(bU x)::(za x)::(Uk x)::(bT x)::(bS x)::(za x)::(zg x)::(bR x)::(za x)::(Uj x)::(bQ x)::(bP x)::(za x)::(zg x)::(bO x)::(za x)::(Ui x)::(bN x)::(bM x)::(za x)::(zg x)::(bL x)::(za x)::(Uh x)::(bK x)::(bJ x)::(za x)::(zg x)::(Ug x)::(za x)::(Re x)::(Uf x)::(Ue x)::(za x)::(zg x)::(Ud x)::(za x)::(Rc x)::(Uc x)::(Ub x)::(za x)::(zg x)::(Ua x)::(za x)::(Rb x)::(V_ x)::(V9 x)::(za x)::(zg x)::(V8 x)::(za x)::(Ra x)::(V7 x)::(V6 x)::(za x)::(zg x)::(S9 x)::(V5 x)::(V4 x)::(za x)::(zg x)::(S8 x)::(V3 x)::(V2 x)::(za x)::(zg x)::(V1 x)::(za x)::(S7 x)::(V0 x)::(VZ x)::(za x)::(zg x)::(VY x)::(za x)::(S6 x)::(VX x)::(VW x)::(za x)::(zg x)::(VV x)::(za x)::(S5 x)::(VU x)::(VT x)::(za x)::(zg x)::(VS x)::(za x)::(S4 x)::(VR x)::(VQ x)::(za x)::(zg x)::(VP x)::(za x)::(S3 x)::(VO x)::(VN x)::(za x)::(zg x)::(VM x)::(za x)::(S2 x)::(VL x)::(VJ x)::(za x)::(zg x)::(VI x)::(za x)::(S1 x)::(VH x)::(VG x)::(za x)::(zg x)::(VF x)::(za x)::(S0 x)::(VE x)::(VD x)::(za x)::(zg x)::(VC x)::(za x)::(SZ x)::(VB x)::(VA x)::(za x)::(zg x)::(Vz x)::(za x)::(SY x)::(Vy x)::(Vx x)::(za x)::(zg x)::(Vv x)::(za x)::(SW x)::(Vu x)::(Vs x)::(za x)::(zg x)::(Vr x)::(za x)::(SV x)::(Vq x)::(Vp x)::(za x)::(zg x)::(Vo x)::(za x)::(SU x)::(Vn x)::(Vm x)::(za x)::(zg x)::(Vl x)::(za x)::(ST x)::(Vk x)::(Vj x)::(za x)::(zg x)::(Vi x)::(za x)::(SS x)::(Vh x)::(Vg x)::(za x)::(zg x)::(Vf x)::(za x)::(SR x)::(Ve x)::(Vd x)::(za x)::(zg x)::(Vc x)::(za x)::(SQ x)::(Vb x)::(Va x)::(za x)::(zg x)::(W9 x)::(za x)::(SN x)::(W8 x)::(W7 x)::(za x)::(zg x)::(WZ x)::(za x)::(SM x)::(WY x)::(WX x)::[])) (@Life.mk [] [] [] 0 (@List.nil (@Prod @Nat @Nat)) [] @Bool.false #[] [] 0 @Bool.false @Bool.false @Bool.false (0:Int) [(2000:Int),(10:Int),(10:Int)] @Bool.false 0 @Bool.true [] [] 0 @Bool.false)))
def yh:@Env:=(@Env.mk (@Module.scope (@Program.main ((@W.OpenRow.toRowW (@W.OpenLaw.row @Challenge.rw_oddbases_k64_whole_machine_is_settling))).1)) @mainNs @mainNs (@List.nil (@Prod @Str @Addr)) @Str.empty (@Option.none @Addr) (r_ 13) (@some @Addr (@OfNat.ofNat @Addr 14 (@instOfNatNat 14))) (@OfNat.ofNat @Addr 0 (@instOfNatNat 0)))
def mW:=N_ W.boot_o_0 (N_ W.boot_o_1 (N_ W_ (N_ W.boot_o_7 (N_ za (N_ jy (N_ zg (N_ zg (N_ Yq (L_ UC) (L_ Vm)) (N_ ZU (L_ za) Z_)) (N_ fz (N_ zg (L_ ak) Z_) (N_ Zt (L_ VR) Z_))) (N_ zW (N_ jd (N_ gC (L_ aD) (L_ za)) (N_ UX (L_ V4) Z_)) (N_ Yy Y2 (N_ zg (L_ VC) Z_)))) (N_ zW (N_ jE (N_ za Y1 (N_ zg (L_ Ua) Z_)) (N_ YE (N_ Z7 (L_ zg) Z_) (N_ UM (L_ za) Z_))) (N_ zg (N_ za (N_ gz (L_ Ut) Z_) Y2) (N_ zg (N_ i_ (L_ bQ) Z_) (N_ za (L_ SW) Z_))))) (N_ zx (N_ zg (N_ zW (N_ jo (N_ gQ (L_ aP) (L_ za)) Y3) (N_ za (N_ gk (L_ za) Z_) (N_ za (L_ VN) Z_))) (N_ jA (N_ YK (N_ Yg (L_ za) (L_ SM)) (N_ US (L_ V1) Z_)) (N_ za (N_ zg (L_ Uk) Z_) (N_ Za (L_ za) Z_)))) (N_ o97 (N_ zg (N_ fK (N_ zg (L_ zg) (L_ Vc)) (N_ ZK (L_ za) Z_)) (N_ YD (N_ Z2 (L_ b_) Z_) Y3)) (N_ za (N_ zg (N_ za (L_ aq) Z_) (N_ zg (L_ S5) Z_)) (N_ gU (N_ Td (L_ bM) Z_) (N_ UF (L_ Vq) Z_)))))) (N_ za (N_ o55 (N_ zW (N_ jG (N_ jq (N_ gT (L_ aR) (L_ za)) (N_ za (L_ Re) Z_)) (N_ fv (N_ gm (L_ za) Z_) (N_ Zr (L_ VP) Z_))) (N_ zg (N_ YN (N_ zx (L_ Uv) (L_ za)) (N_ UV (L_ V3) Z_)) (N_ za (N_ Z0 (L_ za) Z_) (N_ Zc (L_ VA) Z_)))) (N_ zg (N_ zW (N_ za (N_ Ym (L_ Uy) (L_ Ve)) (N_ ZM (L_ V9) Z_)) (N_ fj (N_ Z5 (L_ ac) Z_) (N_ Zi (L_ S1) Z_))) (N_ jx (N_ YI Y3 (N_ UQ (L_ za) Z_)) (N_ gZ (N_ zx (L_ bO) Z_) Y3)))) (N_ o63 (N_ o82 (N_ zg (N_ jm (N_ za (L_ za) (L_ SS)) (N_ U_ (L_ Uc) Z_)) (N_ za (N_ gi (L_ Up) Z_) Y2)) (N_ zW (N_ za (N_ gB (L_ za) Z_) (N_ za (L_ VZ) Z_)) (N_ Yw (N_ hZ (L_ zg) Z_) (N_ aZ (L_ za) Z_)))) (N_ zW (N_ jC (N_ zg (N_ gH (L_ aH) (L_ Va)) (N_ ZI (L_ za) Z_)) (N_ YB (N_ za (L_ bY) Z_) (N_ UJ (L_ VE) Z_))) (N_ fO (N_ fB (N_ Yb (L_ ao) Z_) (N_ Zv (L_ zg) Z_)) (N_ zx (N_ ZW (L_ za) Z_) (N_ zx (L_ Vo) Z_))))))) (N_ W.boot_o_5 (N_ W.boot_o_9 (N_ o53 (N_ o69 (N_ eN (N_ za Y1 (N_ zg (L_ Ug) Z_)) (N_ YG Y3 (N_ UO (L_ za) Z_))) (N_ fZ (N_ za (N_ Yj (L_ aB) (L_ W8)) Y4) (N_ zg (N_ gb (L_ bW) Z_) (N_ za (L_ SZ) Z_)))) (N_ o91 (N_ eG (N_ jk (N_ gM (L_ aL) (L_ za)) (N_ za (L_ Rb) Z_)) (N_ fk (N_ yV (L_ za) Z_) (N_ Zk (L_ VI) Z_))) (N_ fR (N_ fF (N_ zg (L_ av) Z_) (N_ ZA (L_ VX) Z_)) (N_ za (N_ ZX (L_ za) Z_) (N_ aX (L_ Vs) Z_))))) (N_ za (N_ o80 (N_ eJ (N_ fM (N_ zg (L_ zg) (L_ Vi)) (N_ ZQ (L_ za) Z_)) (N_ ft (N_ Z8 (L_ ag) Z_) (N_ Zp (L_ zg) Z_))) (N_ fW (N_ zg (N_ za (L_ az) (L_ WX)) (N_ zg (L_ S7) Z_)) (N_ fb (N_ za (L_ bS) Z_) (N_ UH (L_ Vy) Z_)))) (N_ o99 (N_ eo (N_ jf (N_ za (L_ za) (L_ SQ)) (N_ UY (L_ V7) Z_)) (N_ yV (N_ zg (L_ Um) Z_) (N_ Zg (L_ za) Z_))) (N_ jv (N_ za (N_ gu (L_ za) Z_) (N_ za (L_ VT) Z_)) (N_ Yt Y3 (N_ aS (L_ za) Z_)))))) (N_ o45 (N_ o57 (N_ o76 (N_ eM (N_ za (N_ Yo (L_ UA) (L_ Vk)) (N_ ZS (L_ Ue) Z_)) (N_ zg (N_ za (L_ ai) Z_) (N_ zg (L_ S3) Z_))) (N_ fX (N_ YM (N_ za (L_ zg) (L_ WZ)) (N_ UU (L_ za) Z_)) (N_ fe (N_ h9 (L_ bU) Z_) Y3))) (N_ o95 (N_ eD (N_ jh (N_ gK (L_ aJ) (L_ za)) Y3) (N_ fh (N_ Z4 (L_ za) Z_) (N_ UL (L_ VG) Z_))) (N_ fQ (N_ fD (N_ gw (L_ za) Z_) (N_ Zy (L_ VV) Z_)) (N_ gX (N_ za (L_ Ui) Z_) (N_ aV (L_ za) Z_))))) (N_ za (N_ o84 (N_ eH (N_ zg (N_ gO (L_ aN) (L_ Vg)) (N_ ZO (L_ za) Z_)) (N_ fo (N_ gg (L_ ae) Z_) (N_ Zm (L_ VL) Z_))) (N_ fU (N_ fH (N_ Yd (L_ ax) Z_) (N_ ZC (L_ zg) Z_)) (N_ g8 (N_ hV (L_ za) Z_) (N_ zg (L_ Vv) Z_)))) (N_ eP (N_ eh (N_ za (N_ gF (L_ aF) (L_ zg)) (N_ ZG (L_ S9) Z_)) (N_ YA (N_ gd (L_ zg) Z_) (N_ Ze (L_ za) Z_))) (N_ jt (N_ za (N_ gq (L_ Ur) Z_) Y2) (N_ za (N_ Tb (L_ bK) Z_) (N_ za (L_ SU) Z_)))))))) (N_ W.boot_o_2 (N_ W.boot_o_4 (N_ W.boot_o_8 (N_ zg (N_ o68 (N_ eO (N_ jr (N_ Yp (L_ UB) (L_ za)) Y3) (N_ za (N_ gp (L_ za) Z_) (N_ za (L_ VQ) Z_))) (N_ zx (N_ jc (N_ Yk (L_ aC) (L_ SN)) (N_ UW (L_ za) Z_)) (N_ za (N_ zg (L_ Ul) Z_) (N_ Zd (L_ za) Z_)))) (N_ zx (N_ jD (N_ fL (N_ zg (L_ zg) (L_ Vf)) (N_ ZN (L_ za) Z_)) (N_ fm (N_ Z6 (L_ ad) Z_) (N_ Zl (L_ zg) Z_))) (N_ fS (N_ zg (N_ za (L_ aw) Z_) (N_ zg (L_ S6) Z_)) (N_ g7 (N_ ZY (L_ bP) Z_) (N_ UG (L_ Vu) Z_))))) (N_ o60 (N_ o79 (N_ zx (N_ za Y1 (N_ zg (L_ Ud) Z_)) (N_ YF Y3 (N_ UN (L_ za) Z_))) (N_ jz (N_ za (N_ Ye (L_ Uu) (L_ WY)) Y2) (N_ zg (N_ h8 (L_ bT) Z_) (N_ za (L_ SY) Z_)))) (N_ o98 (N_ eB (N_ jg (N_ gJ (L_ aI) (L_ za)) (N_ za (L_ Ra) Z_)) (N_ YC Y2 (N_ zg (L_ VF) Z_))) (N_ zg (N_ fC (N_ zg (L_ ap) Z_) (N_ Zw (L_ VU) Z_)) (N_ Yu (N_ Tc (L_ za) Z_) (N_ aU (L_ Vp) Z_)))))) (N_ SO (N_ o56 (N_ zx (N_ jF (N_ jp (N_ za (L_ za) (L_ ST)) (N_ Ta (L_ Uf) Z_)) (N_ za (N_ gl (L_ Uq) Z_) Y2)) (N_ fY (N_ za (N_ Yi (L_ za) (L_ zg)) (N_ za (L_ V2) Z_)) (N_ Yx (N_ h_ (L_ zg) Z_) (N_ Zb (L_ za) Z_)))) (N_ o94 (N_ zx (N_ zg (N_ gL (L_ aK) (L_ Vd)) (N_ ZL (L_ za) Z_)) (N_ ZE (N_ za (L_ aa) Z_) (N_ Zh (L_ VH) Z_))) (N_ jw (N_ fE (N_ Yc (L_ au) Z_) (N_ Zz (L_ zg) Z_)) (N_ gY (N_ Tf (L_ za) Z_) (N_ zg (L_ Vr) Z_))))) (N_ o64 (N_ o83 (N_ eI (N_ za (N_ Yn (L_ Uz) (L_ Vh)) (N_ ZP (L_ Ub) Z_)) (N_ zg (N_ gh (L_ af) Z_) (N_ zg (L_ S2) Z_))) (N_ zx (N_ YJ Y3 (N_ UR (L_ za) Z_)) (N_ g9 (N_ hW (L_ bR) Z_) Y3))) (N_ zx (N_ jB (N_ je (N_ gG (L_ aG) (L_ za)) (N_ ZH (L_ zg) Z_)) (N_ za (N_ Z1 (L_ za) Z_) (N_ Zf (L_ VD) Z_))) (N_ ju (N_ fA (N_ gr (L_ za) Z_) (N_ Zu (L_ VS) Z_)) (N_ Ys (N_ za (L_ Uh) Z_) (N_ UE (L_ za) Z_))))))) (N_ W.boot_o_6 (N_ W.boot_o_10 (N_ za (N_ o70 (N_ za (N_ fN (N_ zg (L_ zg) (L_ Vl)) (N_ ZT (L_ za) Z_)) (N_ fw (N_ Z9 (L_ aj) Z_) (N_ Zs (L_ zg) Z_))) (N_ za (N_ zx (N_ yV (L_ Uw) (L_ W7)) (N_ zx (L_ S8) Z_)) (N_ ff (N_ za (L_ bV) Z_) (N_ UI (L_ VB) Z_)))) (N_ za (N_ eE (N_ ji (N_ za (L_ za) (L_ SR)) (N_ UZ (L_ V_) Z_)) (N_ za (N_ zx (L_ Uo) Z_) (N_ Zj (L_ za) Z_))) (N_ za (N_ za (N_ gx (L_ za) Z_) (N_ za (L_ VW) Z_)) (N_ Yv Y4 (N_ aW (L_ za) Z_))))) (N_ zg (N_ za (N_ za (N_ jn (N_ gP (L_ aO) (L_ za)) (N_ za (L_ Rc) Z_)) (N_ fq (N_ gj (L_ za) Z_) (N_ Zo (L_ VM) Z_))) (N_ fV (N_ fI (N_ zg (L_ ay) Z_) (N_ ZD (L_ V0) Z_)) (N_ za (N_ ZZ (L_ za) Z_) (N_ a_ (L_ Vx) Z_)))) (N_ eQ (N_ za (N_ za (N_ Yl (L_ Ux) (L_ Vb)) (N_ ZJ (L_ V6) Z_)) (N_ zx (N_ ge (L_ bZ) Z_) (N_ za (L_ S0) Z_))) (N_ za (N_ YH Y3 (N_ UP (L_ za) Z_)) (N_ yV (N_ zg (L_ bL) Z_) Y3))))) (N_ o46 (N_ o58 (N_ za (N_ eK (N_ zg (N_ gR (L_ aQ) (L_ Vj)) (N_ ZR (L_ za) Z_)) (N_ fu (N_ zg (L_ ah) Z_) (N_ Zq (L_ VO) Z_))) (N_ za (N_ YL (N_ Yh (L_ aA) (L_ za)) (N_ UT (L_ zg) Z_)) (N_ fc Y2 (N_ zg (L_ Vz) Z_)))) (N_ za (N_ za (N_ za Y1 (N_ zg (L_ V8) Z_)) (N_ fg (N_ Z3 (L_ zg) Z_) (N_ UK (L_ za) Z_))) (N_ fP (N_ za (N_ gv (L_ Us) Z_) Y2) (N_ gW (N_ Te (L_ bN) Z_) (N_ za (L_ SV) Z_))))) (N_ o66 (N_ o85 (N_ za (N_ jl (N_ gN (L_ aM) (L_ za)) Y3) (N_ za (N_ gf (L_ za) Z_) (N_ za (L_ VJ) Z_))) (N_ za (N_ fG (N_ gA (L_ za) Z_) (N_ ZB (L_ VY) Z_)) (N_ za (N_ hG (L_ Uj) Z_) (N_ aY (L_ za) Z_)))) (N_ za (N_ f_ (N_ fJ (N_ gE (L_ aE) (L_ W9)) (N_ ZF (L_ V5) Z_)) (N_ Yz (N_ gc (L_ bX) Z_) Y3)) (N_ za (N_ zg (N_ za (L_ al) Z_) (N_ zg (L_ S4) Z_)) (N_ Yr (N_ ZV (L_ bJ) Z_) (N_ UD (L_ Vn) Z_))))))))
def vj:(@List @Stmt):=[My.top 49,My.top 50,My.top 51,My.top 52,My.top 53,My.top 54,My.top 55,My.top 56,My.top 57,My.top 58,My.top 59,My.top 60,My.top 61,My.top 62,My.top 63,My.top 64,My.top 65,My.top 66,My.top 67,My.top 68,My.top 69,My.top 70,My.top 71,My.top 72,My.top 73,My.top 74,My.top 75]
def mX:=N_ W.boot_o_0 (N_ W.boot_o_1 (N_ Qy (N_ W.boot_o_7 (N_ za (N_ jy (N_ zg (N_ zg (N_ Yq (L_ UC) Z_) (L_ ZU)) (N_ fz (N_ zg (L_ ak) Z_) (L_ Zt))) (N_ zW (N_ jd (N_ gC (L_ aD) Z_) (L_ UX)) (N_ Yy Y2 (L_ zg)))) (N_ zW (N_ jE Y0 (N_ YE (N_ Z7 (L_ zg) Z_) (L_ UM))) (N_ zg (N_ za (N_ gz (L_ Ut) Z_) (L_ za)) (N_ zg (N_ i_ (L_ bQ) Z_) (L_ za))))) (N_ zx (N_ zg (N_ zW (N_ jo (N_ gQ (L_ aP) Z_) (L_ za)) (N_ za (N_ gk (L_ za) Z_) (L_ za))) (N_ jA (N_ YK (N_ Yg (L_ za) Z_) (L_ US)) (N_ za (N_ zg (L_ Uk) Z_) (L_ Za)))) (N_ o97 (N_ zg (N_ fK Y5 (L_ ZK)) (N_ YD (N_ Z2 (L_ b_) Z_) (L_ za))) (N_ za (N_ zg (N_ za (L_ aq) Z_) (L_ zg)) (N_ gU (N_ Td (L_ bM) Z_) (L_ UF)))))) (N_ za (N_ o55 (N_ zW (N_ jG (N_ jq (N_ gT (L_ aR) Z_) (L_ za)) (N_ fv (N_ gm (L_ za) Z_) (L_ Zr))) (N_ zg (N_ YN (N_ zx (L_ Uv) Z_) (L_ UV)) (N_ za (N_ Z0 (L_ za) Z_) (L_ Zc)))) (N_ zg (N_ zW (N_ za (N_ Ym (L_ Uy) Z_) (L_ ZM)) (N_ fj (N_ Z5 (L_ ac) Z_) (L_ Zi))) (N_ jx (N_ YI Y3 (L_ UQ)) (N_ gZ (N_ zx (L_ bO) Z_) (L_ za))))) (N_ o63 (N_ o82 (N_ zg (N_ jm Y2 (L_ U_)) (N_ za (N_ gi (L_ Up) Z_) (L_ za))) (N_ zW (N_ za (N_ gB (L_ za) Z_) (L_ za)) (N_ Yw (N_ hZ (L_ zg) Z_) (L_ aZ)))) (N_ zW (N_ jC (N_ zg (N_ gH (L_ aH) Z_) (L_ ZI)) (N_ YB (N_ za (L_ bY) Z_) (L_ UJ))) (N_ fO (N_ fB (N_ Yb (L_ ao) Z_) (L_ Zv)) (N_ zx (N_ ZW (L_ za) Z_) (L_ zx))))))) (N_ W.boot_o_5 (N_ W.boot_o_9 (N_ o53 (N_ o69 (N_ eN Y0 (N_ YG Y3 (L_ UO))) (N_ fZ (N_ za (N_ Yj (L_ aB) Z_) (L_ yV)) (N_ zg (N_ gb (L_ bW) Z_) (L_ za)))) (N_ o91 (N_ eG (N_ jk (N_ gM (L_ aL) Z_) (L_ za)) (N_ fk (N_ yV (L_ za) Z_) (L_ Zk))) (N_ fR (N_ fF (N_ zg (L_ av) Z_) (L_ ZA)) (N_ za (N_ ZX (L_ za) Z_) (L_ aX))))) (N_ za (N_ o80 (N_ eJ (N_ fM Y5 (L_ ZQ)) (N_ ft (N_ Z8 (L_ ag) Z_) (L_ Zp))) (N_ fW (N_ zg (N_ za (L_ az) Z_) (L_ zg)) (N_ fb (N_ za (L_ bS) Z_) (L_ UH)))) (N_ o99 (N_ eo (N_ jf Y2 (L_ UY)) (N_ yV (N_ zg (L_ Um) Z_) (L_ Zg))) (N_ jv (N_ za (N_ gu (L_ za) Z_) (L_ za)) (N_ Yt Y3 (L_ aS)))))) (N_ o45 (N_ o57 (N_ o76 (N_ eM (N_ za (N_ Yo (L_ UA) Z_) (L_ ZS)) (N_ zg (N_ za (L_ ai) Z_) (L_ zg))) (N_ fX (N_ YM Y3 (L_ UU)) (N_ fe (N_ h9 (L_ bU) Z_) (L_ za)))) (N_ o95 (N_ eD (N_ jh (N_ gK (L_ aJ) Z_) (L_ za)) (N_ fh (N_ Z4 (L_ za) Z_) (L_ UL))) (N_ fQ (N_ fD (N_ gw (L_ za) Z_) (L_ Zy)) (N_ gX (N_ za (L_ Ui) Z_) (L_ aV))))) (N_ za (N_ o84 (N_ eH (N_ zg (N_ gO (L_ aN) Z_) (L_ ZO)) (N_ fo (N_ gg (L_ ae) Z_) (L_ Zm))) (N_ fU (N_ fH (N_ Yd (L_ ax) Z_) (L_ ZC)) (N_ g8 (N_ hV (L_ za) Z_) (L_ zg)))) (N_ eP (N_ eh (N_ za (N_ gF (L_ aF) Z_) (L_ ZG)) (N_ YA (N_ gd (L_ zg) Z_) (L_ Ze))) (N_ jt (N_ za (N_ gq (L_ Ur) Z_) (L_ za)) (N_ za (N_ Tb (L_ bK) Z_) (L_ za)))))))) (N_ W.boot_o_2 (N_ W.boot_o_4 (N_ W.boot_o_8 (N_ zg (N_ o68 (N_ eO (N_ jr (N_ Yp (L_ UB) Z_) (L_ za)) (N_ za (N_ gp (L_ za) Z_) (L_ za))) (N_ zx (N_ jc (N_ Yk (L_ aC) Z_) (L_ UW)) (N_ za (N_ zg (L_ Ul) Z_) (L_ Zd)))) (N_ zx (N_ jD (N_ fL Y5 (L_ ZN)) (N_ fm (N_ Z6 (L_ ad) Z_) (L_ Zl))) (N_ fS (N_ zg (N_ za (L_ aw) Z_) (L_ zg)) (N_ g7 (N_ ZY (L_ bP) Z_) (L_ UG))))) (N_ o60 (N_ o79 (N_ zx Y0 (N_ YF Y3 (L_ UN))) (N_ jz (N_ za (N_ Ye (L_ Uu) Z_) (L_ za)) (N_ zg (N_ h8 (L_ bT) Z_) (L_ za)))) (N_ o98 (N_ eB (N_ jg (N_ gJ (L_ aI) Z_) (L_ za)) (N_ YC Y2 (L_ zg))) (N_ zg (N_ fC (N_ zg (L_ ap) Z_) (L_ Zw)) (N_ Yu (N_ Tc (L_ za) Z_) (L_ aU)))))) (N_ Qx (N_ o56 (N_ zx (N_ jF (N_ jp Y2 (L_ Ta)) (N_ za (N_ gl (L_ Uq) Z_) (L_ za))) (N_ fY (N_ za (N_ Yi (L_ za) Z_) (L_ za)) (N_ Yx (N_ h_ (L_ zg) Z_) (L_ Zb)))) (N_ o94 (N_ zx (N_ zg (N_ gL (L_ aK) Z_) (L_ ZL)) (N_ ZE (N_ za (L_ aa) Z_) (L_ Zh))) (N_ jw (N_ fE (N_ Yc (L_ au) Z_) (L_ Zz)) (N_ gY (N_ Tf (L_ za) Z_) (L_ zg))))) (N_ o64 (N_ o83 (N_ eI (N_ za (N_ Yn (L_ Uz) Z_) (L_ ZP)) (N_ zg (N_ gh (L_ af) Z_) (L_ zg))) (N_ zx (N_ YJ Y3 (L_ UR)) (N_ g9 (N_ hW (L_ bR) Z_) (L_ za)))) (N_ zx (N_ jB (N_ je (N_ gG (L_ aG) Z_) (L_ ZH)) (N_ za (N_ Z1 (L_ za) Z_) (L_ Zf))) (N_ ju (N_ fA (N_ gr (L_ za) Z_) (L_ Zu)) (N_ Ys (N_ za (L_ Uh) Z_) (L_ UE))))))) (N_ W.boot_o_6 (N_ W.boot_o_10 (N_ za (N_ o70 (N_ za (N_ fN Y5 (L_ ZT)) (N_ fw (N_ Z9 (L_ aj) Z_) (L_ Zs))) (N_ za (N_ zx (N_ yV (L_ Uw) Z_) (L_ zx)) (N_ ff (N_ za (L_ bV) Z_) (L_ UI)))) (N_ za (N_ eE (N_ ji Y2 (L_ UZ)) (N_ za (N_ zx (L_ Uo) Z_) (L_ Zj))) (N_ za (N_ za (N_ gx (L_ za) Z_) (L_ za)) (N_ Yv Y4 (L_ aW))))) (N_ zg (N_ za (N_ za (N_ jn (N_ gP (L_ aO) Z_) (L_ za)) (N_ fq (N_ gj (L_ za) Z_) (L_ Zo))) (N_ fV (N_ fI (N_ zg (L_ ay) Z_) (L_ ZD)) (N_ za (N_ ZZ (L_ za) Z_) (L_ a_)))) (N_ eQ (N_ za (N_ za (N_ Yl (L_ Ux) Z_) (L_ ZJ)) (N_ zx (N_ ge (L_ bZ) Z_) (L_ za))) (N_ za (N_ YH Y3 (L_ UP)) (N_ yV (N_ zg (L_ bL) Z_) (L_ za)))))) (N_ o46 (N_ o58 (N_ za (N_ eK (N_ zg (N_ gR (L_ aQ) Z_) (L_ ZR)) (N_ fu (N_ zg (L_ ah) Z_) (L_ Zq))) (N_ za (N_ YL (N_ Yh (L_ aA) Z_) (L_ UT)) (N_ fc Y2 (L_ zg)))) (N_ za (N_ za Y0 (N_ fg (N_ Z3 (L_ zg) Z_) (L_ UK))) (N_ fP (N_ za (N_ gv (L_ Us) Z_) (L_ za)) (N_ gW (N_ Te (L_ bN) Z_) (L_ za))))) (N_ o66 (N_ o85 (N_ za (N_ jl (N_ gN (L_ aM) Z_) (L_ za)) (N_ za (N_ gf (L_ za) Z_) (L_ za))) (N_ za (N_ fG (N_ gA (L_ za) Z_) (L_ ZB)) (N_ za (N_ hG (L_ Uj) Z_) (L_ aY)))) (N_ za (N_ f_ (N_ fJ (N_ gE (L_ aE) Z_) (L_ ZF)) (N_ Yz (N_ gc (L_ bX) Z_) (L_ za))) (N_ za (N_ zg (N_ za (L_ al) Z_) (L_ zg)) (N_ Yr (N_ ZV (L_ bJ) Z_) (L_ UD))))))))
def tL:(@List @Stmt):=[My.top 23,My.top 24,My.top 25,My.top 26,My.top 27,My.top 28,My.top 29,My.top 30,My.top 31,My.top 32,My.top 33,My.top 34,My.top 35,My.top 36,My.top 37,My.top 38,My.top 39,My.top 40,My.top 41,My.top 42,My.top 43,My.top 44,My.top 45,My.top 46,My.top 47,My.top 48]
def mY:=N_ W.boot_o_0 (N_ W.boot_o_1 (N_ QB (N_ W.boot_o_7 (N_ za (N_ jy (N_ zg (N_ zg (L_ Yq) Z_) (N_ fz (L_ zg) Z_)) (N_ zW (N_ jd (L_ gC) Z_) (N_ Yy (L_ za) Z_))) (N_ zW (N_ jE Y2 (N_ YE (L_ Z7) Z_)) (N_ zg (N_ za (L_ gz) Z_) (N_ zg (L_ i_) Z_)))) (N_ zx (N_ zg (N_ zW (N_ jo (L_ gQ) Z_) (N_ za (L_ gk) Z_)) (N_ jA (N_ YK (L_ Yg) Z_) Y3)) (N_ o97 (N_ zg (N_ fK (L_ zg) Z_) (N_ YD (L_ Z2) Z_)) (N_ za Y6 (L_ gU))))) (N_ za (N_ o55 (N_ zW (N_ jG (N_ jq (L_ gT) Z_) (N_ fv (L_ gm) Z_)) (N_ zg (N_ YN (L_ zx) Z_) (N_ za (L_ Z0) Z_))) (N_ zg (N_ zW (N_ za (L_ Ym) Z_) (N_ fj (L_ Z5) Z_)) (N_ jx (N_ YI (L_ za) Z_) (L_ gZ)))) (N_ o63 (N_ o82 (N_ zg (N_ jm (L_ za) Z_) (N_ za (L_ gi) Z_)) (N_ zW (N_ za (L_ gB) Z_) (N_ Yw (L_ hZ) Z_))) (N_ zW (N_ jC (N_ zg (L_ gH) Z_) (N_ YB (L_ za) Z_)) (N_ fO (N_ fB (L_ Yb) Z_) (L_ zx)))))) (N_ W.boot_o_5 (N_ W.boot_o_9 (N_ o53 (N_ o69 (N_ eN Y2 (N_ YG (L_ za) Z_)) (N_ fZ (N_ za (L_ Yj) Z_) (N_ zg (L_ gb) Z_))) (N_ o91 (N_ eG (N_ jk (L_ gM) Z_) (N_ fk (L_ yV) Z_)) (N_ fR (N_ fF (L_ zg) Z_) (N_ za (L_ ZX) Z_)))) (N_ za (N_ o80 (N_ eJ (N_ fM (L_ zg) Z_) (N_ ft (L_ Z8) Z_)) (N_ fW Y6 (N_ fb (L_ za) Z_))) (N_ o99 (N_ eo (N_ jf (L_ za) Z_) Y4) (N_ jv (N_ za (L_ gu) Z_) (L_ Yt))))) (N_ o45 (N_ o57 (N_ o76 (N_ eM (N_ za (L_ Yo) Z_) Y6) (N_ fX (N_ YM (L_ za) Z_) (N_ fe (L_ h9) Z_))) (N_ o95 (N_ eD (N_ jh (L_ gK) Z_) (N_ fh (L_ Z4) Z_)) (N_ fQ (N_ fD (L_ gw) Z_) (L_ gX)))) (N_ za (N_ o84 (N_ eH (N_ zg (L_ gO) Z_) (N_ fo (L_ gg) Z_)) (N_ fU (N_ fH (L_ Yd) Z_) (N_ g8 (L_ hV) Z_))) (N_ eP (N_ eh (N_ za (L_ gF) Z_) (N_ YA (L_ gd) Z_)) (N_ jt (N_ za (L_ gq) Z_) (L_ za))))))) (N_ W.boot_o_2 (N_ W.boot_o_4 (N_ W.boot_o_8 (N_ zg (N_ o68 (N_ eO (N_ jr (L_ Yp) Z_) (N_ za (L_ gp) Z_)) (N_ zx (N_ jc (L_ Yk) Z_) Y3)) (N_ zx (N_ jD (N_ fL (L_ zg) Z_) (N_ fm (L_ Z6) Z_)) (N_ fS Y6 (N_ g7 (L_ ZY) Z_)))) (N_ o60 (N_ o79 (N_ zx Y2 (N_ YF (L_ za) Z_)) (N_ jz (N_ za (L_ Ye) Z_) (N_ zg (L_ h8) Z_))) (N_ o98 (N_ eB (N_ jg (L_ gJ) Z_) (N_ YC (L_ za) Z_)) (N_ zg (N_ fC (L_ zg) Z_) (L_ Yu))))) (N_ QA (N_ o56 (N_ zx (N_ jF (N_ jp (L_ za) Z_) (N_ za (L_ gl) Z_)) (N_ fY (N_ za (L_ Yi) Z_) (N_ Yx (L_ h_) Z_))) (N_ o94 (N_ zx (N_ zg (L_ gL) Z_) (N_ Qz (L_ za) Z_)) (N_ jw (N_ fE (L_ Yc) Z_) (L_ gY)))) (N_ o64 (N_ o83 (N_ eI (N_ za (L_ Yn) Z_) (N_ zg (L_ gh) Z_)) (N_ zx (N_ YJ (L_ za) Z_) (N_ g9 (L_ hW) Z_))) (N_ zx (N_ jB (N_ je (L_ gG) Z_) (N_ za (L_ Z1) Z_)) (N_ ju (N_ fA (L_ gr) Z_) (L_ Ys)))))) (N_ W.boot_o_6 (N_ W.boot_o_10 (N_ za (N_ o70 (N_ za (N_ fN (L_ zg) Z_) (N_ fw (L_ Z9) Z_)) (N_ za (N_ zx (L_ yV) Z_) (N_ ff (L_ za) Z_))) (N_ za (N_ eE (N_ ji (L_ za) Z_) (N_ za (L_ zx) Z_)) (N_ za (N_ za (L_ gx) Z_) (L_ Yv)))) (N_ zg (N_ za (N_ za (N_ jn (L_ gP) Z_) (N_ fq (L_ gj) Z_)) (N_ fV (N_ fI (L_ zg) Z_) (N_ za (L_ ZZ) Z_))) (N_ eQ (N_ za (N_ za (L_ Yl) Z_) (N_ zx (L_ ge) Z_)) (N_ za (N_ YH (L_ za) Z_) (L_ yV))))) (N_ o46 (N_ o58 (N_ za (N_ eK (N_ zg (L_ gR) Z_) (N_ fu (L_ zg) Z_)) (N_ za (N_ YL (L_ Yh) Z_) (N_ fc (L_ za) Z_))) (N_ za (N_ za Y2 (N_ fg (L_ Z3) Z_)) (N_ fP (N_ za (L_ gv) Z_) (L_ gW)))) (N_ o66 (N_ o85 (N_ za (N_ jl (L_ gN) Z_) (N_ za (L_ gf) Z_)) (N_ za (N_ fG (L_ gA) Z_) (N_ za (L_ hG) Z_))) (N_ za (N_ f_ (N_ fJ (L_ gE) Z_) (N_ Yz (L_ gc) Z_)) (N_ za Y6 (L_ Yr)))))))
def tM:(@List @Stmt):=[My.top 18,My.top 19,My.top 20,My.top 21,My.top 22]
def mZ:=N_ W.boot_o_0 (N_ W.boot_o_1 (N_ QD (N_ W.boot_o_7 (N_ za (N_ jy Y5 (N_ zW (L_ jd) Z_)) (N_ zW (N_ jE (L_ za) Z_) (L_ zg))) (N_ zx (N_ zg (N_ zW (L_ jo) Z_) (L_ jA)) (N_ o97 (N_ zg (L_ fK) Z_) (L_ za)))) (N_ za (N_ o55 (N_ zW (N_ jG (L_ jq) Z_) (L_ zg)) (N_ zg (N_ zW (L_ za) Z_) (L_ jx))) (N_ o63 (N_ o82 (N_ zg (L_ jm) Z_) (L_ zW)) (N_ zW (N_ jC (L_ zg) Z_) (L_ fO))))) (N_ W.boot_o_5 (N_ W.boot_o_9 (N_ o53 (N_ o69 (N_ eN (L_ za) Z_) (L_ fZ)) (N_ o91 (N_ eG (L_ jk) Z_) (L_ fR))) (N_ za (N_ o80 (N_ eJ (L_ fM) Z_) (L_ fW)) (N_ o99 (N_ eo (L_ jf) Z_) (L_ jv)))) (N_ o45 (N_ o57 (N_ o76 (N_ eM (L_ za) Z_) (L_ fX)) (N_ o95 (N_ eD (L_ jh) Z_) (L_ fQ))) (N_ za (N_ o84 (N_ eH (L_ zg) Z_) (L_ fU)) (N_ eP (N_ eh (L_ za) Z_) (L_ jt)))))) (N_ W.boot_o_2 (N_ W.boot_o_4 (N_ W.boot_o_8 (N_ zg (N_ o68 (N_ eO (L_ jr) Z_) (N_ zx (L_ jc) Z_)) (N_ zx (N_ jD (L_ fL) Z_) (L_ fS))) (N_ o60 (N_ o79 (N_ zx (L_ za) Z_) (L_ jz)) (N_ o98 (N_ eB (L_ jg) Z_) (L_ zg)))) (N_ QC (N_ o56 (N_ zx (N_ jF (L_ jp) Z_) (L_ fY)) (N_ o94 (N_ zx (L_ zg) Z_) (L_ jw))) (N_ o64 (N_ o83 (N_ eI (L_ za) Z_) (L_ zx)) (N_ zx (N_ jB (L_ je) Z_) (L_ ju))))) (N_ W.boot_o_6 (N_ W.boot_o_10 (N_ za (N_ o70 (N_ za (L_ fN) Z_) (L_ za)) (N_ za (N_ eE (L_ ji) Z_) (L_ za))) (N_ zg (N_ za (N_ za (L_ jn) Z_) (L_ fV)) (N_ eQ Y2 (L_ za)))) (N_ o46 (N_ o58 (N_ za (N_ eK (L_ zg) Z_) (L_ za)) (N_ za Y2 (L_ fP))) (N_ o66 (N_ o85 (N_ za (L_ jl) Z_) (L_ za)) (N_ za (N_ f_ (L_ fJ) Z_) (L_ za))))))
def nM:(@List @Stmt):=[My.top 0,My.top 1,My.top 2,My.top 3,My.top 4,My.top 5,My.top 6,My.top 7,My.top 8,My.top 9,My.top 10,My.top 11,My.top 12,My.top 13,My.top 14,My.top 15,My.top 16,My.top 17]
def jT:=N_ W.boot_o_0 (N_ W.boot_o_1 (N_ W.boot_o_3 (L_ W.boot_o_7) (L_ za)) (N_ W.boot_o_5 (L_ W.boot_o_9) (L_ o45))) (N_ W.boot_o_2 (N_ W.boot_o_4 (L_ W.boot_o_8) (L_ zg)) (N_ W.boot_o_6 (L_ W.boot_o_10) (L_ o46)))
def jU:((x:@Params)→@Heap):=(fun x=>(@Heap.mk (@Array.mk @Obj [(@W.boot_o_0 x),(@W.boot_o_1 x),(@W.boot_o_2 x),(@W.boot_o_3 x),(@W.boot_o_4 x),(@W.boot_o_5 x),(@W.boot_o_6 x),(@W.boot_o_7 x),(@W.boot_o_8 x),(@W.boot_o_9 x),(@W.boot_o_10 x),(za x),(zg x),(o45 x),(o46 x)]) (@Life.mk [] [] [] 0 (@List.nil (@Prod @Nat @Nat)) [] @Bool.false #[] [] 0 @Bool.false @Bool.false @Bool.false (0:Int) [(2000:Int),(10:Int),(10:Int)] @Bool.false 0 @Bool.true [] [] 0 @Bool.false)))
abbrev k3:=(@Life.mk [] [] [] 0 (@List.nil (@Prod @Nat @Nat)) [] @Bool.false #[] [] 0 @Bool.false @Bool.false @Bool.false (0:Int) [(2000:Int),(10:Int),(10:Int)] @Bool.false 0 @Bool.true [] [] 0 @Bool.false)
abbrev S_ (t:Params→W.BT) (n k:Nat) (w:World) (o:OsState):W.SharedT:=W.SharedT.mk (t w.params) n k3 g_ d_ k o
abbrev k0 (x0:World) (x1:OsState):=(@Shared.mk (@xv x0.params) g_ d_ 1271 x1)
abbrev k1:=(@W.OpenRow.toRowW (@W.OpenLaw.row @Challenge.rw_oddbases_k64_whole_machine_is_settling))
abbrev k2:=(@Prod (@Prod (@List (@Option @FnShape)) @Bool) (@Prod (@List (@Option @PyProof.Rows.PlainShape)) (@Prod (@List (@Option (@Prod @PyProof.Rows.PlainShape @Bool))) (@Prod (@Prod (@List (@Option @FnShape)) @Bool) (@List (@Prod (@Option (@Prod (@List (@Option @FnShape)) @Bool)) (@Option (@Prod @PyProof.Rows.PlainShape @Bool))))))))
abbrev k4 (x0:World) (x1:OsState):=(@ite @Bool (@Eq @Bool @Bool.true @Bool.true) (@instDecidableEqBool @Bool.true @Bool.true) (@BEq.beq @Nat (@instBEqOfDecidableEq @Nat @instDecidableEqNat) (@Array.size @GenState (@Shared.gens (k0 x0 x1))) 0) (@Bool.not (@leftWithCleanup (@Shared.gens (k0 x0 x1)))))
abbrev k5:=(@Bool.true,((@pinGoodD (@PyProof.Rows.drecsOf @h_view_39)),((@PyProof.Rows.plainGoodE @h_view_39 (@W.looseW @h_view_39 [])),((@PyProof.Rows.plainGoodD @h_view_39 []),((@W.wideGood @h_view_39),(@W.clsGoodW @h_view_39 []))))))
abbrev k6:=(@List (@Prod (@Option (@Prod (@List (@Option @FnShape)) @Bool)) (@Option (@Prod @PyProof.Rows.PlainShape @Bool))))
abbrev k7:=(@Code.body (@W.behindTheImports (k1).1) @yh)
abbrev k8 (x0:World) (x1:OsState):=(@Bool.and (@Bool.and (@Bool.and (@W.staticsOk (@importedModules (@Module.body (@Program.main (k1).1))) (@W.boot_heap x0.params) (@xv x0.params)) (@W.namesBound (k1).1 (@xv x0.params))) (@W.gensDone (k0 x0 x1))) (@W.laidKept (@W.boot_heap x0.params) (@xv x0.params)))
abbrev k9:=(@Prod (@Prod (@Option @Str) (@List (@Prod @Str @Value))) (@Prod @Bool (@Prod @Bool k2)))
abbrev k10 (x0:World) (x1:OsState):=(@PyProof.Rows.plainSeenE @h_view_39 (@W.looseW @h_view_39 []) (k0 x0 x1))
abbrev k11:=(@Eq.refl (@List @Addr) My.myAs)
abbrev k12:=(@importedModules (@Module.body (@Program.main (k1).1)))
abbrev k13 (x0:World) (x1:OsState):=(@pinSeenD @h_view_39 (@PyProof.Rows.drecsOf @h_view_39) (k0 x0 x1))
abbrev k14 (x0:World) (x1:OsState):=(@PyProof.Rows.plainSeenD @h_view_39 [] (k0 x0 x1))
abbrev k15:=(@Prod (@List (@Option @FnShape)) @Bool)
abbrev k16 (x0:World) (x1:OsState):=(@W.clsSeenW @h_view_39 [] (k0 x0 x1))
abbrev k17:=(@List.nil (@Prod @Str @W.WData))
abbrev k18:=(@Prod @Flow (@Prod @W.SharedT (@Prod @Code @Pos)))
abbrev k19 (x0:World) (x1:OsState):=(@W.wideSeen @h_view_39 (k0 x0 x1))
abbrev k20:=(@Nat.add 12 (@Nat.add 1 (@Nat.add 1924 (@Nat.add 1721 (@Nat.add 1730 (@Nat.add 822 2))))))
abbrev k21:=(@List (@Option (@Prod @PyProof.Rows.PlainShape @Bool)))
abbrev k22:=(@PyProof.Rows.plainGoodE @h_view_39 (@W.looseW @h_view_39 []))
abbrev k23:=(@HAppend.hAppend (@List @Stmt) (@List @Stmt) (@List @Stmt) (@instHAppendOfAppend (@List @Stmt) (@List.instAppend @Stmt)) @tL (@HAppend.hAppend (@List @Stmt) (@List @Stmt) (@List @Stmt) (@instHAppendOfAppend (@List @Stmt) (@List.instAppend @Stmt)) @vj []))
abbrev k24 (x0:World) (x1:OsState):=(S_ mX 639 1012 x0 x1)
abbrev k25 (x0:World) (x1:OsState):=(S_ mZ 161 380 x0 x1)
abbrev k26 (x0:World) (x1:OsState):=(S_ mY 370 639 x0 x1)
abbrev k27:=(@PyProof.Rows.clssOf @h_view_39 (@W.looseW @h_view_39 []))
abbrev k28 (x0:World) (x1:OsState):=(S_ jT 15 187 x0 x1)
abbrev k29 (x0:World) (x1:OsState):=(@Shared.mk (@jU x0.params) g_ d_ 187 x1)
abbrev k30 (x0:World) (x1:OsState):=(@PyProof.Rows.tablesOk @h_view_39 (@Shared.heap (k0 x0 x1)))
abbrev k31 (x0:World) (x1:OsState):=(@PyProof.Rows.tabsOk @h_view_39 (k0 x0 x1))
abbrev k32:=(@PyProof.Rows.plainGoodD @h_view_39 [])
abbrev k33 (x0:World) (x1:OsState):=(@Heap.accountedOkI (@Shared.heap (k0 x0 x1)) k12)
abbrev k34 (x0:World) (x1:OsState):=(S_ mW 810 1271 x0 x1)
abbrev k35 (x0:World) (x1:OsState):=(@Heap.isNs (@Shared.heap (k0 x0 x1)) @mainGlobals)
abbrev k36 (x0:World) (x1:OsState):=(@Heap.isNs (@Shared.heap (k0 x0 x1)) @builtinsNs)
abbrev k37 (x0:World) (x1:OsState):=(@Shared.mk (@W.boot_heap x0.params) g_ @W.boot_drawn @W.boot_toks x1)
abbrev k38:=(@Thread.mk (@denote @treeTable k7) k7 (P_ 0 0 0 0) [(@W.topFrame (P_ 0 0 0 0))])
abbrev k39:=(@Prod @Flow (@Prod @Shared (@Prod @Code @Pos)))
abbrev kh0:=(@W.kHook @h_heap_39 My.myAs (fun x0=>(@id (@Eq (@List @Addr) My.myAs (@List.map (@Prod @Addr @Obj) @Addr (fun (x1:(@Prod @Addr @Obj))=>(@Prod.fst @Addr @Obj x1)) (@h_heap_39 x0))) k11)))
theorem pf_936:((x0:World)→(@Eq ((x1:OsState)→(@W.Hook.α kh0)) (fun x1=>(@W.Hook.obs kh0 (k0 x0 x1))) (fun x1=>(@W.Hook.val kh0 x0)))):=by intros; kernel_rfl
theorem pf_926:((x0:World)→(@Eq ((x1:OsState)→k6) (fun x1=>(k16 x0 x1)) (fun x1=>(@W.clsGoodW @h_view_39 [])))):=by intros; kernel_rfl
theorem pf_924:((x0:World)→(@Eq ((x1:OsState)→k15) (fun x1=>(k19 x0 x1)) (fun x1=>(@W.wideGood @h_view_39)))):=by intros; kernel_rfl
theorem pf_927:((x0:World)→((x1:OsState)→(@Eq (@Prod k15 k6) ((k19 x0 x1),(k16 x0 x1)) ((@W.wideGood @h_view_39),(@W.clsGoodW @h_view_39 []))))):=(fun x0=>(fun x1=>(@W.looks_pair k15 k6 (k19 x0 x1) (@W.wideGood @h_view_39) (k16 x0 x1) (@W.clsGoodW @h_view_39 []) ((fun x2=>(fun x3=>(congrFun (My.pf_924 x2) x3))) x0 x1) ((fun x2=>(fun x3=>(congrFun (My.pf_926 x2) x3))) x0 x1))))
theorem pf_922:((x0:World)→(@Eq ((x1:OsState)→k21) (fun x1=>(k14 x0 x1)) (fun x1=>k32))):=by intros; kernel_rfl
theorem pf_928:((x0:World)→((x1:OsState)→(@Eq (@Prod k21 (@Prod k15 k6)) ((k14 x0 x1),((k19 x0 x1),(k16 x0 x1))) (k32,((@W.wideGood @h_view_39),(@W.clsGoodW @h_view_39 [])))))):=(fun x0=>(fun x1=>(@W.looks_pair k21 (@Prod k15 k6) (k14 x0 x1) k32 ((k19 x0 x1),(k16 x0 x1)) ((@W.wideGood @h_view_39),(@W.clsGoodW @h_view_39 [])) ((fun x2=>(fun x3=>(congrFun (My.pf_922 x2) x3))) x0 x1) (@My.pf_927 x0 x1))))
theorem pf_920:((x0:World)→(@Eq ((x1:OsState)→(@List (@Option @PyProof.Rows.PlainShape))) (fun x1=>(k10 x0 x1)) (fun x1=>k22))):=by intros; kernel_rfl
theorem pf_929:((x0:World)→((x1:OsState)→(@Eq (@Prod (@List (@Option @PyProof.Rows.PlainShape)) (@Prod k21 (@Prod k15 k6))) ((k10 x0 x1),((k14 x0 x1),((k19 x0 x1),(k16 x0 x1)))) (k22,(k32,((@W.wideGood @h_view_39),(@W.clsGoodW @h_view_39 []))))))):=(fun x0=>(fun x1=>(@W.looks_pair (@List (@Option @PyProof.Rows.PlainShape)) (@Prod k21 (@Prod k15 k6)) (k10 x0 x1) k22 ((k14 x0 x1),((k19 x0 x1),(k16 x0 x1))) (k32,((@W.wideGood @h_view_39),(@W.clsGoodW @h_view_39 []))) ((fun x2=>(fun x3=>(congrFun (My.pf_920 x2) x3))) x0 x1) (@My.pf_928 x0 x1))))
theorem pf_918:((x0:World)→(@Eq ((x1:OsState)→k15) (fun x1=>(k13 x0 x1)) (fun x1=>(@pinGoodD (@PyProof.Rows.drecsOf @h_view_39))))):=by intros; kernel_rfl
theorem pf_930:((x0:World)→((x1:OsState)→(@Eq k2 ((k13 x0 x1),((k10 x0 x1),((k14 x0 x1),((k19 x0 x1),(k16 x0 x1))))) ((@pinGoodD (@PyProof.Rows.drecsOf @h_view_39)),(k22,(k32,((@W.wideGood @h_view_39),(@W.clsGoodW @h_view_39 [])))))))):=(fun x0=>(fun x1=>(@W.looks_pair k15 (@Prod (@List (@Option @PyProof.Rows.PlainShape)) (@Prod k21 (@Prod k15 k6))) (k13 x0 x1) (@pinGoodD (@PyProof.Rows.drecsOf @h_view_39)) ((k10 x0 x1),((k14 x0 x1),((k19 x0 x1),(k16 x0 x1)))) (k22,(k32,((@W.wideGood @h_view_39),(@W.clsGoodW @h_view_39 [])))) ((fun x2=>(fun x3=>(congrFun (My.pf_918 x2) x3))) x0 x1) (@My.pf_929 x0 x1))))
theorem pf_916:((x0:World)→(@Eq ((x1:OsState)→@Bool) (fun x1=>(k31 x0 x1)) (fun x1=>@Bool.true))):=by intros; kernel_rfl
theorem pf_931:((x0:World)→((x1:OsState)→(@Eq (@Prod @Bool k2) ((k31 x0 x1),((k13 x0 x1),((k10 x0 x1),((k14 x0 x1),((k19 x0 x1),(k16 x0 x1)))))) k5))):=(fun x0=>(fun x1=>(@W.looks_pair @Bool k2 (k31 x0 x1) @Bool.true ((k13 x0 x1),((k10 x0 x1),((k14 x0 x1),((k19 x0 x1),(k16 x0 x1))))) ((@pinGoodD (@PyProof.Rows.drecsOf @h_view_39)),(k22,(k32,((@W.wideGood @h_view_39),(@W.clsGoodW @h_view_39 []))))) ((fun x2=>(fun x3=>(congrFun (My.pf_916 x2) x3))) x0 x1) (@My.pf_930 x0 x1))))
theorem pf_914:((x0:World)→(@Eq ((x1:OsState)→@Bool) (fun x1=>(@Bool.and (@Bool.and (@Bool.and (@Bool.and (@Bool.and (@Bool.and (@Heap.keysOk (@Shared.heap (k0 x0 x1)) (@W.looseW @h_view_39 []) (@List.map @DefRec @Str (fun (x2:@DefRec)=>(@DefRec.name x2)) (@PyProof.Rows.recsOf @h_view_39)) (@List.map (@Prod @Str @PyData) @Str (fun (x2:(@Prod @Str @PyData))=>(@Prod.fst @Str @PyData x2)) (@PyProof.Rows.litsOf @h_view_39)) (@List.map @ClsRec @Str (fun (x2:@ClsRec)=>(@ClsRec.name x2)) k27)) (k33 x0 x1)) (k35 x0 x1)) (k36 x0 x1)) (k30 x0 x1)) ((fun (x2:@Shared)=>(@Bool.and (@W.xlAt @h_view_39 k17 x2) (@W.recOk (@W.RowW.records k1) x2))) (k0 x0 x1))) (k4 x0 x1))) (fun x1=>@Bool.true))):=by intros; kernel_rfl
theorem pf_932:((x0:World)→((x1:OsState)→(@Eq (@Prod @Bool (@Prod @Bool k2)) ((@Bool.and (@Bool.and (@Bool.and (@Bool.and (@Bool.and (@Bool.and (@Heap.keysOk (@Shared.heap (k0 x0 x1)) (@W.looseW @h_view_39 []) (@List.map @DefRec @Str (fun (x2:@DefRec)=>(@DefRec.name x2)) (@PyProof.Rows.recsOf @h_view_39)) (@List.map (@Prod @Str @PyData) @Str (fun (x2:(@Prod @Str @PyData))=>(@Prod.fst @Str @PyData x2)) (@PyProof.Rows.litsOf @h_view_39)) (@List.map @ClsRec @Str (fun (x2:@ClsRec)=>(@ClsRec.name x2)) k27)) (k33 x0 x1)) (k35 x0 x1)) (k36 x0 x1)) (k30 x0 x1)) ((fun (x2:@Shared)=>(@Bool.and (@W.xlAt @h_view_39 k17 x2) (@W.recOk (@W.RowW.records k1) x2))) (k0 x0 x1))) (k4 x0 x1)),((k31 x0 x1),((k13 x0 x1),((k10 x0 x1),((k14 x0 x1),((k19 x0 x1),(k16 x0 x1))))))) (@Bool.true,k5)))):=(fun x0=>(fun x1=>(@W.looks_pair @Bool (@Prod @Bool k2) (@Bool.and (@Bool.and (@Bool.and (@Bool.and (@Bool.and (@Bool.and (@Heap.keysOk (@Shared.heap (k0 x0 x1)) (@W.looseW @h_view_39 []) (@List.map @DefRec @Str (fun (x2:@DefRec)=>(@DefRec.name x2)) (@PyProof.Rows.recsOf @h_view_39)) (@List.map (@Prod @Str @PyData) @Str (fun (x2:(@Prod @Str @PyData))=>(@Prod.fst @Str @PyData x2)) (@PyProof.Rows.litsOf @h_view_39)) (@List.map @ClsRec @Str (fun (x2:@ClsRec)=>(@ClsRec.name x2)) k27)) (k33 x0 x1)) (k35 x0 x1)) (k36 x0 x1)) (k30 x0 x1)) ((fun (x2:@Shared)=>(@Bool.and (@W.xlAt @h_view_39 k17 x2) (@W.recOk (@W.RowW.records k1) x2))) (k0 x0 x1))) (k4 x0 x1)) @Bool.true ((k31 x0 x1),((k13 x0 x1),((k10 x0 x1),((k14 x0 x1),((k19 x0 x1),(k16 x0 x1)))))) k5 ((fun x2=>(fun x3=>(congrFun (My.pf_914 x2) x3))) x0 x1) (@My.pf_931 x0 x1))))
theorem pf_912:((x0:World)→(@Eq ((x1:OsState)→(@Prod (@Option @Str) (@List (@Prod @Str @Value)))) (fun x1=>(@Heap.bltView (@Shared.heap (k0 x0 x1)))) (fun x1=>@bltViewBooted))):=by intros; kernel_rfl
theorem pf_933:((x0:World)→((x1:OsState)→(@Eq k9 ((@Heap.bltView (@Shared.heap (k0 x0 x1))),((@Bool.and (@Bool.and (@Bool.and (@Bool.and (@Bool.and (@Bool.and (@Heap.keysOk (@Shared.heap (k0 x0 x1)) (@W.looseW @h_view_39 []) (@List.map @DefRec @Str (fun (x2:@DefRec)=>(@DefRec.name x2)) (@PyProof.Rows.recsOf @h_view_39)) (@List.map (@Prod @Str @PyData) @Str (fun (x2:(@Prod @Str @PyData))=>(@Prod.fst @Str @PyData x2)) (@PyProof.Rows.litsOf @h_view_39)) (@List.map @ClsRec @Str (fun (x2:@ClsRec)=>(@ClsRec.name x2)) k27)) (k33 x0 x1)) (k35 x0 x1)) (k36 x0 x1)) (k30 x0 x1)) ((fun (x2:@Shared)=>(@Bool.and (@W.xlAt @h_view_39 k17 x2) (@W.recOk (@W.RowW.records k1) x2))) (k0 x0 x1))) (k4 x0 x1)),((k31 x0 x1),((k13 x0 x1),((k10 x0 x1),((k14 x0 x1),((k19 x0 x1),(k16 x0 x1)))))))) (@bltViewBooted,(@Bool.true,k5))))):=(fun x0=>(fun x1=>(@W.looks_pair (@Prod (@Option @Str) (@List (@Prod @Str @Value))) (@Prod @Bool (@Prod @Bool k2)) (@Heap.bltView (@Shared.heap (k0 x0 x1))) @bltViewBooted ((@Bool.and (@Bool.and (@Bool.and (@Bool.and (@Bool.and (@Bool.and (@Heap.keysOk (@Shared.heap (k0 x0 x1)) (@W.looseW @h_view_39 []) (@List.map @DefRec @Str (fun (x2:@DefRec)=>(@DefRec.name x2)) (@PyProof.Rows.recsOf @h_view_39)) (@List.map (@Prod @Str @PyData) @Str (fun (x2:(@Prod @Str @PyData))=>(@Prod.fst @Str @PyData x2)) (@PyProof.Rows.litsOf @h_view_39)) (@List.map @ClsRec @Str (fun (x2:@ClsRec)=>(@ClsRec.name x2)) k27)) (k33 x0 x1)) (k35 x0 x1)) (k36 x0 x1)) (k30 x0 x1)) ((fun (x2:@Shared)=>(@Bool.and (@W.xlAt @h_view_39 k17 x2) (@W.recOk (@W.RowW.records k1) x2))) (k0 x0 x1))) (k4 x0 x1)),((k31 x0 x1),((k13 x0 x1),((k10 x0 x1),((k14 x0 x1),((k19 x0 x1),(k16 x0 x1))))))) (@Bool.true,k5) ((fun x2=>(fun x3=>(congrFun (My.pf_912 x2) x3))) x0 x1) (@My.pf_932 x0 x1))))
theorem pf_910:((x0:World)→(@Eq ((x1:OsState)→@PyProof.Rows.Seen) (fun x1=>(@PyProof.Rows.seen (@List.map @DefRec @Str (fun (x2:@DefRec)=>(@DefRec.name x2)) (@PyProof.Rows.recsOf @h_view_39)) (@PyProof.Rows.ownsOf @h_view_39) [] (@Shared.mk (@Shared.heap (k0 x0 x1)) #[] (@Shared.drawn (k0 x0 x1)) (@Shared.toks (k0 x0 x1)) (@Shared.os (k0 x0 x1))))) (fun x1=>(@PyProof.Rows.expectedOf @h_view_39)))):=by intros; kernel_rfl
theorem pf_934:((x0:World)→((x1:OsState)→(@Eq (@Prod @PyProof.Rows.Seen k9) (@W.openSeen @h_view_39 [] k12 (fun (x2:@Shared)=>(@Bool.and (@W.xlAt @h_view_39 k17 x2) (@W.recOk (@W.RowW.records k1) x2))) @Bool.true (k0 x0 x1)) (@W.openGood @h_view_39 [])))):=(fun x0=>(fun x1=>(@W.looks_pair @PyProof.Rows.Seen k9 (@PyProof.Rows.seen (@List.map @DefRec @Str (fun (x2:@DefRec)=>(@DefRec.name x2)) (@PyProof.Rows.recsOf @h_view_39)) (@PyProof.Rows.ownsOf @h_view_39) [] (@Shared.mk (@Shared.heap (k0 x0 x1)) #[] (@Shared.drawn (k0 x0 x1)) (@Shared.toks (k0 x0 x1)) (@Shared.os (k0 x0 x1)))) (@PyProof.Rows.expectedOf @h_view_39) ((@Heap.bltView (@Shared.heap (k0 x0 x1))),((@Bool.and (@Bool.and (@Bool.and (@Bool.and (@Bool.and (@Bool.and (@Heap.keysOk (@Shared.heap (k0 x0 x1)) (@W.looseW @h_view_39 []) (@List.map @DefRec @Str (fun (x2:@DefRec)=>(@DefRec.name x2)) (@PyProof.Rows.recsOf @h_view_39)) (@List.map (@Prod @Str @PyData) @Str (fun (x2:(@Prod @Str @PyData))=>(@Prod.fst @Str @PyData x2)) (@PyProof.Rows.litsOf @h_view_39)) (@List.map @ClsRec @Str (fun (x2:@ClsRec)=>(@ClsRec.name x2)) k27)) (k33 x0 x1)) (k35 x0 x1)) (k36 x0 x1)) (k30 x0 x1)) ((fun (x2:@Shared)=>(@Bool.and (@W.xlAt @h_view_39 k17 x2) (@W.recOk (@W.RowW.records k1) x2))) (k0 x0 x1))) (k4 x0 x1)),((k31 x0 x1),((k13 x0 x1),((k10 x0 x1),((k14 x0 x1),((k19 x0 x1),(k16 x0 x1)))))))) (@bltViewBooted,(@Bool.true,k5)) ((fun x2=>(fun x3=>(congrFun (My.pf_910 x2) x3))) x0 x1) (@My.pf_933 x0 x1))))
theorem pf_937:((x0:World)→((x1:OsState)→(@Eq (@Prod (@Prod @PyProof.Rows.Seen k9) (@W.Hook.α kh0)) ((@W.openSeen @h_view_39 [] k12 (fun (x2:@Shared)=>(@Bool.and (@W.xlAt @h_view_39 k17 x2) (@W.recOk (@W.RowW.records k1) x2))) @Bool.true (k0 x0 x1)),(@W.Hook.obs kh0 (k0 x0 x1))) ((@W.openGood @h_view_39 []),(@W.Hook.val kh0 x0))))):=(fun x0=>(fun x1=>(@W.looks_pair (@Prod @PyProof.Rows.Seen k9) (@W.Hook.α kh0) (@W.openSeen @h_view_39 [] k12 (fun (x2:@Shared)=>(@Bool.and (@W.xlAt @h_view_39 k17 x2) (@W.recOk (@W.RowW.records k1) x2))) @Bool.true (k0 x0 x1)) (@W.openGood @h_view_39 []) (@W.Hook.obs kh0 (k0 x0 x1)) (@W.Hook.val kh0 x0) (@My.pf_934 x0 x1) ((fun x2=>(fun x3=>(congrFun (My.pf_936 x2) x3))) x0 x1))))
theorem pf_908:((x0:World)→(@Eq ((x1:OsState)→@Bool) (fun x1=>(k8 x0 x1)) (fun x1=>@Bool.true))):=by intros; kernel_rfl
theorem pf_938:((x0:World)→((x1:OsState)→(@Eq (@Prod @Bool (@Prod (@Prod @PyProof.Rows.Seen k9) (@W.Hook.α kh0))) ((k8 x0 x1),((@W.openSeen @h_view_39 [] k12 (fun (x2:@Shared)=>(@Bool.and (@W.xlAt @h_view_39 k17 x2) (@W.recOk (@W.RowW.records k1) x2))) @Bool.true (k0 x0 x1)),(@W.Hook.obs kh0 (k0 x0 x1)))) (@Bool.true,((@W.openGood @h_view_39 []),(@W.Hook.val kh0 x0)))))):=(fun x0=>(fun x1=>(@W.looks_pair @Bool (@Prod (@Prod @PyProof.Rows.Seen k9) (@W.Hook.α kh0)) (k8 x0 x1) @Bool.true ((@W.openSeen @h_view_39 [] k12 (fun (x2:@Shared)=>(@Bool.and (@W.xlAt @h_view_39 k17 x2) (@W.recOk (@W.RowW.records k1) x2))) @Bool.true (k0 x0 x1)),(@W.Hook.obs kh0 (k0 x0 x1))) ((@W.openGood @h_view_39 []),(@W.Hook.val kh0 x0)) ((fun x2=>(fun x3=>(congrFun (My.pf_908 x2) x3))) x0 x1) (@My.pf_937 x0 x1))))
theorem pf_903:((x0:World)→(@Eq ((x1:OsState)→(@Option @Shared)) (fun x1=>(@W.topRun @treeTable (k1).1 x0 11 v_ 2 (@W.SharedT.abs (k34 x0 x1)) (@Thread.mk (@W.doneF @Flow.next) k7 (P_ 458 0 469 100) [(@W.topFrame (P_ 0 0 0 0))]))) (fun x1=>(@some @Shared (k0 x0 x1))))):=by intros; kernel_rfl
theorem pf_49:((x0:World)→(@Eq ((x1:OsState)→(@Option k39)) (fun x1=>(@W.segRun @treeTable (k1).1 x0 11 v_ 1 1 (k29 x0 x1) (@W.blockOf (@W.behindTheImports (k1).1) @yh k7 (P_ 0 0 0 0) [(@W.topFrame (P_ 0 0 0 0))]))) (fun x1=>(@some k39 (@Flow.next,((@W.SharedT.abs (k28 x0 x1)),(k7,(P_ 0 0 0 0)))))))):=by intros; kernel_rfl
theorem pf_47:((x0:World)→(@Eq ((x1:OsState)→(@Option (@Prod @Shared @Thread))) (fun x1=>(@W.topGo @treeTable (k1).1 x0 11 v_ 12 (k37 x0 x1) (@W.topStub (k1).1))) (fun x1=>(@some (@Prod @Shared @Thread) ((k29 x0 x1),k38))))):=by intros; kernel_rfl
theorem pf_220:((x0:World)→(@Eq ((x1:OsState)→(@Option k18)) (fun x1=>(@W.segRunT @treeTable (k1).1 x0 11 v_ 1 1924 (k28 x0 x1) (@W.piecesOf @nM @yh k7 (P_ 0 0 0 0) [(@W.topFrame (P_ 0 0 0 0))]))) (fun x1=>(@some k18 (@Flow.next,((k25 x0 x1),(k7,(P_ 43 0 46 17)))))))):=by intros; kernel_rfl
theorem pf_443:((x0:World)→(@Eq ((x1:OsState)→(@Option k18)) (fun x1=>(@W.segRunT @treeTable (k1).1 x0 11 v_ 1 1721 (k25 x0 x1) (@W.piecesOf @tM @yh k7 (P_ 43 0 46 17) [(@W.topFrame (P_ 0 0 0 0))]))) (fun x1=>(@some k18 (@Flow.next,((k26 x0 x1),(k7,(P_ 108 0 117 33)))))))):=by intros; kernel_rfl
theorem pf_724:((x0:World)→(@Eq ((x1:OsState)→(@Option k18)) (fun x1=>(@W.segRunT @treeTable (k1).1 x0 11 v_ 1 1730 (k26 x0 x1) (@W.piecesOf @tL @yh k7 (P_ 108 0 117 33) [(@W.topFrame (P_ 0 0 0 0))]))) (fun x1=>(@some k18 (@Flow.next,((k24 x0 x1),(k7,(P_ 298 0 302 15)))))))):=by intros; kernel_rfl
theorem pf_901:((x0:World)→(@Eq ((x1:OsState)→(@Option k18)) (fun x1=>(@W.segRunT @treeTable (k1).1 x0 11 v_ 1 822 (k24 x0 x1) (@W.piecesOf @vj @yh k7 (P_ 298 0 302 15) [(@W.topFrame (P_ 0 0 0 0))]))) (fun x1=>(@some k18 (@Flow.next,((k34 x0 x1),(k7,(P_ 458 0 469 100)))))))):=by intros; kernel_rfl
theorem pf_904:((x0:World)→((x1:OsState)→(@Eq (@Option @Shared) (@W.topRun @treeTable (k1).1 x0 11 v_ k20 (k37 x0 x1) (@W.topStub (k1).1)) (@some @Shared (k0 x0 x1))))):=(fun x0=>(fun x1=>(@W.go_top @treeTable (k1).1 x0 11 v_ 12 (@Nat.add 1 (@Nat.add 1924 (@Nat.add 1721 (@Nat.add 1730 (@Nat.add 822 2))))) (k37 x0 x1) (k29 x0 x1) (k0 x0 x1) (@W.topStub (k1).1) k38 (congrFun (My.pf_47 x0) x1) (@W.piece_block @treeTable (k1).1 x0 11 v_ @yh (P_ 0 0 0 0) 1 (@Nat.add 1924 (@Nat.add 1721 (@Nat.add 1730 (@Nat.add 822 2)))) (k29 x0 x1) (@W.SharedT.abs (k28 x0 x1)) (k0 x0 x1) (@W.behindTheImports (k1).1) k7 (P_ 0 0 0 0) (P_ 0 0 0 0) (congrFun (My.pf_49 x0) x1) (@W.piece_app @treeTable (k1).1 x0 11 v_ @yh (P_ 0 0 0 0) 1924 (@Nat.add 1721 (@Nat.add 1730 (@Nat.add 822 2))) (@W.SharedT.abs (k28 x0 x1)) (@W.SharedT.abs (k25 x0 x1)) (k0 x0 x1) @nM (@HAppend.hAppend (@List @Stmt) (@List @Stmt) (@List @Stmt) (@instHAppendOfAppend (@List @Stmt) (@List.instAppend @Stmt)) @tM k23) k7 (P_ 0 0 0 0) (P_ 43 0 46 17) (My.sg_ (congrFun (My.pf_220 x0) x1)) (@W.piece_app @treeTable (k1).1 x0 11 v_ @yh (P_ 0 0 0 0) 1721 (@Nat.add 1730 (@Nat.add 822 2)) (@W.SharedT.abs (k25 x0 x1)) (@W.SharedT.abs (k26 x0 x1)) (k0 x0 x1) @tM k23 k7 (P_ 43 0 46 17) (P_ 108 0 117 33) (My.sg_ (congrFun (My.pf_443 x0) x1)) (@W.piece_app @treeTable (k1).1 x0 11 v_ @yh (P_ 0 0 0 0) 1730 (@Nat.add 822 2) (@W.SharedT.abs (k26 x0 x1)) (@W.SharedT.abs (k24 x0 x1)) (k0 x0 x1) @tL (@HAppend.hAppend (@List @Stmt) (@List @Stmt) (@List @Stmt) (@instHAppendOfAppend (@List @Stmt) (@List.instAppend @Stmt)) @vj []) k7 (P_ 108 0 117 33) (P_ 298 0 302 15) (My.sg_ (congrFun (My.pf_724 x0) x1)) (@W.piece_app @treeTable (k1).1 x0 11 v_ @yh (P_ 0 0 0 0) 822 2 (@W.SharedT.abs (k24 x0 x1)) (@W.SharedT.abs (k34 x0 x1)) (k0 x0 x1) @vj [] k7 (P_ 298 0 302 15) (P_ 458 0 469 100) (My.sg_ (congrFun (My.pf_901 x0) x1)) (congrFun (My.pf_903 x0) x1)))))))))
theorem pf_906:((x0:World)→(@Eq (@Prod @Bool (@Prod @Nat (@Option @Value))) ((@Bool.and (@Heap.isNs (@W.boot_heap x0.params) @mainGlobals) (@BEq.beq @Nat (@instBEqOfDecidableEq @Nat @instDecidableEqNat) (@Array.size @GenState g_) 0)),((@Array.size @Obj (@Heap.objs (@W.boot_heap x0.params))),(@Heap.nsMap (@W.boot_heap x0.params) @mainGlobals (.ofString "__annotations__")))) (@Bool.true,(11,v_)))):=by intros; kernel_rfl
theorem pf_43:((x0:@Shared)→(@Eq (@Option @Shared) (@fenceModules? (k1).1 x0) (@some @Shared x0))):=by intros; kernel_rfl
theorem pf_42:(@Eq @Program (@W.opening (k1).1) (@W.plainProg (@Scope.names (@Module.scope (@Program.main (k1).1))))):=by intros; kernel_rfl
theorem left:(@W.LeftO (k1).1 @h_view_39 [] (fun (x0:@Shared)=>(@Bool.and (@W.xlAt @h_view_39 k17 x0) (@W.recOk (@W.RowW.records k1) x0))) (@W.Hook.α kh0) (@W.Hook.obs kh0) (@W.Hook.val kh0) 12476 @Bool.true):=(@W.LeftO.of_pieces (k1).1 @h_view_39 [] (fun (x0:@Shared)=>(@Bool.and (@W.xlAt @h_view_39 k17 x0) (@W.recOk (@W.RowW.records k1) x0))) (@W.Hook.α kh0) (@W.Hook.obs kh0) (@W.Hook.val kh0) 12476 @Bool.true @W.boot_heap @xv g_ g_ @W.boot_drawn d_ @W.boot_toks 1271 11 v_ k20 (@W.boot_open (k1).1 12476 @My.pf_42 (@of_decide_eq_true (@Eq @Bool (@Nat.ble 600 12476) @Bool.true) (@instDecidableEqBool (@Nat.ble 600 12476) @Bool.true) (@id (@Eq @Bool (@Decidable.decide (@Eq @Bool (@Nat.ble 600 12476) @Bool.true) (@instDecidableEqBool (@Nat.ble 600 12476) @Bool.true)) @Bool.true) (@Eq.refl @Bool @Bool.true))) @My.pf_43) @My.pf_906 @My.pf_904 (@of_decide_eq_true (@Eq @Bool (@Nat.ble k20 12476) @Bool.true) (@instDecidableEqBool (@Nat.ble k20 12476) @Bool.true) (@id (@Eq @Bool (@Decidable.decide (@Eq @Bool (@Nat.ble k20 12476) @Bool.true) (@instDecidableEqBool (@Nat.ble k20 12476) @Bool.true)) @Bool.true) (@Eq.refl @Bool @Bool.true))) (fun x0=>(@funext @OsState (fun x1=>(@Prod @Bool (@Prod (@Prod @PyProof.Rows.Seen k9) (@W.Hook.α kh0)))) (fun x1=>((k8 x0 x1),((@W.openSeen @h_view_39 [] k12 (fun (x2:@Shared)=>(@Bool.and (@W.xlAt @h_view_39 k17 x2) (@W.recOk (@W.RowW.records k1) x2))) @Bool.true (k0 x0 x1)),(@W.Hook.obs kh0 (k0 x0 x1))))) (fun x1=>(@Bool.true,((@W.openGood @h_view_39 []),(@W.Hook.val kh0 x0)))) (fun x1=>(@My.pf_938 x0 x1)))))
end My
end
theorem My.myE:∀ P,My.myAs=(My.h_heap_39 P).map (·.1):=fun _=>by kernel_rfl
set_option maxRecDepth 100000
set_option maxHeartbeats 4000000
namespace OD
open PySem PySem.Spec PyProof.Rows L2
abbrev St:=L2.St
noncomputable def Zx (X:Cx):Hp:=if X.stack.length=X.outer.length∨X.fn ""=false then (fun _=>none) else X.H₀
theorem n9 {CX:CXT} {P:Program} {w:World} {K:PySem.W.Frag} {mg:Str→Option Value} {base:Heap} {N:List Str} {qual:Str} {scope:Scope} {f:Addr} {cd:Value} {A:Around} {outer:List Env} {s:Shared} {H:Hp} {E:XK}:Zx (yo CX P w K mg base N qual scope f cd A outer s H E)=H:=if_neg (fun z=>z.elim (Nat.succ_ne_self _) (fun z=>Bool.noConfusion z))
theorem uN {X:Cx} (h:X.stack.length≠X.outer.length) (hf:X.fn ""=true:=by rfl):Zx X=X.H₀:=if_neg (fun z=>z.elim h (fun z=>by rw [hf] at z; cases z))
variable {Z:Hp}
structure DtP where
 is:Hp→V→Prop
 mono:∀ {g g':Hp} {v:V},(∀ a o,g a=some o→g' a=some o)→is g v→is g' v
 ref:∀ {g:Hp} {v:V},is g v→∃ a,v=.ref a
inductive Dt where
 | non | bl (b:Bool) | int (i:Int) | str (x:Str) | tup (ds:List Dt) | lst (ds:List Dt) | scr (ns:List Int) | way (C:Addr) (f:Str) (n:Int) | exc (C:Addr) | opq (φ:DtP)
def X6 (a C:Addr):Heap→Prop:=fun h=>∃ o,h.get? a=some o∧o.cls=.ref C
mutual
def Is (K:PySem.W.Frag) (H:Hp):Dt→V→Prop
 | .non,v=>v=.non
 | .bl b,v=>v=.bl b
 | .int i,v=>v=.int i
 | .str x,v=>v=.str x
 | .tup ds,v=>∃ a xs,v=.ref a∧H a=some (.tup xs)∧AllIs K H ds xs
 | .lst ds,v=>∃ a xs,v=.ref a∧H a=some (.lst xs)∧AllIs K H ds xs
 | .scr ns,v=>∃ a,v=.ref a∧SqL K H a (ns.map V.int)
 | .way C f n,v=>∃ a dx,v=.ref a∧H a=some (.ins C dx [(f,.int n)])
 | .exc C,v=>∃ a,v=.ref a∧H a=some (.ext (X6 a C))
 | .opq φ,v=>φ.is H v
def AllIs (K:PySem.W.Frag) (H:Hp):List Dt→List V→Prop
 | [],xs=>xs=[]
 | d::ds,xs=>∃ x r,xs=x::r∧Is K H d x∧AllIs K H ds r
end
variable {K:PySem.W.Frag} {H H' H1 H2:Hp}
theorem is_non {v:V}:Is K H .non v↔v=.non:=by unfold Is; exact Iff.rfl
theorem is_bl {b:Bool} {v:V}:Is K H (.bl b) v↔v=.bl b:=by unfold Is; exact Iff.rfl
theorem is_int {i:Int} {v:V}:Is K H (.int i) v↔v=.int i:=by unfold Is; exact Iff.rfl
theorem is_str {x:Str} {v:V}:Is K H (.str x) v↔v=.str x:=by unfold Is; exact Iff.rfl
theorem is_tup {ds:List Dt} {v:V}:Is K H (.tup ds) v↔∃ a xs,v=.ref a∧H a=some (.tup xs)∧AllIs K H ds xs:=by
 constructor
 ·intro h; unfold Is at h; exact h
 ·intro h; unfold Is; exact h
theorem is_lst {ds:List Dt} {v:V}:Is K H (.lst ds) v↔∃ a xs,v=.ref a∧H a=some (.lst xs)∧AllIs K H ds xs:=by
 constructor
 ·intro h; unfold Is at h; exact h
 ·intro h; unfold Is; exact h
theorem is_scr {ns:List Int} {v:V}:Is K H (.scr ns) v↔∃ a,v=.ref a∧SqL K H a (ns.map V.int):=by
 constructor
 ·intro h; unfold Is at h; exact h
 ·intro h; unfold Is; exact h
theorem is_way {C:Addr} {f:Str} {n:Int} {v:V}:Is K H (.way C f n) v↔∃ a dx,v=.ref a∧H a=some (.ins C dx [(f,.int n)]):=by
 constructor
 ·intro h; unfold Is at h; exact h
 ·intro h; unfold Is; exact h
theorem is_exc {C:Addr} {v:V}:Is K H (.exc C) v↔∃ a,v=.ref a∧H a=some (.ext (X6 a C)):=by
 constructor
 ·intro h; unfold Is at h; exact h
 ·intro h; unfold Is; exact h
theorem is_opq {φ:DtP} {v:V}:Is K H (.opq φ) v↔φ.is H v:=by
 constructor
 ·intro h; unfold Is at h; exact h
 ·intro h; unfold Is; exact h
theorem allIs_nil {xs:List V}:AllIs K H [] xs↔xs=[]:=by unfold AllIs; exact Iff.rfl
theorem allIs_cons {d:Dt} {ds:List Dt} {xs:List V}:AllIs K H (d::ds) xs↔∃ x r,xs=x::r∧Is K H d x∧AllIs K H ds r:=by
 constructor
 ·intro h; unfold AllIs at h; exact h
 ·intro h; unfold AllIs; exact h
mutual
theorem Is.mono0 (s:Same H H'):∀ {d:Dt} {v:V},Is K H d v→Is K H' d v
 | .non,_,h=>is_non.mpr (is_non.mp h)
 | .bl _,_,h=>is_bl.mpr (is_bl.mp h)
 | .int _,_,h=>is_int.mpr (is_int.mp h)
 | .str _,_,h=>is_str.mpr (is_str.mp h)
 | .tup ds,_,h=>by
  obtain ⟨a,xs,e,h1,h2⟩:=is_tup.mp h
  exact is_tup.mpr ⟨a,xs,e,s _ _ h1,AllIs.mono0 s h2⟩
 | .lst ds,_,h=>by
  obtain ⟨a,xs,e,h1,h2⟩:=is_lst.mp h
  exact is_lst.mpr ⟨a,xs,e,s _ _ h1,AllIs.mono0 s h2⟩
 | .scr ns,_,h=>by
  obtain ⟨a,e,h1⟩:=is_scr.mp h
  exact is_scr.mpr ⟨a,e,s.seq h1⟩
 | .way C f n,_,h=>by
  obtain ⟨a,dx,e,h1⟩:=is_way.mp h
  exact is_way.mpr ⟨a,dx,e,s _ _ h1⟩
 | .exc C,_,h=>by
  obtain ⟨a,e,h1⟩:=is_exc.mp h
  exact is_exc.mpr ⟨a,e,s _ _ h1⟩
 | .opq φ,_,h=>is_opq.mpr (φ.mono (fun a o q=>s a o q) (is_opq.mp h))
theorem AllIs.mono0 (s:Same H H'):∀ {ds:List Dt} {xs:List V},AllIs K H ds xs→AllIs K H' ds xs
 | [],_,h=>allIs_nil.mpr (allIs_nil.mp h)
 | d::ds,_,h=>by
  obtain ⟨x,r,e,h1,h2⟩:=allIs_cons.mp h
  exact allIs_cons.mpr ⟨x,r,e,Is.mono0 s h1,AllIs.mono0 s h2⟩
end
theorem AllIs.length:∀ {ds:List Dt} {xs:List V},AllIs K H ds xs→ds.length=xs.length
 | [],_,h=>by rw [allIs_nil.mp h]; rfl
 | d::ds,_,h=>by
  obtain ⟨x,r,rfl,_,h2⟩:=allIs_cons.mp h
  rw [List.length_cons,List.length_cons,AllIs.length h2]
theorem AllIs.get:∀ {ds:List Dt} {xs:List V} {i:Nat} {d:Dt},AllIs K H ds xs→ds[i]? = some d→∃ v,xs[i]? = some v∧Is K H d v
 | [],_,_,_,_,e=>by simp at e
 | d::ds,_,0,d',h,e=>by
  obtain ⟨x,r,rfl,h1,h2⟩:=allIs_cons.mp h
  simp at e; subst e
  exact ⟨x,rfl,h1⟩
 | d::ds,_,i+1,d',h,e=>by
  obtain ⟨x,r,rfl,h1,h2⟩:=allIs_cons.mp h
  obtain ⟨v,e1,e2⟩:=AllIs.get (i:=i) h2 (by simpa using e)
  exact ⟨v,by simpa using e1,e2⟩
theorem AllIs.get':∀ {ds:List Dt} {xs:List V} {i:Nat} {v:V},AllIs K H ds xs→xs[i]? = some v→∃ d,ds[i]? = some d∧Is K H d v
 | [],_,_,_,h,e=>by rw [allIs_nil.mp h] at e; simp at e
 | d::ds,_,0,v,h,e=>by
  obtain ⟨x,r,rfl,h1,h2⟩:=allIs_cons.mp h
  simp at e; subst e
  exact ⟨d,rfl,h1⟩
 | d::ds,_,i+1,v,h,e=>by
  obtain ⟨x,r,rfl,h1,h2⟩:=allIs_cons.mp h
  obtain ⟨v,e1,e2⟩:=AllIs.get' (i:=i) h2 (by simpa using e)
  exact ⟨v,by simpa using e1,e2⟩
theorem AllIs.append:∀ {ds es:List Dt} {xs ys:List V},AllIs K H ds xs→AllIs K H es ys→AllIs K H (ds++es) (xs++ys)
 | [],_,_,_,h,h'=>by rw [allIs_nil.mp h]; exact h'
 | d::ds,_,_,_,h,h'=>by
  obtain ⟨x,r,rfl,h1,h2⟩:=allIs_cons.mp h
  exact allIs_cons.mpr ⟨x,_,rfl,h1,AllIs.append h2 h'⟩
theorem AllIs.drop:∀ {ds:List Dt} {xs:List V} (n:Nat),AllIs K H ds xs→AllIs K H (ds.drop n) (xs.drop n)
 | _,_,0,h=>h
 | [],_,n+1,h=>by rw [allIs_nil.mp h]; exact allIs_nil.mpr rfl
 | d::ds,_,n+1,h=>by
  obtain ⟨x,r,rfl,h1,h2⟩:=allIs_cons.mp h
  exact AllIs.drop n h2
theorem AllIs.take:∀ {ds:List Dt} {xs:List V} (n:Nat),AllIs K H ds xs→AllIs K H (ds.take n) (xs.take n)
 | _,_,0,_=>allIs_nil.mpr rfl
 | [],_,n+1,h=>by rw [allIs_nil.mp h]; exact allIs_nil.mpr rfl
 | d::ds,_,n+1,h=>by
  obtain ⟨x,r,rfl,h1,h2⟩:=allIs_cons.mp h
  exact allIs_cons.mpr ⟨x,_,rfl,h1,AllIs.take n h2⟩
theorem AllIs.ints:∀ {ns:List Int},AllIs K H (ns.map Dt.int) (ns.map V.int)
 | []=>allIs_nil.mpr rfl
 | n::ns=>allIs_cons.mpr ⟨.int n,_,rfl,is_int.mpr rfl,AllIs.ints⟩
theorem AllIs.atI {ds:List Dt} {xs:List V} {i:Int} {d:Dt} (h:AllIs K H ds xs) (e:L2.atI ds i=some d):∃ v,L2.atI xs i=some v∧Is K H d v:=by
 unfold L2.atI at e ⊢
 rw [← h.length]
 cases q:ixN ds.length i with
 | none=>rw [q] at e; cases e
 | some j=>
  rw [q] at e
  exact h.get e
theorem AllIs.one {d:Dt} {xs:List V} (h:AllIs K H [d] xs):∃ v,xs=[v]∧Is K H d v:=by
 obtain ⟨x,r,rfl,h1,h2⟩:=allIs_cons.mp h
 rw [allIs_nil.mp h2]
 exact ⟨x,rfl,h1⟩
theorem AllIs.two {d e:Dt} {xs:List V} (h:AllIs K H [d,e] xs):∃ v u,xs=[v,u]∧Is K H d v∧Is K H e u:=by
 obtain ⟨x,r,rfl,h1,h2⟩:=allIs_cons.mp h
 obtain ⟨u,rfl,h3⟩:=h2.one
 exact ⟨x,u,rfl,h1,h3⟩
theorem zC {p:Addr} (h:H p=none) (o:HO):Same H (upd H p o):=fun b u q=>by rw [zo (zD q h)]; exact q
structure Vw where
 g:Hp
 h:Hp
 sub:Same g h
structure Le (W W':Vw):Prop where
 g:Same W.g W'.g
 h:Same W.h W'.h
 n:∀ a,W.h a≠none→W.g a=none→W'.g a=none
theorem Le.refl (W:Vw):Le W W:=⟨Same.refl _,Same.refl _,fun _ _ h=>h⟩
theorem Le.trans {W W1 W2:Vw} (a:Le W W1) (b:Le W1 W2):Le W W2:=
 ⟨a.g.trans b.g,a.h.trans b.h,fun c h1 h2=>b.n c (fun z=>h1 (a.h.free z)) (a.n c h1 h2)⟩
theorem Is.mono {W W':Vw} {d:Dt} {v:V} (h:Is K W.g d v) (s:Le W W'):Is K W'.g d v:=Is.mono0 s.g h
theorem AllIs.mono {W W':Vw} {d:List Dt} {v:List V} (h:AllIs K W.g d v) (s:Le W W'):AllIs K W'.g d v:=AllIs.mono0 s.g h
def Vw.new (W:Vw) (p:Addr) (o:HO):Vw:=⟨upd W.g p o,upd W.h p o,fun b u q=>by
 by_cases e:b=p
 ·subst e; rw [zi] at q ⊢; exact q
 ·rw [zo e] at q ⊢; exact W.sub _ _ q⟩
theorem wS {W:Vw} {p:Addr} (hp:W.h p=none) (o:HO):Le W (W.new p o):=
 ⟨zC (W.sub.free hp) o,zC hp o,fun a h1 h2=>by
  have:a≠p:=fun e=>h1 (e ▸ hp)
  show upd W.g p o a=none
  rw [zo this]; exact h2⟩
def Vw.mine (W:Vw) (p:Addr) (o:HO) (hp:W.g p=none):Vw:=⟨W.g,upd W.h p o,fun b u q=>by
 have:b≠p:=fun e=>by rw [e,hp] at q; cases q
 rw [zo this]; exact W.sub _ _ q⟩
theorem yc {W:Vw} {p:Addr} (hp:W.h p=none) (o:HO):Le W (W.mine p o (W.sub.free hp)):=
 ⟨Same.refl _,zC hp o,fun _ _ h=>h⟩
def Vw.frz (W:Vw) (p:Addr) (o:HO) (hp:W.h p=some o):Vw:=⟨upd W.g p o,W.h,fun b u q=>by
 by_cases e:b=p
 ·subst e; rw [zi] at q; rw [hp]; exact q
 ·rw [zo e] at q; exact W.sub _ _ q⟩
structure ObP where
 is:Hp→Addr→HO→Prop
 mono:∀ {g g':Hp} {a:Addr} {o:HO},Same g g'→is g a o→is g' a o
inductive Sl where | none | some (d:Dt) | own (ds:List Dt) | arg (a:Addr) (ds:List Dt) | obj (φ:ObP)
abbrev DS:=List Sl
def Obs (F:Hp) (W:Vw) (ρ:DS) (σ:St):Prop:=∀ (i:Nat) (φ:ObP),ρ[i]? = some (.obj φ)→
 (∃ a o,σ[i]? = some (some (.ref a))∧W.h a=some o∧(∀ xs,o≠.lst xs)∧W.g a=none∧F a=none∧φ.is W.g a o)∧∀ (j:Nat) (ψ:ObP),ρ[j]? = some (.obj ψ)→j=i
structure Rl (K:PySem.W.Frag) (Z F:Hp) (W:Vw) (ρ:DS) (σ:St):Prop where
 len:ρ.length=σ.length
 at_:∀ (i:Nat) (d:Dt),ρ[i]? = some (.some d)→∃ v,σ[i]? = some (some v)∧Is K W.g d v
 ow:∀ (i:Nat) (ds:List Dt),ρ[i]? = some (.own ds)→∃ a xs,σ[i]? = some (some (.ref a))∧W.h a=some (.lst xs)∧W.g a=none∧F a=none∧AllIs K W.g ds xs
 ne:∀ (i j:Nat) (ds es:List Dt),i≠j→ρ[i]? = some (.own ds)→ρ[j]? = some (.own es)→σ[i]?≠σ[j]?
 fr:Same F W.h
 z:Same Z F
 ar:∀ (i:Nat) (a:Addr) (ds:List Dt),ρ[i]? = some (.arg a ds)→(∃ xs,σ[i]? = some (some (.ref a))∧W.h a=some (.lst xs)∧W.g a=none∧F a=none∧AllIs K W.g ds xs)∧(∀ (j:Nat) (es:List Dt),ρ[j]? = some (.own es)→σ[j]?≠some (some (.ref a)))∧∀ (j:Nat) (b:Addr) (es:List Dt),ρ[j]? = some (.arg b es)→j=i
 ob:Obs F W ρ σ
variable {F:Hp} {W W':Vw}
theorem zl {α:Type} {l:List α} {i j:Nat} {x y:α} (q:(l.set i x)[j]? = some y):(i=j∧i<l.length∧x=y)∨(i≠j∧l[j]? = some y):=by
 by_cases hij:i=j
 ·subst hij
  by_cases hl:i<l.length
  ·rw [List.getElem?_set_self hl] at q
   exact .inl ⟨rfl,hl,Option.some.inj q⟩
  ·rw [List.getElem?_eq_none (by rw [List.length_set]; omega)] at q
   cases q
 ·rw [List.getElem?_set_ne hij] at q
  exact .inr ⟨hij,q⟩
theorem Obs.mono {ρ:DS} {σ:St} (r:Obs F W ρ σ) (s:Le W W'):Obs F W' ρ σ:=fun i φ e=>
 let ⟨⟨a,o,h1,h2,h3,h4,h5,h6⟩,k⟩:=r i φ e; ⟨⟨a,o,h1,s.h _ _ h2,h3,s.n a (by rw [h2]; intro z; cases z) h4,h5,φ.mono s.g h6⟩,k⟩
theorem Obs.set {ρ:DS} {σ:St} (r:Obs F W ρ σ) (i:Nat) {y:Sl} (v:Option V) (hy:∀ φ,y≠.obj φ):Obs F W (ρ.set i y) (σ.set i v):=fun j φ q=>by
 rcases zl q with ⟨_,_,e1⟩ | ⟨hij,q⟩
 ·exact absurd e1 (hy φ)
 obtain ⟨⟨a,o,h1,h2⟩,k⟩:=r j φ q
 refine ⟨⟨a,o,by rw [List.getElem?_set_ne hij]; exact h1,h2⟩,fun l ψ q'=>?_⟩
 rcases zl q' with ⟨_,_,e1⟩ | ⟨_,q'⟩
 ·exact absurd e1 (hy ψ)
 ·exact k l ψ q'
theorem Obs.slot {ρ:DS} {σ:St} (r:Obs F W ρ σ) (i:Nat) {y:Sl} (hy:∀ φ,y≠.obj φ):Obs F W (ρ.set i y) σ:=fun j φ q=>by
 rcases zl q with ⟨_,_,e1⟩ | ⟨hij,q⟩
 ·exact absurd e1 (hy φ)
 obtain ⟨h,k⟩:=r j φ q
 refine ⟨h,fun l ψ q'=>?_⟩
 rcases zl q' with ⟨_,_,e1⟩ | ⟨_,q'⟩
 ·exact absurd e1 (hy ψ)
 ·exact k l ψ q'
theorem Obs.mine {ρ:DS} {σ:St} (r:Obs F W ρ σ) {a:Addr} {xs ys:List V} (ha:W.h a=some (.lst xs)) (hg:W.g a=none):Obs F (W.mine a (.lst ys) hg) ρ σ:=fun j φ q=>
 let ⟨⟨b,o,h1,h2,h3,h4⟩,k⟩:=r j φ q
 ⟨⟨b,o,h1,(zo (fun z=>h3 xs (by rw [z,ha] at h2; exact (Option.some.inj h2).symm))).trans h2,h3,h4⟩,k⟩
theorem Obs.frz {ρ:DS} {σ:St} (r:Obs F W ρ σ) {a:Addr} {xs:List V} (ha:W.h a=some (.lst xs)) (hg:W.g a=none):Obs F (W.frz a _ ha) ρ σ:=fun j φ q=>
 let ⟨⟨b,o,h1,h2,h3,h4,h5,h6⟩,k⟩:=r j φ q
 ⟨⟨b,o,h1,h2,h3,(zo (fun z=>h3 xs (by rw [z,ha] at h2; exact (Option.some.inj h2).symm))).trans h4,h5,φ.mono (zC hg _) h6⟩,k⟩
theorem Rl.mono {ρ:DS} {σ:St} (r:Rl K Z F W ρ σ) (s:Le W W'):Rl K Z F W' ρ σ:=
 ⟨r.len,fun i d e=>let ⟨v,h1,h2⟩:=r.at_ i d e; ⟨v,h1,h2.mono s⟩,
  fun i ds e=>let ⟨a,xs,h1,h2,h3,h4,h5⟩:=r.ow i ds e; ⟨a,xs,h1,s.h _ _ h2,s.n a (by rw [h2]; intro z; cases z) h3,h4,h5.mono s⟩,r.ne,r.fr.trans s.h,r.z,
  fun i a ds e=>let ⟨⟨xs,h1,h2,h3,h4,h5⟩,k1,k2⟩:=r.ar i a ds e; ⟨⟨xs,h1,s.h _ _ h2,s.n a (by rw [h2]; intro z; cases z) h3,h4,h5.mono s⟩,k1,k2⟩,r.ob.mono s⟩
theorem Rl.set {ρ:DS} {σ:St} (r:Rl K Z F W ρ σ) {d:Dt} {v:V} (i:Nat) (h:Is K W.g d v):Rl K Z F W (ρ.set i (.some d)) (σ.set i (some v)):=by
 refine ⟨by rw [List.length_set,List.length_set]; exact r.len,fun j e q=>?_,fun j ds q=>?_,fun j k ds es hjk q1 q2=>?_,r.fr,r.z,fun j a ds q=>?_,r.ob.set i _ (fun φ z=>by cases z)⟩
 ·rcases zl q with ⟨rfl,hl,e1⟩ | ⟨hij,q⟩
  ·cases e1
   exact ⟨v,by rw [List.getElem?_set_self (by rw [← r.len]; exact hl)],h⟩
  ·rw [List.getElem?_set_ne hij]
   exact r.at_ j e q
 ·rcases zl q with ⟨_,_,e1⟩ | ⟨hij,q⟩
  ·cases e1
  ·rw [List.getElem?_set_ne hij]
   exact r.ow j ds q
 ·rcases zl q1 with ⟨_,_,e1⟩ | ⟨hij,q1⟩
  ·cases e1
  rcases zl q2 with ⟨_,_,e1⟩ | ⟨hik,q2⟩
  ·cases e1
  rw [List.getElem?_set_ne hij,List.getElem?_set_ne hik]
  exact r.ne j k ds es hjk q1 q2
 ·rcases zl q with ⟨_,_,e1⟩ | ⟨hij,q⟩
  ·cases e1
  obtain ⟨⟨xs,h1,h2⟩,k1,k2⟩:=r.ar j a ds q
  refine ⟨⟨xs,by rw [List.getElem?_set_ne hij]; exact h1,h2⟩,fun k es q'=>?_,fun k c es q'=>?_⟩
  ·rcases zl q' with ⟨_,_,e1⟩ | ⟨hik,q'⟩
   ·cases e1
   rw [List.getElem?_set_ne hik]
   exact k1 k es q'
  ·rcases zl q' with ⟨_,_,e1⟩ | ⟨hik,q'⟩
   ·cases e1
   exact k2 k c es q'
theorem Rl.own {ρ:DS} {σ:St} (r:Rl K Z F W ρ σ) (s:Le W W') {p:Addr} {xs:List V} {ds:List Dt} (i:Nat) (h0:W.h p=none) (h1:W'.h p=some (.lst xs)) (h2:W'.g p=none) (h3:AllIs K W'.g ds xs):
  Rl K Z F W' (ρ.set i (.own ds)) (σ.set i (some (.ref p))):=by
 have r':=r.mono s
 have nep:∀ (j:Nat) (es:List Dt),ρ[j]? = some (Sl.own es)→σ[j]?≠some (some (V.ref p)):=fun j es q z=>by
  obtain ⟨a,ys,e1,e2,_⟩:=r.ow j es q
  rw [z] at e1
  cases e1
  rw [h0] at e2
  cases e2
 refine ⟨by rw [List.length_set,List.length_set]; exact r.len,fun j e q=>?_,fun j es q=>?_,fun j k es es' hjk q1 q2=>?_,r'.fr,r.z,fun j a fs q=>?_,r'.ob.set i _ (fun φ z=>by cases z)⟩
 ·rcases zl q with ⟨_,_,e1⟩ | ⟨hij,q⟩
  ·cases e1
  ·rw [List.getElem?_set_ne hij]
   exact r'.at_ j e q
 ·rcases zl q with ⟨rfl,hl,e1⟩ | ⟨hij,q⟩
  ·cases e1
   exact ⟨p,xs,by rw [List.getElem?_set_self (by rw [← r.len]; exact hl)],h1,h2,r.fr.free h0,h3⟩
  ·rw [List.getElem?_set_ne hij]
   exact r'.ow j es q
 ·rcases zl q1 with ⟨rfl,hl,e1⟩ | ⟨hij,q1⟩
  ·rcases zl q2 with ⟨rfl,_,_⟩ | ⟨hik,q2⟩
   ·exact absurd rfl hjk
   ·rw [List.getElem?_set_self (by rw [← r.len]; exact hl),List.getElem?_set_ne hik]
    exact fun z=>nep k es' q2 z.symm
  ·rcases zl q2 with ⟨rfl,hl,_⟩ | ⟨hik,q2⟩
   ·rw [List.getElem?_set_self (by rw [← r.len]; exact hl),List.getElem?_set_ne hij]
    exact nep j es q1
   ·rw [List.getElem?_set_ne hij,List.getElem?_set_ne hik]
    exact r.ne j k es es' hjk q1 q2
 ·rcases zl q with ⟨_,_,e1⟩ | ⟨hij,q⟩
  ·cases e1
  obtain ⟨⟨ys,g1,g2⟩,k1,k2⟩:=r'.ar j a fs q
  obtain ⟨⟨_,_,g3,_⟩,_,_⟩:=r.ar j a fs q
  refine ⟨⟨ys,by rw [List.getElem?_set_ne hij]; exact g1,g2⟩,fun k es q'=>?_,fun k c es q'=>?_⟩
  ·rcases zl q' with ⟨rfl,hl,e1⟩ | ⟨hik,q'⟩
   ·rw [List.getElem?_set_self (by rw [← r.len]; exact hl)]
    intro z
    cases z
    rw [h0] at g3
    cases g3
   ·rw [List.getElem?_set_ne hik]
    exact k1 k es q'
  ·rcases zl q' with ⟨_,_,e1⟩ | ⟨hik,q'⟩
   ·cases e1
   exact k2 k c es q'
theorem Rl.put {ρ:DS} {σ:St} (r:Rl K Z F W ρ σ) {i:Nat} {ds es:List Dt} {a:Addr} {ys:List V} (hi:ρ[i]? = some (.own ds)) (ha:σ[i]? = some (some (.ref a))) (hg:W.g a=none) (hF:F a=none) (h3:AllIs K W.g es ys):
  Rl K Z F (W.mine a (.lst ys) hg) (ρ.set i (.own es)) σ:=by
 have hl:i<ρ.length:=by
  rcases Nat.lt_or_ge i ρ.length with h | h
  ·exact h
  ·rw [List.getElem?_eq_none h] at hi; cases hi
 have other:∀ j fs,j≠i→ρ[j]? = some (.own fs)→σ[j]?≠some (some (.ref a)):=fun j fs hj q z=>r.ne j i fs ds hj q hi (z.trans ha.symm)
 refine ⟨by rw [List.length_set]; exact r.len,fun j e q=>?_,fun j fs q=>?_,fun j k fs fs' hjk q1 q2=>?_,fun p o q=>?_,r.z,fun j c fs q=>?_,?_⟩
 ·rcases zl q with ⟨_,_,e1⟩ | ⟨hij,q⟩
  ·cases e1
  ·exact r.at_ j e q
 ·rcases zl q with ⟨rfl,_,e1⟩ | ⟨hij,q⟩
  ·cases e1
   exact ⟨a,ys,ha,zi,hg,hF,h3⟩
  ·obtain ⟨b,xs,e1,e2,e3,e4,e5⟩:=r.ow j fs q
   have hb:b≠a:=fun z=>other j fs (fun z=>hij z.symm) q (z ▸ e1)
   exact ⟨b,xs,e1,(zo hb).trans e2,e3,e4,e5⟩
 ·have k1:∃ gs,ρ[j]? = some (.own gs):=by
   rcases zl q1 with ⟨rfl,_,_⟩ | ⟨_,q⟩
   ·exact ⟨_,hi⟩
   ·exact ⟨_,q⟩
  have k2:∃ gs,ρ[k]? = some (.own gs):=by
   rcases zl q2 with ⟨rfl,_,_⟩ | ⟨_,q⟩
   ·exact ⟨_,hi⟩
   ·exact ⟨_,q⟩
  obtain ⟨_,k1⟩:=k1
  obtain ⟨_,k2⟩:=k2
  exact r.ne j k _ _ hjk k1 k2
 ·have e:p≠a:=fun e=>by rw [e,hF] at q; cases q
  exact (zo (H:=W.h) (o:=.lst ys) e).trans (r.fr p o q)
 ·rcases zl q with ⟨_,_,e1⟩ | ⟨hij,q⟩
  ·cases e1
  obtain ⟨⟨ys',g1,g2,g3,g4,g5⟩,k1,k2⟩:=r.ar j c fs q
  have hc:c≠a:=fun z=>k1 i ds hi (by rw [z]; exact ha)
  refine ⟨⟨ys',g1,(zo hc).trans g2,g3,g4,g5⟩,fun k es' q'=>?_,fun k c' es' q'=>?_⟩
  ·rcases zl q' with ⟨rfl,_,_⟩ | ⟨_,q'⟩
   ·exact k1 i ds hi
   ·exact k1 k es' q'
  ·rcases zl q' with ⟨_,_,e1⟩ | ⟨hik,q'⟩
   ·cases e1
   exact k2 k c' es' q'
 ·obtain ⟨a',xs,e1,e2,_⟩:=r.ow i ds hi
  rw [ha] at e1
  cases e1
  exact (r.ob.mine e2 hg).slot i (fun φ z=>by cases z)
theorem Rl.frz {ρ:DS} {σ:St} (r:Rl K Z F W ρ σ) {i:Nat} {ds:List Dt} {a:Addr} {xs:List V} (hi:ρ[i]? = some (.own ds)) (ha:σ[i]? = some (some (.ref a))) (hh:W.h a=some (.lst xs)) (hg:W.g a=none) (h3:AllIs K W.g ds xs):
  Rl K Z F (W.frz a _ hh) (ρ.set i (.some (.lst ds))) σ:=by
 have sg:Same W.g (upd W.g a (.lst xs)):=zC hg _
 have other:∀ j fs,j≠i→ρ[j]? = some (.own fs)→σ[j]?≠some (some (.ref a)):=fun j fs hj q z=>r.ne j i fs ds hj q hi (z.trans ha.symm)
 refine ⟨by rw [List.length_set]; exact r.len,fun j e q=>?_,fun j fs q=>?_,fun j k fs fs' hjk q1 q2=>?_,r.fr,r.z,fun j c fs q=>?_,(r.ob.frz hh hg).slot i (fun φ z=>by cases z)⟩
 ·rcases zl q with ⟨rfl,_,e1⟩ | ⟨hij,q⟩
  ·cases e1
   exact ⟨_,ha,is_lst.mpr ⟨a,xs,rfl,zi,AllIs.mono0 sg h3⟩⟩
  ·obtain ⟨v,e1,e2⟩:=r.at_ j e q
   exact ⟨v,e1,Is.mono0 sg e2⟩
 ·rcases zl q with ⟨_,_,e1⟩ | ⟨hij,q⟩
  ·cases e1
  ·obtain ⟨b,ys,e1,e2,e3,e4,e5⟩:=r.ow j fs q
   have hb:b≠a:=fun z=>other j fs (fun z=>hij z.symm) q (z ▸ e1)
   exact ⟨b,ys,e1,e2,(zo hb).trans e3,e4,AllIs.mono0 sg e5⟩
 ·rcases zl q1 with ⟨_,_,e1⟩ | ⟨_,q1⟩
  ·cases e1
  rcases zl q2 with ⟨_,_,e1⟩ | ⟨_,q2⟩
  ·cases e1
  exact r.ne j k _ _ hjk q1 q2
 ·rcases zl q with ⟨_,_,e1⟩ | ⟨hij,q⟩
  ·cases e1
  obtain ⟨⟨ys',g1,g2,g3,g4,g5⟩,k1,k2⟩:=r.ar j c fs q
  have hc:c≠a:=fun z=>k1 i ds hi (by rw [z]; exact ha)
  refine ⟨⟨ys',g1,g2,(zo hc).trans g3,g4,AllIs.mono0 sg g5⟩,fun k es' q'=>?_,fun k c' es' q'=>?_⟩
  ·rcases zl q' with ⟨_,_,e1⟩ | ⟨_,q'⟩
   ·cases e1
   ·exact k1 k es' q'
  ·rcases zl q' with ⟨_,_,e1⟩ | ⟨hik,q'⟩
   ·cases e1
   exact k2 k c' es' q'
def z5 (n:Nat) (ds:List Dt):DS:=ds.map Sl.some++List.replicate (n - ds.length) Sl.none
theorem Rl.start {N:List Str} {ds:List Dt} {vs:List V} (h:AllIs K W.g ds vs) (hz:Same Z W.h):Rl K Z W.h W (z5 N.length ds) (L2.start N vs):=by
 have hl:=h.length
 have cls:∀ (i:Nat) (y:Sl),(z5 N.length ds)[i]? = some y→(∃ d,ds[i]? = some d∧y=.some d)∨y=.none:=fun i y e=>by
  unfold z5 at e
  by_cases hi:i<ds.length
  ·rw [List.getElem?_append_left (by rw [List.length_map]; exact hi),List.getElem?_map] at e
   cases q:ds[i]? with
   | none=>rw [q] at e; cases e
   | some d'=>
    rw [q] at e
    exact .inl ⟨d',rfl,(Option.some.inj e).symm⟩
  ·rw [List.getElem?_append_right (by rw [List.length_map]; omega),List.getElem?_replicate] at e
   split at e
   ·exact .inr (Option.some.inj e).symm
   ·cases e
 refine ⟨by unfold L2.start z5; rw [List.length_append,List.length_append,List.length_map,List.length_map,List.length_replicate,List.length_replicate,hl],fun i d e=>?_,fun i es e=>?_,fun i j es fs _ e _=>?_,Same.refl _,hz,fun i a es e=>?_,fun i φ e=>?_⟩
 ·rcases cls i _ e with ⟨d',q,e1⟩ | e1
  ·cases e1
   obtain ⟨v,h1,h2⟩:=h.get q
   refine ⟨v,?_,h2⟩
   have hi:i<ds.length:=by
    rcases Nat.lt_or_ge i ds.length with h | h
    ·exact h
    ·rw [List.getElem?_eq_none h] at q; cases q
   unfold L2.start
   rw [List.getElem?_append_left (by rw [List.length_map,← hl]; exact hi),List.getElem?_map,h1]
   rfl
  ·cases e1
 ·rcases cls i _ e with ⟨d',q,e1⟩ | e1
  ·cases e1
  ·cases e1
 ·rcases cls i _ e with ⟨d',q,e1⟩ | e1
  ·cases e1
  ·cases e1
 ·rcases cls i _ e with ⟨d',q,e1⟩ | e1
  ·cases e1
  ·cases e1
 ·rcases cls i _ e with ⟨d',q,e1⟩ | e1
  ·cases e1
  ·cases e1
abbrev DTE:=DS→(Dt→Prop)→Prop
abbrev DTT:=DS→(Bool→Prop)→Prop
abbrev DTA:=DS→(List Dt→Prop)→Prop
def LiE (K:PySem.W.Frag) (Z:Hp) (te:TE) (t:DTE):Prop:=
 ∀ {F:Hp} (ρ:DS) (σ:St) (H:Vw) (Q:Dt→Prop),Rl K Z F H ρ σ→t ρ Q→∀ R:VK,(∀ d v H',Le H H'→Is K H'.g d v→Q d→R v H'.h)→te σ H.h R
def LiT (K:PySem.W.Frag) (Z:Hp) (te:TT) (t:DTT):Prop:=
 ∀ {F:Hp} (ρ:DS) (σ:St) (H:Vw) (Q:Bool→Prop),Rl K Z F H ρ σ→t ρ Q→∀ R:Bool→Hp→Prop,(∀ d H',Le H H'→Q d→R d H'.h)→te σ H.h R
def LiA (K:PySem.W.Frag) (Z:Hp) (te:TA) (t:DTA):Prop:=
 ∀ {F:Hp} (ρ:DS) (σ:St) (H:Vw) (Q:List Dt→Prop),Rl K Z F H ρ σ→t ρ Q→∀ R:List V→Hp→Prop,(∀ d v H',Le H H'→AllIs K H'.g d v→Q d→R v H'.h)→te σ H.h R
def DE (X:Cx) (e:Expr) (t:DTE):Prop:=∃ te,PE X e te∧LiE X.K (Zx X) te t
def DT (X:Cx) (e:Expr) (t:DTT):Prop:=∃ te,PT X e te∧LiT X.K (Zx X) te t
def DW (X:Cx) (e:Expr) (t:DTT):Prop:=∃ te,PW X e te∧LiT X.K (Zx X) te t
def DA (X:Cx) (es:List Expr) (t:DTA):Prop:=∃ te,PA X es te∧LiA X.K (Zx X) te t
theorem DW.dt {X:Cx} {e:Expr} {t:DTT} (h:DW X e t):DT X e t:=let ⟨te,h1,h2⟩:=h; ⟨te,h1.pt,h2⟩
def QT (i:Nat):DTE:=fun ρ Q=>∃ d,ρ[i]? = some (.some d)∧Q d
def dC (d:Dt):DTE:=fun _ Q=>Q d
section
variable {X:Cx} {a b c:Expr} {ta tb tc:DTE} {pos:Pos}
theorem dv (i:Nat) {x:Str} {pos:Pos} (hN:X.N[i]? = some x:=by rfl) (hv:Vis X.env.scope x:=by first | exact Or.inl rfl | exact Or.inr (Or.inl rfl) | exact Or.inr (Or.inr rfl)) (hd:(x == ("__debug__":Str))=false:=by decide)
  (hcd:(x == ("__classdict__":Str))=false:=by decide):DE X (.Name x pos) (QT i):=
 ⟨cX i,zQ hN hv hd hcd,fun ρ σ H Q r h R k=>by
  obtain ⟨d,e,q⟩:=h
  obtain ⟨v,h1,h2⟩:=r.at_ i d e
  exact ⟨v,h1,k d v H (Le.refl H) h2 q⟩⟩
theorem lic {v:V} {d:Dt} (h:∀ H:Vw,Is K H.g d v):LiE K Z (tC v) (dC d):=fun ρ σ H Q r q R k=>k d v H (Le.refl H) (h H) q
theorem zd {i j pos}:DE X (.Constant (.int i) j pos) (dC (.int i)):=⟨_,rA,lic fun _=>is_int.mpr rfl⟩
theorem va {b j pos}:DE X (.Constant (.bool b) j pos) (dC (.bl b)):=⟨_,SC,lic fun _=>is_bl.mpr rfl⟩
theorem cc {j pos}:DE X (.Constant .none j pos) (dC .non):=⟨_,WK,lic fun _=>is_non.mpr rfl⟩
theorem z_ {x j pos}:DE X (.Constant (.str x) j pos) (dC (.str x)):=⟨_,pZ,lic fun _=>is_str.mpr rfl⟩
def DOp (X:Cx) (f:Value→Value→Sem Value) (g:Dt→Dt→(Dt→Prop)→Prop):Prop:=
 ∃ r,OpR X f r∧∀ (H:Vw) (x y:V) (d e:Dt) (Q:Dt→Prop),Is X.K H.g d x→Is X.K H.g e y→g d e Q→∀ R:VK,(∀ d v H',Le H H'→Is X.K H'.g d v→Q d→R v H'.h)→r x y H.h R
def dOp (g:Dt→Dt→(Dt→Prop)→Prop) (ta tb:DTE):DTE:=fun ρ Q=>ta ρ fun d=>tb ρ fun e=>g d e Q
theorem Tj {te tf:TE} {r:R2} {g:Dt→Dt→(Dt→Prop)→Prop} (ha:LiE K Z te ta) (hb:LiE K Z tf tb)
  (hg:∀ (H:Vw) (x y:V) (d e:Dt) (Q:Dt→Prop),Is K H.g d x→Is K H.g e y→g d e Q→∀ R:VK,(∀ d v H',Le H H'→Is K H'.g d v→Q d→R v H'.h)→r x y H.h R):LiE K Z (tOp r te tf) (dOp g ta tb):=
 fun ρ σ H Q rl h R k=>ha ρ σ H _ rl h _ fun d v H1 s1 i1 q1=>hb ρ σ H1 _ (rl.mono s1) q1 _ fun e u H2 s2 i2 q2=>
  hg H2 v u d e Q (i1.mono s2) i2 q2 R fun d' v' H3 s3 i3 q3=>k d' v' H3 ((s1.trans s2).trans s3) i3 q3
theorem zn {op:Operator} {g:Dt→Dt→(Dt→Prop)→Prop} (ho:DOp X (binaryOp op) g) (ha:DE X a ta) (hb:DE X b tb):DE X (.BinOp a op b pos) (dOp g ta tb):=by
 obtain ⟨r,h1,h2⟩:=ho
 obtain ⟨te,p1,l1⟩:=ha
 obtain ⟨tf,p2,l2⟩:=hb
 exact ⟨_,XT h1 p1 p2,Tj l1 l2 h2⟩
theorem qk {op:CmpOp} {g:Dt→Dt→(Dt→Prop)→Prop} (ho:DOp X (compareOp op) g) (ha:DE X a ta) (hb:DE X b tb) (hm:behindInMarks op b=false):DE X (.Compare a [op] [b] pos) (dOp g ta tb):=by
 obtain ⟨r,h1,h2⟩:=ho
 obtain ⟨te,p1,l1⟩:=ha
 obtain ⟨tf,p2,l2⟩:=hb
 exact ⟨_,bz h1 p1 p2 hm,Tj l1 l2 h2⟩
def qm (t:DTE):DTT:=fun ρ Q=>t ρ fun d=>∃ k,d=.bl k∧Q k
theorem mQ {te:TE} {t:DTE} (h:LiE K Z te t):LiT K Z (XO te) (qm t):=fun ρ σ H Q r q R k=>
 h ρ σ H _ r q _ fun d v H1 s1 i1 ⟨b,e,qb⟩=>by
  subst e
  exact ⟨b,is_bl.mp i1,k b H1 s1 qb⟩
theorem zw {op:CmpOp} {g:Dt→Dt→(Dt→Prop)→Prop} (ho:DOp X (compareOp op) g) (ha:DE X a ta) (hb:DE X b tb) (hm:behindInMarks op b=false):DT X (.Compare a [op] [b] pos) (qm (dOp g ta tb)):=by
 obtain ⟨r,h1,h2⟩:=ho
 obtain ⟨te,p1,l1⟩:=ha
 obtain ⟨tf,p2,l2⟩:=hb
 exact ⟨_,bo h1 p1 p2 hm,mQ (Tj l1 l2 h2)⟩
theorem yn {e:Expr} {t:DTE} (h:DE X e t) (he:∀ whole,isTrue e X.env whole=(do let v ← whole; standAt e.pos; holding [v] (truthy v)):=by intro _; rfl):DT X e (qm t):=by
 obtain ⟨te,p,l⟩:=h
 exact ⟨_,WC p he,mQ l⟩
variable {tA tB:DTT} {yU:List Expr}
def T4 (t u:DTT):DTT:=fun ρ Q=>t ρ fun c=>if c=true then u ρ Q else Q false
def dOr (t u:DTT):DTT:=fun ρ Q=>t ρ fun c=>if c=true then Q true else u ρ Q
def Q1 (t:DTT):DTT:=fun ρ Q=>t ρ fun c=>Q (!c)
theorem y7 (ha:DT X a tA):DW X (.BoolOp .And [a] pos) tA:=let ⟨_,p,l⟩:=ha; ⟨_,bn p,l⟩
theorem qd (ha:DT X a tA):DW X (.BoolOp .Or [a] pos) tA:=let ⟨_,p,l⟩:=ha; ⟨_,WA p,l⟩
theorem wA (ha:DT X a tA) (hb:DW X (.BoolOp .And (b::yU) pos) tB):DW X (.BoolOp .And (a::b::yU) pos) (T4 tA tB):=by
 obtain ⟨te,p1,l1⟩:=ha
 obtain ⟨tf,p2,l2⟩:=hb
 refine ⟨_,WB p1 p2,fun ρ σ H Q r h R k=>l1 ρ σ H _ r h _ fun c H1 s1 q1=>?_⟩
 cases c with
 | true=>exact l2 ρ σ H1 Q (r.mono s1) q1 R fun d H2 s2 q2=>k d H2 (s1.trans s2) q2
 | false=>exact k _ H1 s1 q1
theorem uE (ha:DT X a tA) (hb:DW X (.BoolOp .Or (b::yU) pos) tB):DW X (.BoolOp .Or (a::b::yU) pos) (dOr tA tB):=by
 obtain ⟨te,p1,l1⟩:=ha
 obtain ⟨tf,p2,l2⟩:=hb
 refine ⟨_,Sy p1 p2,fun ρ σ H Q r h R k=>l1 ρ σ H _ r h _ fun c H1 s1 q1=>?_⟩
 cases c with
 | false=>exact l2 ρ σ H1 Q (r.mono s1) q1 R fun d H2 s2 q2=>k d H2 (s1.trans s2) q2
 | true=>exact k _ H1 s1 q1
theorem qe (ha:DT X a tA):DT X (.UnaryOp .Not a pos) (Q1 tA):=by
 obtain ⟨te,p1,l1⟩:=ha
 exact ⟨_,WD p1,fun ρ σ H Q r h R k=>l1 ρ σ H _ r h _ fun c H1 s1 q1=>k _ H1 s1 q1⟩
def R0 (ta tb:DTE):DTE:=fun ρ Q=>ta ρ fun d=>∃ c,d=.bl c∧if c=true then tb ρ Q else Q (.bl false)
def RG (ta:DTE):DTE:=fun ρ Q=>ta ρ fun d=>∃ c,d=.bl c∧Q (.bl (!c))
theorem qi {op} {t:DTE} (h:DE X a t):DE X (.BoolOp op [a] pos) t:=let ⟨_,p,l⟩:=h; ⟨_,WI p,l⟩
theorem vR (ha:DE X a ta) (hb:DE X (.BoolOp .And (b::yU) pos) tb):DE X (.BoolOp .And (a::b::yU) pos) (R0 ta tb):=by
 obtain ⟨te,p1,l1⟩:=ha
 obtain ⟨tf,p2,l2⟩:=hb
 refine ⟨_,WN p1 p2,fun ρ σ H Q r h R k=>l1 ρ σ H _ r h _ fun d v H1 s1 i1 ⟨c,e,q1⟩=>?_⟩
 subst e
 refine ⟨c,is_bl.mp i1,?_⟩
 cases c with
 | true=>exact l2 ρ σ H1 Q (r.mono s1) q1 R fun d v H2 s2 i2 q2=>k d v H2 (s1.trans s2) i2 q2
 | false=>exact k _ _ H1 s1 (is_bl.mpr rfl) q1
theorem TJ (ha:DE X a ta):DE X (.UnaryOp .Not a pos) (RG ta):=by
 obtain ⟨te,p1,l1⟩:=ha
 refine ⟨_,WJ p1,fun ρ σ H Q r h R k=>l1 ρ σ H _ r h _ fun d v H1 s1 i1 ⟨c,e,q1⟩=>?_⟩
 subst e
 exact ⟨c,is_bl.mp i1,k _ _ H1 s1 (is_bl.mpr rfl) q1⟩
end
section
variable {X:Cx} {a b c:Expr} {ta tb tc:DTE} {pos:Pos}
def gI (g:Int→Int→Dt):Dt→Dt→(Dt→Prop)→Prop:=fun d e Q=>∃ i j,d=.int i∧e=.int j∧Q (g i j)
def gIC (C:Int→Int→Prop) (g:Int→Int→Dt):Dt→Dt→(Dt→Prop)→Prop:=fun d e Q=>∃ i j,d=.int i∧e=.int j∧C i j∧Q (g i j)
theorem dX {f:Value→Value→Sem Value} {g:Int→Int→Int} (h:OpR X f (rI0 fun i j=>.int (g i j))):DOp X f (gI fun i j=>.int (g i j)):=by
 refine ⟨_,h,fun H x y d e Q i1 i2 q R k=>?_⟩
 obtain ⟨i,j,rfl,rfl,q⟩:=q
 exact ⟨i,j,is_int.mp i1,is_int.mp i2,k _ _ H (Le.refl H) (is_int.mpr rfl) q⟩
theorem ls {f:Value→Value→Sem Value} {g:Int→Int→Bool} (h:OpR X f (rI0 fun i j=>.bl (g i j))):DOp X f (gI fun i j=>.bl (g i j)):=by
 refine ⟨_,h,fun H x y d e Q i1 i2 q R k=>?_⟩
 obtain ⟨i,j,rfl,rfl,q⟩:=q
 exact ⟨i,j,is_int.mp i1,is_int.mp i2,k _ _ H (Le.refl H) (is_bl.mpr rfl) q⟩
theorem lq {f:Value→Value→Sem Value} {C:Int→Int→Prop} {g:Int→Int→Int} (h:OpR X f (rI C fun i j=>.int (g i j))):DOp X f (gIC C fun i j=>.int (g i j)):=by
 refine ⟨_,h,fun H x y d e Q i1 i2 q R k=>?_⟩
 obtain ⟨i,j,rfl,rfl,hc,q⟩:=q
 exact ⟨i,j,is_int.mp i1,is_int.mp i2,hc,k _ _ H (Le.refl H) (is_int.mpr rfl) q⟩
theorem bD:OpR X (binaryOp .Mult) (rI IntMulOk fun i j=>.int (i*j)):=opI fun _ _ _ _ _ _ _ hc q=>mul_int q hc
theorem yg:DOp X (binaryOp .Add) (gI fun i j=>.int (i+j)):=dX WU
theorem yD:DOp X (binaryOp .Sub) (gI fun i j=>.int (i - j)):=dX WR
theorem yA:DOp X (binaryOp .Mult) (gIC IntMulOk fun i j=>.int (i*j)):=lq bD
theorem tE:DOp X (binaryOp .FloorDiv) (gIC kH fun i j=>.int (i.fdiv j)):=lq iY
def cP (_ j:Int):Prop:=j≠0
theorem vy:DOp X (binaryOp .Mod) (gIC cP fun i j=>.int (i.fmod j)):=lq (C:=cP) bE
theorem cr {c n:Int} (h:(n != 0 && decide (n.natAbs<1073741824))=true):kH c n:=by
 rw [Bool.and_eq_true,bne_iff_ne,decide_eq_true_iff] at h
 exact h
theorem n4 {c n:Int} (h:(n != 0)=true):cP c n:=bne_iff_ne.mp h
theorem R3 {c n:Int} (h:(decide (0≤n) && (decide (n≤1000000) && decide (c.natAbs<18446744073709551616)))=true):Pf c n:=by
 rw [Bool.and_eq_true,Bool.and_eq_true,decide_eq_true_iff,decide_eq_true_iff,decide_eq_true_iff] at h
 exact h
theorem Tg {c n:Int} (h:decide (n.natAbs<9223372036854775808)=true):IntMulOk c n:=by
 rw [decide_eq_true_iff] at h
 exact .of_right (intBits_le_64 (by omega) (by omega))
theorem om {c n:Int} (h:decide (n.natAbs<9223372036854775808)=true):IntMulOk n c:=by
 rw [decide_eq_true_iff] at h
 exact .of_left (intBits_le_64 (by omega) (by omega))
theorem rJ:DOp X (compareOp .Lt) (gI fun i j=>.bl (decide (i<j))):=ls SE
theorem jb:DOp X (compareOp .Gt) (gI fun i j=>.bl (decide (j<i))):=ls SF
theorem SL:DOp X (compareOp .GtE) (gI fun i j=>.bl (decide (j≤i))):=ls SG
def TX (ta:DTE):DTE:=fun ρ Q=>ta ρ fun d=>∃ i,d=.int i∧Q (.int (-i))
theorem yy (ha:DE X a ta):DE X (.UnaryOp .USub a pos) (TX ta):=by
 obtain ⟨te,p1,l1⟩:=ha
 refine ⟨_,SA Wm p1,fun ρ σ H Q r h R k=>l1 ρ σ H _ r h _ fun d v H1 s1 i1 ⟨i,e,q1⟩=>?_⟩
 subst e
 exact ⟨i,is_int.mp i1,k _ _ H1 s1 (is_int.mpr rfl) q1⟩
theorem i9:DOp X (binaryOp .Add) (fun d e Q=>∃ ds es,d=.lst ds∧e=.lst es∧ds.length+es.length≤100000∧Q (.lst (ds++es))):=by
 refine ⟨_,WT,fun H x y d e Q i1 i2 q R k=>?_⟩
 obtain ⟨ds,es,rfl,rfl,hl,q⟩:=q
 obtain ⟨l,xs,rfl,h1,a1⟩:=is_lst.mp i1
 obtain ⟨m,ys,rfl,h2,a2⟩:=is_lst.mp i2
 refine ⟨l,m,xs,ys,rfl,rfl,H.sub _ _ h1,H.sub _ _ h2,by rw [← a1.length,← a2.length]; exact Nat.le_trans hl (by decide),fun p hp=>?_⟩
 have s:=wS hp (.lst (xs++ys))
 exact k _ _ _ s (is_lst.mpr ⟨p,_,rfl,zi,(a1.mono s).append (a2.mono s)⟩) q
def Q2:DTA:=fun _ Q=>Q []
def RX (te:DTE) (t:DTA):DTA:=fun ρ Q=>te ρ fun d=>t ρ fun ds=>Q (d::ds)
variable {es:List Expr} {t:DTA}
theorem zf:DA X [] Q2:=⟨_,ym,fun ρ σ H Q r h R k=>k [] [] H (Le.refl H) (allIs_nil.mpr rfl) h⟩
theorem zb (ha:DE X a ta) (hr:DA X es t) (hs:starEach (a::es) X.env=(false,eval a X.env)::starEach es X.env:=by rfl):DA X (a::es) (RX ta t):=by
 obtain ⟨te,p1,l1⟩:=ha
 obtain ⟨tf,p2,l2⟩:=hr
 exact ⟨_,zH p1 p2 hs,fun ρ σ H Q r h R k=>l1 ρ σ H _ r h _ fun d v H1 s1 i1 q1=>l2 ρ σ H1 _ (r.mono s1) q1 _ fun ds vs H2 s2 i2 q2=>
  k (d::ds) (v::vs) H2 (s1.trans s2) (allIs_cons.mpr ⟨v,vs,rfl,i1.mono s2,i2⟩) q2⟩
def QV (t:DTA):DTE:=fun ρ Q=>t ρ fun ds=>Nat.ble ds.length 1000=true∧Q (.tup ds)
def RK (t:DTA):DTE:=fun ρ Q=>t ρ fun ds=>Nat.ble ds.length 1000=true∧Q (.lst ds)
theorem zG {x1} (h:DA X es t):DE X (.Tuple es x1 pos) (QV t):=by
 obtain ⟨te,p1,l1⟩:=h
 refine ⟨_,pY p1,fun ρ σ H Q r h R k=>l1 ρ σ H _ r h _ fun ds vs H1 s1 i1 ⟨hl,q1⟩=>⟨?_,fun p hp=>?_⟩⟩
 ·rw [← i1.length]; exact Nat.le_trans (Nat.le_of_ble_eq_true hl) (by decide)
 ·have s:=wS hp (.tup vs)
  exact k _ _ _ (s1.trans s) (is_tup.mpr ⟨p,vs,rfl,zi,i1.mono s⟩) q1
theorem vQ (h:DA X es t):DE X (.List es pos) (RK t):=by
 obtain ⟨te,p1,l1⟩:=h
 refine ⟨_,iQ p1,fun ρ σ H Q r h R k=>l1 ρ σ H _ r h _ fun ds vs H1 s1 i1 ⟨hl,q1⟩=>⟨?_,fun p hp=>?_⟩⟩
 ·rw [← i1.length]; exact Nat.le_trans (Nat.le_of_ble_eq_true hl) (by decide)
 ·have s:=wS hp (.lst vs)
  exact k _ _ _ (s1.trans s) (is_lst.mpr ⟨p,vs,rfl,zi,i1.mono s⟩) q1
def lU:Dt→Option (List Dt)
 | .tup ds=>some ds
 | .lst ds=>some ds
 | .scr ns=>some (ns.map .int)
 | _=>none
theorem mm {H:Vw} {d:Dt} {v:V} {ds:List Dt} (h:Is K H.g d v) (e:lU d=some ds):∃ a xs,v=.ref a∧(SqL K H.h a xs∨SqT K H.h a xs)∧AllIs K H.g ds xs:=by
 cases d with
 | tup es=>
  obtain rfl:es=ds:=Option.some.inj e
  obtain ⟨a,xs,rfl,h1,h2⟩:=is_tup.mp h
  exact ⟨a,xs,rfl,.inr (.of (H.sub _ _ h1)),h2⟩
 | lst es=>
  obtain rfl:es=ds:=Option.some.inj e
  obtain ⟨a,xs,rfl,h1,h2⟩:=is_lst.mp h
  exact ⟨a,xs,rfl,.inl (.of (H.sub _ _ h1)),h2⟩
 | scr ns=>
  obtain rfl:ns.map Dt.int=ds:=Option.some.inj e
  obtain ⟨a,rfl,h1⟩:=is_scr.mp h
  exact ⟨a,_,rfl,.inl (H.sub.seq h1),AllIs.ints⟩
 | _=>cases e
def dIx (ta tb:DTE):DTE:=fun ρ Q=>ta ρ fun d=>tb ρ fun e=>∃ ds i d',lU d=some ds∧e=.int i∧atI ds i=some d'∧Q d'
theorem zr (ha:DE X a ta) (hb:DE X b tb) (hs:vv b):DE X (.Subscript a b pos) (dIx ta tb):=by
 obtain ⟨te,p1,l1⟩:=ha
 obtain ⟨tf,p2,l2⟩:=hb
 refine ⟨_,tU dr p1 p2 hs,fun ρ σ H Q r h R k=>l1 ρ σ H _ r h _ fun d v H1 s1 i1 q1=>l2 ρ σ H1 _ (r.mono s1) q1 _ fun e u H2 s2 i2 q2=>?_⟩
 obtain ⟨ds,i,d',e1,e2,e3,q⟩:=q2
 subst e2
 obtain ⟨p,xs,e4,h1,h2⟩:=mm (i1.mono s2) e1
 obtain ⟨w,e5,h3⟩:=h2.atI e3
 rcases h1 with h1 | h1
 ·exact .inl ⟨p,xs,i,w,e4,is_int.mp i2,h1,e5,k d' w H2 (s1.trans s2) h3 q⟩
 ·exact .inr (.inl ⟨p,xs,i,w,e4,is_int.mp i2,h1,e5,k d' w H2 (s1.trans s2) h3 q⟩)
def Q5 (t:DTE):DTE:=fun ρ Q=>t ρ fun d=>∃ ds,lU d=some ds∧Q (.int ds.length)
theorem yG {p:Pos} (hg:Gl X "len") (hm:X.mg "len"=none) (ha:DE X a ta) (hs:starEach [a] X.env=(false,eval a X.env)::starEach [] X.env:=by rfl) (hpl:(backTo pos (starEach [] X.env)).any (·.1)=false:=by rfl):
  DE X (.Call (.Name "len" p) [a] [] pos) (Q5 ta):=by
 obtain ⟨te,p1,l1⟩:=ha
 refine ⟨_,xq uL hg hm PySem.boot_len (zH p1 ym hs) (by decide) (by decide) hs hpl,fun ρ σ H Q r h R k=>l1 ρ σ H _ r h _ fun d v H1 s1 i1 ⟨ds,e,q⟩=>?_⟩
 obtain ⟨a,xs,rfl,h1,h2⟩:=mm i1 e
 exact ⟨a,xs,rfl,h1,by rw [← h2.length]; exact k _ _ H1 s1 (is_int.mpr rfl) q⟩
def ck (xs:List Dt) (lo hi:Option Int):List Dt:=(xs.drop (HT.sIx xs.length 0 lo)).take (HT.sIx xs.length xs.length hi - HT.sIx xs.length 0 lo)
theorem AllIs.cut {G:Hp} {ds:List Dt} {xs:List V} (h:AllIs K G ds xs) (lo hi:Option Int):AllIs K G (ck ds lo hi) (ly xs lo hi):=by
 unfold ck ly
 rw [← h.length]
 exact (h.drop _).take _
abbrev DTO:=DS→(Option Int→Prop)→Prop
def DO (X:Cx) (e:Option Expr) (t:DTO):Prop:=∃ te,PO X e te∧∀ {F:Hp} (ρ:DS) (σ:St) (H:Vw) (Q:Option Int→Prop),Rl X.K (Zx X) F H ρ σ→t ρ Q→∀ R:Option Int→Hp→Prop,(∀ o H',Le H H'→Q o→R o H'.h)→te σ H.h R
def Xz:DTO:=fun _ Q=>Q none
def RD (t:DTE):DTO:=fun ρ Q=>t ρ fun d=>∃ i,d=.int i∧Q (some i)
theorem Xl:DO X none Xz:=⟨_,br,fun ρ σ H Q r h R k=>k none H (Le.refl H) h⟩
theorem wB (ha:DE X a ta):DO X (some a) (RD ta):=by
 obtain ⟨te,p1,l1⟩:=ha
 refine ⟨_,bq p1,fun ρ σ H Q r h R k=>l1 ρ σ H _ r h _ fun d v H1 s1 i1 ⟨i,e,q⟩=>?_⟩
 subst e
 exact ⟨i,is_int.mp i1,k _ H1 s1 q⟩
def wx:Dt→Option (List Dt)
 | .lst ds=>some ds
 | .scr ns=>some (ns.map .int)
 | _=>none
theorem ou {H:Vw} {d:Dt} {v:V} {ds:List Dt} (h:Is K H.g d v) (e:wx d=some ds):∃ a xs,v=.ref a∧SqL K H.h a xs∧AllIs K H.g ds xs:=by
 cases d with
 | lst es=>
  obtain rfl:es=ds:=Option.some.inj e
  obtain ⟨a,xs,rfl,h1,h2⟩:=is_lst.mp h
  exact ⟨a,xs,rfl,.of (H.sub _ _ h1),h2⟩
 | scr ns=>
  obtain rfl:ns.map Dt.int=ds:=Option.some.inj e
  obtain ⟨a,rfl,h1⟩:=is_scr.mp h
  exact ⟨a,_,rfl,H.sub.seq h1,AllIs.ints⟩
 | _=>cases e
def dSl (te:DTE) (tl th:DTO):DTE:=fun ρ Q=>te ρ fun d=>tl ρ fun l=>th ρ fun u=>∃ ds,wx d=some ds∧Q (.lst (ck ds l u))
theorem d9 {lo hi:Option Expr} {tl th:DTO} {p2:Pos} (ha:DE X a ta) (hl:DO X lo tl) (hu:DO X hi th):DE X (.Subscript a (.Slice lo hi none p2) pos) (dSl ta tl th):=by
 obtain ⟨te,p1,l1⟩:=ha
 obtain ⟨tf,p2,l2⟩:=hl
 obtain ⟨tg,p3,l3⟩:=hu
 refine ⟨_,iO c6 p1 p2 p3,fun ρ σ H Q r h R k=>l1 ρ σ H _ r h _ fun d v H1 s1 i1 q1=>l2 ρ σ H1 _ (r.mono s1) q1 _ fun l H2 s2 q2=>l3 ρ σ H2 _ (r.mono (s1.trans s2)) q2 _ fun u H3 s3 ⟨ds,e,q⟩=>?_⟩
 obtain ⟨a,xs,rfl,h1,h2⟩:=ou (i1.mono (s2.trans s3)) e
 refine ⟨a,xs,rfl,h1,fun p hp=>?_⟩
 have s:=wS hp (.lst (ly xs l u))
 exact k _ _ _ (((s1.trans s2).trans s3).trans s) (is_lst.mpr ⟨p,_,rfl,zi,(h2.cut l u).mono s⟩) q
end
def LiF (K:PySem.W.Frag) (Z:Hp) (te:TE) (t:DTE):Prop:=
 ∀ {F:Hp} (ρ:DS) (σ:St) (H:Vw) (Q:Dt→Prop),Rl K Z F H ρ σ→t ρ Q→∀ R:VK,
  (∀ es p xs H',Le H H'→H.h p=none→H'.h p=some (.lst xs)→H'.g p=none→AllIs K H'.g es xs→Q (.lst es)→R (.ref p) H'.h)→te σ H.h R
def DF (X:Cx) (e:Expr) (t:DTE):Prop:=∃ te,PE X e te∧LiF X.K (Zx X) te t
theorem wT {H H':Vw} {p:Addr} {o:HO} (s:Le H H') (h0:H.h p=none) (h1:H'.h p=some o) (h2:H'.g p=none):Le H (H'.frz p o h1):=
 ⟨s.g.trans (zC h2 o),s.h,fun a z1 z2=>by
  have:a≠p:=fun e=>z1 (e ▸ h0)
  show upd H'.g p o a=none
  rw [zo this]; exact s.n a z1 z2⟩
section
variable {X:Cx} {a b c e:Expr} {ta tb tc:DTE} {t:DTA} {pos p0 p1 p2:Pos} {es:List Expr}
theorem DF.de {t:DTE} (h:DF X e t):DE X e t:=by
 obtain ⟨te,p,l⟩:=h
 exact ⟨te,p,fun ρ σ H Q r h R k=>l ρ σ H Q r h R fun es q xs H' s h0 h1 h2 i z=>k (.lst es) (.ref q) (H'.frz q _ h1) (wT s h0 h1 h2) (is_lst.mpr ⟨q,xs,rfl,zi,AllIs.mono0 (zC h2 _) i⟩) z⟩
theorem w9 (h:DA X es t):DF X (.List es pos) (RK t):=by
 obtain ⟨te,p1,l1⟩:=h
 refine ⟨_,iQ p1,fun ρ σ H Q r h R k=>l1 ρ σ H _ r h _ fun ds vs H1 s1 i1 ⟨hl,q1⟩=>⟨?_,fun p hp=>?_⟩⟩
 ·rw [← i1.length]; exact Nat.le_trans (Nat.le_of_ble_eq_true hl) (by decide)
 ·exact k ds p vs (H1.mine p (.lst vs) (H1.sub.free hp)) (s1.trans (yc hp _)) (s1.h.free hp) zi (H1.sub.free hp) i1 q1
theorem AllIs.rep {G:Hp} {ds:List Dt} {xs:List V} (h:AllIs K G ds xs):∀ k:Nat,AllIs K G (List.replicate k ds).flatten (List.replicate k xs).flatten
 | 0=>allIs_nil.mpr rfl
 | k+1=>by
  rw [List.replicate_succ,List.replicate_succ,List.flatten_cons,List.flatten_cons]
  exact h.append (h.rep k)
def QO:Dt→Dt→(Dt→Prop)→Prop:=fun d e Q=>∃ ds k,d=.lst ds∧e=.int k∧-16000000≤k∧k≤16000000∧ds.length*k.toNat≤16000000∧Q (.lst (List.replicate k.toNat ds).flatten)
theorem lu (ha:DE X a ta) (hb:DE X b tb):DF X (.BinOp a .Mult b pos) (dOp QO ta tb):=by
 obtain ⟨te,p1,l1⟩:=ha
 obtain ⟨tf,p2,l2⟩:=hb
 refine ⟨_,XT WS p1 p2,fun ρ σ H Q r h R k=>l1 ρ σ H _ r h _ fun d v H1 s1 i1 q1=>l2 ρ σ H1 _ (r.mono s1) q1 _ fun e u H2 s2 i2 q2=>?_⟩
 obtain ⟨ds,n,rfl,rfl,hn1,hn2,hl,q⟩:=q2
 obtain ⟨l,xs,rfl,h1,a1⟩:=is_lst.mp (i1.mono s2)
 refine ⟨l,n,xs,rfl,is_int.mp i2,H2.sub _ _ h1,by omega,by omega,by rw [← a1.length]; exact Nat.le_trans hl (by decide),fun p hp=>?_⟩
 exact k _ p _ (H2.mine p _ (H2.sub.free hp)) ((s1.trans s2).trans (yc hp _)) ((s1.trans s2).h.free hp) zi (H2.sub.free hp) (a1.rep _) q
def RL (ta:DTE):DTE:=fun ρ Q=>ta ρ fun d=>∃ ds,lU d=some ds∧Q (.lst ds)
theorem y8 (hg:Gl X "list") (hm:X.mg "list"=none) (ha:DE X a ta) (hs:starEach [a] X.env=(false,eval a X.env)::starEach [] X.env:=by rfl) (hpl:(backTo pos (starEach [] X.env)).any (·.1)=false:=by rfl):
  DF X (.Call (.Name "list" p0) [a] [] pos) (RL ta):=by
 obtain ⟨te,p1,l1⟩:=ha
 refine ⟨_,k_ oK hg hm PyProof.Rows.boot_list (zH p1 ym hs) (by decide) (by decide) hs hpl,fun ρ σ H Q r h R k=>l1 ρ σ H _ r h _ fun d v H1 s1 i1 ⟨ds,e,q⟩=>?_⟩
 obtain ⟨a,xs,rfl,h1,h2⟩:=mm i1 e
 exact ⟨a,xs,rfl,h1,fun p hp=>k _ p _ (H1.mine p _ (H1.sub.free hp)) (s1.trans (yc hp _)) (s1.h.free hp) zi (H1.sub.free hp) h2 q⟩
variable {i:Nat} {x:Str}
def Wb (i:Nat):DTE:=fun ρ Q=>∃ ds,ρ[i]? = some (.own ds)∧Q (.int ds.length)
theorem uJ (i:Nat) (hg:Gl X "len") (hm:X.mg "len"=none) (hN:X.N[i]? = some x:=by rfl) (hv:Vis X.env.scope x:=by first | exact Or.inl rfl | exact Or.inr (Or.inl rfl) | exact Or.inr (Or.inr rfl)) (hd:(x == ("__debug__":Str))=false:=by decide)
  (hcd:(x == ("__classdict__":Str))=false:=by decide) (hs:starEach [.Name x p1] X.env=(false,eval (.Name x p1) X.env)::starEach [] X.env:=by rfl) (hpl:(backTo pos (starEach [] X.env)).any (·.1)=false:=by rfl):
  DE X (.Call (.Name "len" p0) [.Name x p1] [] pos) (Wb i):=by
 refine ⟨_,xq uL hg hm PySem.boot_len (zH (zQ hN hv hd hcd) ym hs) (by decide) (by decide) hs hpl,fun ρ σ H Q r h R k=>?_⟩
 obtain ⟨ds,e,q⟩:=h
 obtain ⟨a,xs,e1,e2,e3,e4,e5⟩:=r.ow i ds e
 exact ⟨.ref a,e1,a,xs,rfl,.inl (.of e2),by rw [← e5.length]; exact k _ _ H (Le.refl H) (is_int.mpr rfl) q⟩
def T0 (i:Nat) (tb:DTE):DTE:=fun ρ Q=>∃ ds,ρ[i]? = some (.own ds)∧tb ρ fun e=>∃ k d,e=.int k∧atI ds k=some d∧Q d
theorem qj (i:Nat) (hb:DE X b tb) (hs:vv b) (hN:X.N[i]? = some x:=by rfl) (hv:Vis X.env.scope x:=by first | exact Or.inl rfl | exact Or.inr (Or.inl rfl) | exact Or.inr (Or.inr rfl)) (hd:(x == ("__debug__":Str))=false:=by decide)
  (hcd:(x == ("__classdict__":Str))=false:=by decide):DE X (.Subscript (.Name x p1) b pos) (T0 i tb):=by
 obtain ⟨tf,p2,l2⟩:=hb
 refine ⟨_,tU ix_list (zQ hN hv hd hcd) p2 hs,fun ρ σ H Q r h R k=>?_⟩
 obtain ⟨ds,e,h⟩:=h
 obtain ⟨a,xs,e1,e2,e3,e4,e5⟩:=r.ow i ds e
 refine ⟨.ref a,e1,l2 ρ σ H _ r h _ fun e u H2 s2 i2 ⟨n,d,en,ed,q⟩=>?_⟩
 subst en
 obtain ⟨v,ev,iv⟩:=e5.atI ed
 exact ⟨a,xs,n,v,rfl,is_int.mp i2,.of (s2.h _ _ e2),ev,k d v H2 s2 (iv.mono s2) q⟩
def X_ (i:Nat):DTT:=fun ρ Q=>∃ ds,ρ[i]? = some (.own ds)∧Q (!ds.isEmpty)
theorem sd {G:Hp} {ds:List Dt} {xs:List V} (h:AllIs K G ds xs):(!xs.isEmpty)=!ds.isEmpty:=by
 cases ds with
 | nil=>rw [allIs_nil.mp h]; rfl
 | cons d ds=>obtain ⟨x,r,rfl,_⟩:=allIs_cons.mp h; rfl
theorem Xf (i:Nat) (hN:X.N[i]? = some x:=by rfl) (hv:Vis X.env.scope x:=by first | exact Or.inl rfl | exact Or.inr (Or.inl rfl) | exact Or.inr (Or.inr rfl)) (hd:(x == ("__debug__":Str))=false:=by decide)
  (hcd:(x == ("__classdict__":Str))=false:=by decide) (he:∀ whole,isTrue (.Name x p1) X.env whole=(do let v ← whole; standAt (Expr.Name x p1).pos; holding [v] (truthy v)):=by intro _; rfl):DT X (.Name x p1) (X_ i):=by
 refine ⟨_,o_ (zQ hN hv hd hcd) he,fun ρ σ H Q r h R k=>?_⟩
 obtain ⟨ds,e,q⟩:=h
 obtain ⟨a,xs,e1,e2,e3,e4,e5⟩:=r.ow i ds e
 exact ⟨.ref a,e1,!ds.isEmpty,.inl ⟨xs,.of e2,(sd e5).symm⟩,k _ H (Le.refl H) q⟩
def QX (ta:DTE):DTT:=fun ρ Q=>ta ρ fun d=>∃ ds,wx d=some ds∧Q (!ds.isEmpty)
theorem Tv (ha:DE X a ta) (he:∀ whole,isTrue a X.env whole=(do let v ← whole; standAt a.pos; holding [v] (truthy v)):=by intro _; rfl):DT X a (QX ta):=by
 obtain ⟨te,p1,l1⟩:=ha
 refine ⟨_,o_ p1 he,fun ρ σ H Q r h R k=>l1 ρ σ H _ r h _ fun d v H1 s1 i1 ⟨ds,e,q⟩=>?_⟩
 obtain ⟨a,xs,rfl,h1,h2⟩:=ou i1 e
 exact ⟨!ds.isEmpty,.inl ⟨xs,h1,(sd h2).symm⟩,k _ H1 s1 q⟩
open Classical in
def XR:Dt→Bool
 | .non=>true | .bl _=>true | .int _=>true | .str _=>true | _=>false
end
abbrev DSp:=List Dt→(Dt→Prop)→Prop
def zp (K:PySem.W.Frag) (S:DSp):Sp:=fun vs H Q _=>∃ (W:Vw) (ds:List Dt) (Qd:Dt→Prop),W.h=H∧AllIs K W.g ds vs∧S ds Qd∧∀ d v W',Le W W'→Is K W'.g d v→Qd d→Q v W'.h
def y_ (K:PySem.W.Frag) (S:DSp):Sp:=fun vs H Q _=>∃ (W:Vw) (ds:List Dt) (Qd:Dt→Prop),W.h=H∧AllIs K W.g ds vs∧S ds Qd∧
 ∀ es p xs W',Le W W'→W.h p=none→W'.h p=some (.lst xs)→W'.g p=none→AllIs K W'.g es xs→Qd (.lst es)→Q (.ref p) W'.h
structure DOk (P:Program) (w:World) (K:PySem.W.Frag) (mg:Str→Option Value) (base:Heap) (n:Nat) (x:Str) (S:DSp):Prop where
 ex:∃ f fd ps,mg x=some (.ref f)∧PySem.W.keepIn K (.ref f)=true∧Binds K fd ps []∧FnOk P w K mg base CX0 n f fd ps (zp K S)
structure FOk (P:Program) (w:World) (K:PySem.W.Frag) (mg:Str→Option Value) (base:Heap) (n:Nat) (x:Str) (S:DSp):Prop where
 ex:∃ f fd ps,mg x=some (.ref f)∧PySem.W.keepIn K (.ref f)=true∧Binds K fd ps []∧FnOk P w K mg base CX0 n f fd ps (y_ K S)
structure MOk (P:Program) (w:World) (K:PySem.W.Frag) (mg:Str→Option Value) (base:Heap) (n:Nat) (C:Addr) (m:Str) (S:DSp):Prop where
 cl:Cls K C
 ex:∃ f fd ps,lJ K C m f∧Binds K fd ps []∧FnOk P w K mg base CX0 n f fd ps (zp K S)
structure FMOk (P:Program) (w:World) (K:PySem.W.Frag) (mg:Str→Option Value) (base:Heap) (n:Nat) (C:Addr) (m:Str) (S:DSp):Prop where
 cl:Cls K C
 ex:∃ f fd ps,lJ K C m f∧Binds K fd ps []∧FnOk P w K mg base CX0 n f fd ps (y_ K S)
section
variable {X:Cx} {a b c e o:Expr} {ta tb tc:DTE} {pos p apos:Pos} {es:List Expr} {t:DTA} {n:Nat} {x m:Str} {S:DSp}
def Wc (S:DSp) (t:DTA):DTE:=fun ρ Q=>t ρ fun ds=>S ds Q
theorem zj (G:DOk X.prog X.w X.K X.mg X.base n x S) (hr:Room n X.A) (hg:Gl X x) (ha:DA X (e::es) t) (hdb:(x == ("__debug__":Str))=false:=by decide)
  (he:starEach (e::es) X.env=(false,eval e X.env)::starEach es X.env:=by rfl) (hpl:(backTo pos (starEach es X.env)).any (·.1)=false:=by rfl):DE X (.Call (.Name x p) (e::es) [] pos) (Wc S t):=by
 obtain ⟨f,fd,ps,hm,hk,hb,F⟩:=G.ex
 obtain ⟨te,p1,l1⟩:=ha
 refine ⟨_,vh F hr hg hm hk hb .nil qZ p1 hdb he hpl,fun ρ σ H Q r h R k=>l1 ρ σ H _ r h _ fun ds vs H1 s1 i1 q1=>?_⟩
 rw [List.append_nil]
 exact ⟨H1,ds,Q,rfl,i1,q1,fun d v H2 s2 i2 q2=>k d v H2 (s1.trans s2) i2 q2⟩
theorem sS (G:FOk X.prog X.w X.K X.mg X.base n x S) (hr:Room n X.A) (hg:Gl X x) (ha:DA X (e::es) t) (hdb:(x == ("__debug__":Str))=false:=by decide)
  (he:starEach (e::es) X.env=(false,eval e X.env)::starEach es X.env:=by rfl) (hpl:(backTo pos (starEach es X.env)).any (·.1)=false:=by rfl):DF X (.Call (.Name x p) (e::es) [] pos) (Wc S t):=by
 obtain ⟨f,fd,ps,hm,hk,hb,F⟩:=G.ex
 obtain ⟨te,p1,l1⟩:=ha
 refine ⟨_,vh F hr hg hm hk hb .nil qZ p1 hdb he hpl,fun ρ σ H Q r h R k=>l1 ρ σ H _ r h _ fun ds vs H1 s1 i1 q1=>?_⟩
 rw [List.append_nil]
 exact ⟨H1,ds,Q,rfl,i1,q1,fun es p xs H2 s2 h0 h1 h2 i2 q2=>k es p xs H2 (s1.trans s2) (s1.h.free h0) h1 h2 i2 q2⟩
def ip (X:Cx) (n:Nat) (m:Str) (ta:TE) (t:TA):TE:=fun σ H Q=>ta σ H fun x H1=>∃ a dx fs C f fd ps sp,x=.ref a∧H1 a=some (.ins C dx fs)∧fs.lookup m=none∧Cls X.K C∧lJ X.K C m f∧Binds X.K fd ps []∧
 FnOk X.prog X.w X.K X.mg X.base CX0 n f fd ps sp∧t σ H1 fun vs H2=>sp (x::vs) H2 Q E0
theorem iP {pl:Sem Bool} {te:TE} {tt:TA} (he:PE X o te) (hr:Room n X.A) (ha:PA X (e::es) tt)
  (hst:starEach (e::es) X.env=(false,eval e X.env)::starEach es X.env:=by rfl) (hpl:(backTo pos (starEach es X.env)).any (·.1)=false:=by rfl)
  (ht:eval (.Call (.Attribute o m apos) (e::es) [] pos) X.env=(do
   let ov ← eval o X.env
   standAt apos.atName
   let (f,first) ← holding [ov] (getMethod ov m pl)
   callWith pos f first (backTo pos (starEach (e::es) X.env)) (backToKw pos (keywordEach [] X.env))):=by rfl):
  PE X (.Call (.Attribute o m apos) (e::es) [] pos) (ip X n m te tt):=by
 intro pins s σ H Q I h
 refine PySem.W.methodCall_KW (pl:=pl) (thn (he pins s σ H _ I h) fun u s1 ⟨x,H1,I1,rx,a,dx,fs,C,f,fd,ps,sp,ex,ea,l,c,hm,hb,F,q⟩=>?_) ht
 subst ex
 obtain rfl:u=Value.ref a:=rx
 refine vP I1 ea c hm l ?_
 refine PySem.W.callWith_K (first:=[.ref a]) (h₀:=X.base) I.ok.mod.kin hm.kp (thn (ha pos pins s1 σ H1 _ I1 q) fun us s2 ⟨vs,H2,I2,r,q2⟩=>⟨I2.kIn,?_⟩) hst hpl
 exact pU (us:=.ref a::us) (vs:=.ref a::vs) (dvs:=[]) (E:=E0) F hr hb .nil qZ I2 (.cons rfl r) (by rw [List.append_nil]; exact q2)
theorem qX {pl:Sem Bool} {te:TE} (he:PE X o te) (hr:Room n X.A)
  (ht:eval (.Call (.Attribute o m apos) [] [] pos) X.env=(do
   let ov ← eval o X.env
   standAt apos.atName
   let (f,first) ← holding [ov] (getMethod ov m pl)
   callWith pos f first (backTo pos (starEach [] X.env)) (backToKw pos (keywordEach [] X.env))):=by rfl):
  PE X (.Call (.Attribute o m apos) [] [] pos) (ip X n m te Sh):=by
 intro pins s σ H Q I h
 refine PySem.W.methodCall_KW (pl:=pl) (thn (he pins s σ H _ I h) fun u s1 ⟨x,H1,I1,rx,a,dx,fs,C,f,fd,ps,sp,ex,ea,l,c,hm,hb,F,q⟩=>?_) ht
 subst ex
 obtain rfl:u=Value.ref a:=rx
 refine vP I1 ea c hm l ?_
 exact PySem.W.callWith_K0 (first:=[.ref a]) I1.kIn hm.kp (pU (us:=[.ref a]) (vs:=[.ref a]) (dvs:=[]) (E:=E0) F hr hb .nil qZ I1 (.cons rfl .nil) q)
def RI (X:Cx) (n:Nat) (m:Str) (ta:DTE) (t:DTA):DTE:=fun ρ Q=>ta ρ fun d=>∃ C f k S,d=.way C f k∧(m == f)=false∧MOk X.prog X.w X.K X.mg X.base n C m S∧t ρ fun ds=>S (d::ds) Q
theorem xG {pl:Sem Bool} (hr:Room n X.A) (he:DE X o ta) (ha:DA X (e::es) t)
  (hst:starEach (e::es) X.env=(false,eval e X.env)::starEach es X.env:=by rfl) (hpl:(backTo pos (starEach es X.env)).any (·.1)=false:=by rfl)
  (ht:eval (.Call (.Attribute o m apos) (e::es) [] pos) X.env=(do
   let ov ← eval o X.env
   standAt apos.atName
   let (f,first) ← holding [ov] (getMethod ov m pl)
   callWith pos f first (backTo pos (starEach (e::es) X.env)) (backToKw pos (keywordEach [] X.env))):=by rfl):
  DE X (.Call (.Attribute o m apos) (e::es) [] pos) (RI X n m ta t):=by
 obtain ⟨te,p0,l0⟩:=he
 obtain ⟨tt,p1,l1⟩:=ha
 refine ⟨_,iP (pl:=pl) p0 hr p1 hst hpl ht,fun ρ σ H Q r h R k=>l0 ρ σ H _ r h _ fun d v H1 s1 i1 ⟨C,f,z,S,ed,hne,M,q1⟩=>?_⟩
 subst ed
 obtain ⟨a,dx,rfl,ha⟩:=is_way.mp i1
 obtain ⟨g,fd,ps,hm,hb,F⟩:=M.ex
 refine ⟨a,dx,_,C,g,fd,ps,_,rfl,H1.sub _ _ ha,by simp [List.lookup,hne],M.cl,hm,hb,F,l1 ρ σ H1 _ (r.mono s1) q1 _ fun ds vs H2 s2 i2 q2=>?_⟩
 exact ⟨H2,_,Q,rfl,allIs_cons.mpr ⟨_,_,rfl,i1.mono s2,i2⟩,q2,fun d v H3 s3 i3 q3=>k d v H3 ((s1.trans s2).trans s3) i3 q3⟩
def TY (X:Cx) (n:Nat) (m:Str) (ta:DTE):DTE:=fun ρ Q=>ta ρ fun d=>∃ C f k S,d=.way C f k∧(m == f)=false∧MOk X.prog X.w X.K X.mg X.base n C m S∧S [d] Q
theorem uI {pl:Sem Bool} (hr:Room n X.A) (he:DE X o ta)
  (ht:eval (.Call (.Attribute o m apos) [] [] pos) X.env=(do
   let ov ← eval o X.env
   standAt apos.atName
   let (f,first) ← holding [ov] (getMethod ov m pl)
   callWith pos f first (backTo pos (starEach [] X.env)) (backToKw pos (keywordEach [] X.env))):=by rfl):
  DE X (.Call (.Attribute o m apos) [] [] pos) (TY X n m ta):=by
 obtain ⟨te,p0,l0⟩:=he
 refine ⟨_,qX (pl:=pl) p0 hr ht,fun ρ σ H Q r h R k=>l0 ρ σ H _ r h _ fun d v H1 s1 i1 ⟨C,f,z,S,ed,hne,M,q1⟩=>?_⟩
 subst ed
 obtain ⟨a,dx,rfl,ha⟩:=is_way.mp i1
 obtain ⟨g,fd,ps,hm,hb,F⟩:=M.ex
 refine ⟨a,dx,_,C,g,fd,ps,_,rfl,H1.sub _ _ ha,by simp [List.lookup,hne],M.cl,hm,hb,F,?_⟩
 exact ⟨H1,_,Q,rfl,allIs_cons.mpr ⟨_,_,rfl,i1,allIs_nil.mpr rfl⟩,q1,fun d v H3 s3 i3 q3=>k d v H3 (s1.trans s3) i3 q3⟩
def Q8 (K:PySem.W.Frag) (f:Str) (ta:DTE):DTE:=fun ρ Q=>ta ρ fun d=>∃ C g k,d=.way C g k∧(f == g)=true∧Cls K C∧NoAttr K C f∧Q (.int k)
theorem zZ {f:Str} (ha:DE X a ta) (hb:attributeBase a f X.env (eval a X.env)=eval a X.env:=by rfl):DE X (.Attribute a f pos) (Q8 X.K f ta):=by
 obtain ⟨te,p1,l1⟩:=ha
 refine ⟨_,iR p1 hb,fun ρ σ H Q r h R k=>l1 ρ σ H _ r h _ fun d v H1 s1 i1 ⟨C,g,z,ed,hfg,hc,hn,q1⟩=>?_⟩
 subst ed
 obtain ⟨p,dx,rfl,hp⟩:=is_way.mp i1
 exact ⟨p,C,dx,_,.int z,rfl,H1.sub _ _ hp,hc,hn,by simp [List.lookup,hfg],k _ _ H1 s1 (is_int.mpr rfl) q1⟩
def vf (C:Addr) (f:Str) (ok:Int→Prop):Sp:=fun vs H Q _=>∃ p dx i,vs=[.ref p,.int i]∧H p=some (.ins C dx [])∧ok i∧∀ H':Hp,H' p=some (.ins C dx [(f,.int i)])→(∀ b o,H b=some o→b≠p→H' b=some o)→Q .non H'
structure KOk (P:Program) (w:World) (K:PySem.W.Frag) (mg:Str→Option Value) (base:Heap) (n:Nat) (x:Str) (C:Addr) (f:Str) (ok:Int→Prop):Prop where
 ex:∃ g fd ps,mg x=some (.ref C)∧Mk K C g∧Binds K fd ps []∧FnOk P w K mg base CX0 n g fd ps (vf C f ok)
def RJ (C:Addr) (f:Str) (ok:Int→Prop) (t:DTA):DTE:=fun ρ Q=>t ρ fun ds=>∃ i,ds=[.int i]∧ok i∧Q (.way C f i)
theorem sT {C:Addr} {f:Str} {ok:Int→Prop} (G:KOk X.prog X.w X.K X.mg X.base n x C f ok) (hr:Room (n+1) X.A) (hg:Gl X x) (ha:DA X (e::es) t) (hdb:(x == ("__debug__":Str))=false:=by decide)
  (he:starEach (e::es) X.env=(false,eval e X.env)::starEach es X.env:=by rfl) (hpl:(backTo pos (starEach es X.env)).any (·.1)=false:=by rfl):DE X (.Call (.Name x p) (e::es) [] pos) (RJ C f ok t):=by
 obtain ⟨g,fd,ps,hm,M,hb,F⟩:=G.ex
 obtain ⟨te,p1,l1⟩:=ha
 refine ⟨_,lZ M F hr hg hm hb .nil qZ p1 hdb he hpl,fun ρ σ H Q r h R k=>l1 ρ σ H _ r h _ fun ds vs H1 s1 i1 ⟨i,ed,hok,q1⟩ y dy ny ndy ne=>?_⟩
 subst ed
 obtain ⟨v,rfl,hv⟩:=i1.one
 obtain rfl:=is_int.mp hv
 refine ⟨y,dy,i,rfl,zi,hok,fun H' e1 e2=>⟨rfl,?_⟩⟩
 have keep:Same H1.h H':=fun b o hb=>e2 b o (by rw [zo (zD hb ny),zo (zD hb ndy)]; exact hb) (zD hb ny)
 have gy:H1.g y=none:=H1.sub.free ny
 exact k _ _ ⟨upd H1.g y (.ins C dy [(f,.int i)]),H',fun b u q=>by
   by_cases e:b=y
   ·subst e; rw [zi] at q; rw [e1]; exact q
   ·rw [zo e] at q; exact keep _ _ (H1.sub _ _ q)⟩
  (s1.trans ⟨zC gy _,keep,fun a z1 z2=>by
   have:a≠y:=fun e=>z1 (e ▸ ny)
   show upd H1.g y _ a=none
   rw [zo this]; exact z2⟩) (is_way.mpr ⟨y,dy,rfl,zi⟩) q1
structure XG (K:PySem.W.Frag):Prop where
 ib:PySem.W.kitOne K (.type "int") (.type "bool")=some false
 it:PySem.W.kitOne K (.type "int") (.type "tuple")=some false
 il:PySem.W.kitOne K (.type "int") (.type "list")=some false
 bi:PySem.W.kitOne K (.type "bool") (.type "int")=some true
 bt:PySem.W.kitOne K (.type "bool") (.type "tuple")=some false
 bl:PySem.W.kitOne K (.type "bool") (.type "list")=some false
 ti:PySem.W.kitOne K (.type "tuple") (.type "int")=some false
 tb:PySem.W.kitOne K (.type "tuple") (.type "bool")=some false
 tl:PySem.W.kitOne K (.type "tuple") (.type "list")=some false
 li:PySem.W.kitOne K (.type "list") (.type "int")=some false
 lb:PySem.W.kitOne K (.type "list") (.type "bool")=some false
 lt:PySem.W.kitOne K (.type "list") (.type "tuple")=some false
theorem uw {K:PySem.W.Frag} {t:Value}:PySem.W.kitOne K t t=some true:=by
 unfold PySem.W.kitOne
 rw [if_pos (beq_self_eq_true t)]
theorem Tk {K:PySem.W.Frag} {t c:String} {b:Bool} (h1:(Value.type t == Value.type c)=false) (h2:PySem.W.kitMeta c=true) (h3:(fastBuiltinMro t).map (·.contains (Value.type c))=some b):PySem.W.kitOne K (.type t) (.type c)=some b:=by
 unfold PySem.W.kitOne PySem.W.kitCls
 rw [if_neg (by rw [h1]; decide)]
 show (if PySem.W.kitMeta c=true then PySem.W.subIn K (.type t) (.type c) else none)=some b
 rw [if_pos h2]
 exact h3
theorem QF (K:PySem.W.Frag):XG K:=by
 constructor <;> exact Tk (by decide +kernel) (by decide +kernel) (by decide +kernel)
inductive TyN where | int | bool | tuple | list
def TyN.str:TyN→String
 | .int=>"int" | .bool=>"bool" | .tuple=>"tuple" | .list=>"list"
def Ri:Dt→TyN→Option Bool
 | .int _,.int=>some true | .int _,.bool=>some false | .int _,.tuple=>some false | .int _,.list=>some false
 | .bl _,.int=>some true | .bl _,.bool=>some true | .bl _,.tuple=>some false | .bl _,.list=>some false
 | .tup _,.int=>some false | .tup _,.bool=>some false | .tup _,.tuple=>some true | .tup _,.list=>some false
 | .lst _,.int=>some false | .lst _,.bool=>some false | .lst _,.tuple=>some false | .lst _,.list=>some true
 | _,_=>none
theorem Tq {H:Vw} {d:Dt} {v:V} {T:TyN} {b:Bool} (kt:XG K) (h:Is K H.g d v) (e:Ri d T=some b):∃ tv,vV K H.h v tv∧PySem.W.kitOne K tv (.type T.str)=some b:=by
 cases d with
 | int i=>
  obtain rfl:=is_int.mp h
  refine ⟨_,.int i,?_⟩
  cases T <;> (obtain rfl:=Option.some.inj e; first | exact uw | exact kt.ib | exact kt.it | exact kt.il)
 | bl i=>
  obtain rfl:=is_bl.mp h
  refine ⟨_,.bl i,?_⟩
  cases T <;> (obtain rfl:=Option.some.inj e; first | exact uw | exact kt.bi | exact kt.bt | exact kt.bl)
 | tup ds=>
  obtain ⟨a,xs,rfl,h1,_⟩:=is_tup.mp h
  refine ⟨_,.tup (H.sub _ _ h1),?_⟩
  cases T <;> (obtain rfl:=Option.some.inj e; first | exact uw | exact kt.ti | exact kt.tb | exact kt.tl)
 | lst ds=>
  obtain ⟨a,xs,rfl,h1,_⟩:=is_lst.mp h
  refine ⟨_,.lst (H.sub _ _ h1),?_⟩
  cases T <;> (obtain rfl:=Option.some.inj e; first | exact uw | exact kt.li | exact kt.lb | exact kt.lt)
 | _=>cases T <;> cases e
theorem cv:CallR X (.builtin "isinstance") (fun xs H Q=>∃ v T tv b,xs=[v,.ty T]∧vV X.K H v tv∧PySem.W.kitOne X.K tv (.type T)=some b∧Q (.bl b) H):=by
 intro pins s σ H xs us Q I r h
 obtain ⟨v,T,tv,b,rfl,hty,hk,q⟩:=h
 cases r with
 | cons r1 r2=>
  cases r2 with
  | cons r3 r4=>
   cases r4
   cases r3
   exact q_ I r1 hty hk fun tk=>⟨.bl b,H,I.tok _,rfl,q⟩
def Q6 (T:TyN) (ta:DTE):DTE:=fun ρ Q=>ta ρ fun d=>∃ b,Ri d T=some b∧Q (.bl b)
theorem lv {T:TyN} {y:Str} {p':Pos} (kt:XG X.K) (hm:X.mg "isinstance"=none) (hmc:X.mg y=none) (hv:bootBuiltins y=some (.type T.str)) (ha:DE X a ta)
  (hg:Gl X "isinstance":=by rfl) (hgc:Gl X y:=by rfl) (hny:y≠"__name__":=by decide) (hdy:(y == ("__debug__":Str))=false:=by decide)
  (hs:starEach [a,.Name y p'] X.env=(false,eval a X.env)::starEach [.Name y p'] X.env:=by rfl) (hs2:starEach [.Name y p'] X.env=(false,eval (.Name y p') X.env)::starEach [] X.env:=by rfl)
  (hpl:(backTo pos (starEach [.Name y p'] X.env)).any (·.1)=false:=by rfl):
  DE X (.Call (.Name "isinstance" p) [a,.Name y p'] [] pos) (Q6 T ta):=by
 obtain ⟨te,p1,l1⟩:=ha
 have pc:PE X (.Name y p') (tC (.ty T.str)):=bA hgc hmc hv rfl hny hdy
 refine ⟨_,xq cv hg hm boot_isinstance (zH p1 (zH pc ym hs2) hs) (by decide) (by decide) hs hpl,fun ρ σ H Q r h R k=>l1 ρ σ H _ r h _ fun d v H1 s1 i1 ⟨b,e,q⟩=>?_⟩
 obtain ⟨tv,h1,h2⟩:=Tq kt i1 e
 exact ⟨v,T.str,tv,b,rfl,h1,h2,k _ _ H1 s1 (is_bl.mpr rfl) q⟩
end
structure uM where
 nx:DS→Prop
 rt:Dt→Prop
 bk:DS→Prop:=fun _=>False
 ct:DS→Prop:=fun _=>False
abbrev DTS:=uM→DS→Prop
structure At (K:PySem.W.Frag) (Z:Hp) (W0:Vw) (G:Hp) (W:Vw) (ρ:DS) (σ:St):Prop where
 le:Le W0 W
 gs:Same G W.g
 rl:Rl K Z W0.h W ρ σ
inductive Fr where | d | l | t (a b:Bool)
def NewL (K:PySem.W.Frag) (F:Hp) (W:Vw) (d:Dt) (v:V):Prop:=∃ es p xs,d=.lst es∧v=.ref p∧F p=none∧W.h p=some (.lst xs)∧W.g p=none∧AllIs K W.g es xs
def Prt (K:PySem.W.Frag) (F:Hp) (W:Vw) (b:Bool) (d:Dt) (v:V):Prop:=match b with
 | false=>Is K W.g d v
 | true=>NewL K F W d v∨XR d=true∧Is K W.g d v
def Tld (K:PySem.W.Frag) (F:Hp) (W:Vw):Fr→Dt→V→Prop
 | .d,d,v=>Is K W.g d v
 | .l,d,v=>NewL K F W d v
 | .t a b,d,v=>∃ d1 d2 q u1 u2,d=.tup [d1,d2]∧v=.ref q∧W.g q=some (.tup [u1,u2])∧Prt K F W a d1 u1∧Prt K F W b d2 u2∧(∀ es fs,a=true→b=true→d1=.lst es→d2=.lst fs→u1≠u2)
structure Sim (K:PySem.W.Frag) (Z:Hp) (fr:Fr) (W0:Vw) (G:Hp) (D:uM) (D':ua):Prop where
 nx:∀ ρ σ W',At K Z W0 G W' ρ σ→D.nx ρ→D'.nx σ W'.h
 tl:∀ d v W',Le W0 W'→Tld K W0.h W' fr d v→D.rt d→D'.rt v W'.h
 bk:∀ ρ σ W',At K Z W0 G W' ρ σ→D.bk ρ→D'.bk σ W'.h
 ct:∀ ρ σ W',At K Z W0 G W' ρ σ→D.ct ρ→D'.ct σ W'.h
theorem NewL.le {F G:Hp} {W:Vw} {d:Dt} {v:V} (h:NewL K F W d v) (z:∀ p,F p=none→G p=none):NewL K G W d v:=
 let ⟨es,p,xs,h1,h2,h3,h4⟩:=h; ⟨es,p,xs,h1,h2,z p h3,h4⟩
theorem Sim.rf {Z:Hp} {fr:Fr} {W0:Vw} {G:Hp} {D:uM} {D':ua} (s:Sim K Z fr W0 G D D') (hf:fr=.d∨fr=.l) (es:List Dt) (p:Addr) (xs:List V) (W':Vw) (le:Le W0 W') (h0:W0.h p=none) (h1:W'.h p=some (.lst xs)) (h2:W'.g p=none) (h3:AllIs K W'.g es xs) (q:D.rt (.lst es)):D'.rt (.ref p) W'.h:=by
 rcases hf with rfl | rfl
 ·exact s.tl (.lst es) (.ref p) (W'.frz p _ h1) (wT le h0 h1 h2) (is_lst.mpr ⟨p,xs,rfl,zi,AllIs.mono0 (zC h2 _) h3⟩) q
 ·exact s.tl (.lst es) (.ref p) W' le ⟨es,p,xs,rfl,rfl,h0,h1,h2,h3⟩ q
section
variable {W0:Vw} {G G':Hp} {ρ:DS} {σ:St} {fr:Fr}
theorem At.step (a:At K Z W0 G W ρ σ) (s:Le W W'):At K Z W0 G W' ρ σ:=⟨a.le.trans s,a.gs.trans s.g,a.rl.mono s⟩
theorem At.set (a:At K Z W0 G W ρ σ) {d:Dt} {v:V} (i:Nat) (h:Is K W.g d v):At K Z W0 G W (ρ.set i (.some d)) (σ.set i (some v)):=⟨a.le,a.gs,a.rl.set i h⟩
theorem At.weak (a:At K Z W0 G W ρ σ) (s:Same G' G):At K Z W0 G' W ρ σ:=⟨a.le,s.trans a.gs,a.rl⟩
theorem At.own (a:At K Z W0 G W ρ σ) (s:Le W W') {p:Addr} {xs:List V} {ds:List Dt} (i:Nat) (h0:W.h p=none) (h1:W'.h p=some (.lst xs)) (h2:W'.g p=none) (h3:AllIs K W'.g ds xs):
  At K Z W0 G W' (ρ.set i (.own ds)) (σ.set i (some (.ref p))):=⟨a.le.trans s,a.gs.trans s.g,a.rl.own s i h0 h1 h2 h3⟩
theorem At.put (at_:At K Z W0 G W ρ σ) {i:Nat} {ds es:List Dt} {a:Addr} {ys:List V} (hi:ρ[i]? = some (.own ds)) (ha:σ[i]? = some (some (.ref a))) (hg:W.g a=none) (hF:W0.h a=none) (h3:AllIs K W.g es ys):
  At K Z W0 G (W.mine a (.lst ys) hg) (ρ.set i (.own es)) σ:=
 ⟨⟨at_.le.g,fun b o q=>by
   have:b≠a:=fun e=>by rw [e,hF] at q; cases q
   show upd W.h a _ b=some o
   rw [zo this]; exact at_.le.h _ _ q,at_.le.n⟩,at_.gs,at_.rl.put hi ha hg hF h3⟩
theorem At.frz (at_:At K Z W0 G W ρ σ) {i:Nat} {ds:List Dt} {a:Addr} {xs:List V} (hi:ρ[i]? = some (.own ds)) (ha:σ[i]? = some (some (.ref a))) (hh:W.h a=some (.lst xs)) (hg:W.g a=none) (hF:W0.h a=none) (h3:AllIs K W.g ds xs):
  At K Z W0 G (W.frz a _ hh) (ρ.set i (.some (.lst ds))) σ:=
 ⟨wT at_.le hF hh hg,at_.gs.trans (zC hg _),at_.rl.frz hi ha hh hg h3⟩
theorem Sim.weak {D:uM} {D':ua} (h:Sim K Z fr W0 G' D D') (s:Same G' G):Sim K Z fr W0 G D D':=
 ⟨fun ρ σ W' a=>h.nx ρ σ W' (a.weak s),h.tl,fun ρ σ W' a=>h.bk ρ σ W' (a.weak s),fun ρ σ W' a=>h.ct ρ σ W' (a.weak s)⟩
end
def LiS (K:PySem.W.Frag) (Z:Hp) (fr:Fr) (ts:TS) (t:DTS):Prop:=∀ (W0:Vw) (G:Hp) (ρ:DS) (σ:St) (W:Vw) (D:uM) (D':ua),At K Z W0 G W ρ σ→Sim K Z fr W0 G D D'→t D ρ→ts D' σ W.h
def DSt (X:Cx) (fr:Fr) (st:Stmt) (t:DTS):Prop:=∃ ts,PS X st ts∧LiS X.K (Zx X) fr ts t
def DSs (X:Cx) (fr:Fr) (sts:List Stmt) (t:DTS):Prop:=∃ ts,PSs X sts ts∧LiS X.K (Zx X) fr ts t
def RH:DTS:=fun D ρ=>D.nx ρ
def Xy (t u:DTS):DTS:=fun D ρ=>t { D with nx:=u D } ρ
def RC (te:DTE):DTS:=fun D ρ=>te ρ D.rt
def RA (i:Nat):DTS:=fun D ρ=>∃ ds,ρ[i]? = some (.own ds)∧D.rt (.lst ds)
def Q0 (i:Nat) (te:DTE):DTS:=fun D ρ=>te ρ fun d=>D.nx (ρ.set i (.some d))
def Rx (i:Nat) (te:DTE):DTS:=fun D ρ=>te ρ fun d=>∃ ds,d=.lst ds∧D.nx (ρ.set i (.own ds))
def Q7 (c:DTT) (t u:DTS):DTS:=fun D ρ=>c ρ fun b=>if b=true then t D ρ else u D ρ
def RU (te:DTE):DTS:=fun D ρ=>te ρ fun _=>D.nx ρ
def TW:DTS:=fun _ _=>False
def QU (i j:Nat) (te:DTE):DTS:=fun D ρ=>te ρ fun d=>∃ a b,d=.tup [a,b]∧D.nx ((ρ.set i (.some a)).set j (.some b))
def RP (j:Nat) (te:DTE) (tb:DTS):DTS:=fun D ρ=>te ρ fun d=>∃ (ds:List Dt) (Pv:Nat→DS→Prop),wx d=some ds∧Pv 0 ρ∧
 (∀ i e ρ',ds[i]? = some e→Pv i ρ'→tb { D with nx:=Pv (i+1),ct:=Pv (i+1),bk:=D.nx } (ρ'.set j (.some e)))∧∀ ρ',Pv ds.length ρ'→D.nx ρ'
def RO (j:Nat) (te:DTE) (tb:DTS):DTS:=fun D ρ=>te ρ fun d=>∃ (n:Int) (Pv:Nat→DS→Prop),d=.int n∧-(2 ^ 62)≤n∧n<2 ^ 62∧Pv 0 ρ∧
 (∀ (i:Nat) ρ',i<n.toNat→Pv i ρ'→tb { D with nx:=Pv (i+1),ct:=Pv (i+1),bk:=D.nx } (ρ'.set j (.some (.int i))))∧∀ ρ',Pv n.toNat ρ'→D.nx ρ'
def T3 (j:Nat) (ta:DTA) (tb:DTS):DTS:=fun D ρ=>ta ρ fun ds=>∃ (m n:Int) (Pv:Nat→DS→Prop),ds=[.int m,.int n]∧-(2 ^ 62)≤m∧m<2 ^ 62∧-(2 ^ 62)≤n∧n<2 ^ 62∧Pv 0 ρ∧
 (∀ (i:Nat) ρ',i<(n - m).toNat→Pv i ρ'→tb { D with nx:=Pv (i+1),ct:=Pv (i+1),bk:=D.nx } (ρ'.set j (.some (.int (m+i)))))∧∀ ρ',Pv (n - m).toNat ρ'→D.nx ρ'
def lw (c:DTT) (tb:DTS):DTS:=fun D ρ=>∃ Pv:Nat→DS→Prop,(∃ m,Pv m ρ)∧∀ m ρ',Pv m ρ'→
 c ρ' fun b=>if b=true then tb { D with nx:=fun ρ2=>∃ m',m'<m∧Pv m' ρ2,ct:=fun ρ2=>∃ m',m'<m∧Pv m' ρ2,bk:=D.nx } ρ' else D.nx ρ'
section
variable {X:Cx} {fr:Fr} {st:Stmt} {yU:List Stmt} {t u:DTS} {e:Expr} {te:DTE} {pos p0 p1 p2:Pos}
theorem zu:DSs X fr [] RH:=⟨_,bp,fun W0 G ρ σ W D D' a s h=>s.nx ρ σ W a h⟩
theorem zc (h1:DSt X fr st t) (h2:DSs X fr yU u):DSs X fr (st::yU) (Xy t u):=by
 obtain ⟨ts,p1,l1⟩:=h1
 obtain ⟨us,p2,l2⟩:=h2
 exact ⟨_,xp p1 p2,fun W0 G ρ σ W D D' a s h=>l1 W0 G ρ σ W { D with nx:=u D } { D' with nx:=us D' } a ⟨fun ρ' σ' W' a' q=>l2 W0 G ρ' σ' W' D D' a' s q,s.tl,s.bk,s.ct⟩ h⟩
theorem ze (h:DSt X fr st t):DSs X fr [st] t:=let ⟨_,p,l⟩:=h; ⟨_,vg p,l⟩
theorem zm (h:DE X e te):DSt X .d (.Return (some e) pos) (RC te):=by
 obtain ⟨tt,p,l⟩:=h
 exact ⟨_,tm p,fun W0 G ρ σ W D D' a s h=>l ρ σ W _ a.rl h _ fun d v W1 s1 i1 q1=>s.tl d v W1 (a.le.trans s1) i1 q1⟩
theorem vp (h:DF X e te) (hf:fr=.d∨fr=.l:=by first | exact .inl rfl | exact .inr rfl):DSt X fr (.Return (some e) pos) (RC te):=by
 obtain ⟨tt,p,l⟩:=h
 exact ⟨_,tm p,fun W0 G ρ σ W D D' a s h=>l ρ σ W _ a.rl h _ fun es q xs W1 s1 h0 h1 h2 i1 q1=>s.rf hf es q xs W1 (a.le.trans s1) (a.le.h.free h0) h1 h2 i1 q1⟩
theorem uF (i:Nat) {x:Str} (hN:X.N[i]? = some x:=by rfl) (hv:Vis X.env.scope x:=by first | exact Or.inl rfl | exact Or.inr (Or.inl rfl) | exact Or.inr (Or.inr rfl)) (hd:(x == ("__debug__":Str))=false:=by decide)
  (hcd:(x == ("__classdict__":Str))=false:=by decide) (hf:fr=.d∨fr=.l:=by first | exact .inl rfl | exact .inr rfl):DSt X fr (.Return (some (.Name x p0)) pos) (RA i):=by
 refine ⟨_,tm (zQ hN hv hd hcd),fun W0 G ρ σ W D D' a s h=>?_⟩
 obtain ⟨ds,e,q⟩:=h
 obtain ⟨b,xs,e1,e2,e3,e4,e5⟩:=a.rl.ow i ds e
 exact ⟨.ref b,e1,s.rf hf ds b xs W a.le e4 e2 e3 e5 q⟩
theorem sR (h:DE X e te) (hs:swapsWith e none pos.line X.env=pure false:=by rfl):DSt X fr (.Expr e pos) (RU te):=by
 obtain ⟨tt,p,l⟩:=h
 exact ⟨_,sL p hs,fun W0 G ρ σ W D D' a s h=>l ρ σ W _ a.rl h _ fun d v W1 s1 i1 q1=>s.nx ρ σ W1 (a.step s1) q1⟩
theorem zq {i:Nat} {x:Str} {pos':Pos} (hN:X.N.Nodup) (hi:X.N[i]? = some x) (hx:Loc X.env.scope x) (h:DE X e te) (hs:swapsWith e (some (.Name x pos')) pos.line X.env=pure false:=by rfl) (hf:X.fn x=true∨X.env.scope.names.lookup x=some .local:=by first | exact .inl rfl | exact .inr rfl | assumption):
  DSt X fr (.Assign [.Name x pos'] e pos) (Q0 i te):=by
 obtain ⟨tt,p,l⟩:=h
 exact ⟨_,pW hN hi hx p hs hf,fun W0 G ρ σ W D D' a s h=>l ρ σ W _ a.rl h _ fun d v W1 s1 i1 q1=>s.nx _ _ W1 ((a.step s1).set i i1) q1⟩
theorem yO {i:Nat} {x:Str} {pos':Pos} (hN:X.N.Nodup) (hi:X.N[i]? = some x) (hx:Loc X.env.scope x) (h:DF X e te) (hs:swapsWith e (some (.Name x pos')) pos.line X.env=pure false:=by rfl) (hf:X.fn x=true∨X.env.scope.names.lookup x=some .local:=by first | exact .inl rfl | exact .inr rfl | assumption):
  DSt X fr (.Assign [.Name x pos'] e pos) (Rx i te):=by
 obtain ⟨tt,p,l⟩:=h
 refine ⟨_,pW hN hi hx p hs hf,fun W0 G ρ σ W D D' a s h=>l ρ σ W _ a.rl h _ fun es q xs W1 s1 h0 h1 h2 i1 ⟨ds,ed,q1⟩=>?_⟩
 cases ed
 exact s.nx _ _ W1 (a.own s1 i h0 h1 h2 i1) q1
theorem zI {c:Expr} {a b:List Stmt} {tc:DTT} (hc:DT X c tc) (ha:DSs X fr a t) (hb:DSs X fr b u):DSt X fr (.If c a b pos) (Q7 tc t u):=by
 obtain ⟨t0,p0,l0⟩:=hc
 obtain ⟨t1,p1,l1⟩:=ha
 obtain ⟨t2,p2,l2⟩:=hb
 refine ⟨_,Sz p0 p1 p2,fun W0 G ρ σ W D D' a s h=>l0 ρ σ W _ a.rl h _ fun k W1 s1 q1=>?_⟩
 cases k with
 | true=>exact l1 W0 G ρ σ W1 D D' (a.step s1) s q1
 | false=>exact l2 W0 G ρ σ W1 D D' (a.step s1) s q1
theorem wZ:DSt X fr st TW:=⟨_,iL,fun _ _ _ _ _ _ _ _ _ h=>h.elim⟩
theorem qf {i j:Nat} {x y:Str} {px py pt:Pos} {kt:Nat} (hc:X.calm=true) (hN:X.N.Nodup) (hi:X.N[i]? = some x) (hj:X.N[j]? = some y) (hx:Loc X.env.scope x) (hy:Loc X.env.scope y) (h:DE X e te)
  (hf:X.fn x=true∨X.env.scope.names.lookup x=some .local:=by first | exact .inl rfl | exact .inr rfl | assumption) (hf2:X.fn y=true∨X.env.scope.names.lookup y=some .local:=by first | exact .inl rfl | exact .inr rfl | assumption)
  (hs:swapsWithSole [.Tuple [.Name x px,.Name y py] kt pt] e pos.line X.env=pure false:=by rfl) (hw:swappedStores [.Tuple [.Name x px,.Name y py] kt pt] e X.env=pure none:=by rfl):
  DSt X fr (.Assign [.Tuple [.Name x px,.Name y py] kt pt] e pos) (QU i j te):=by
 obtain ⟨tt,p,l⟩:=h
 refine ⟨_,WG p (iN hc (ul (yM hN hi hx hf) (ul (yM hN hj hy hf2) lY))) hs hw,fun W0 G ρ σ W D D' at_ s h=>l ρ σ W _ at_.rl h _ fun d v W1 s1 i1 ⟨a,b,ed,q1⟩=>?_⟩
 subst ed
 obtain ⟨q,xs,rfl,hq,ha⟩:=is_tup.mp i1
 obtain ⟨v1,v2,rfl,h1,h2⟩:=ha.two
 refine ⟨q,_,rfl,.of (W1.sub _ _ hq),rfl,v1,[v2],rfl,v2,[],rfl,rfl,?_⟩
 exact s.nx _ _ W1 (((at_.step s1).set i h1).set j h2) q1
def InL (K:PySem.W.Frag) (Z:Hp) (W0 W1:Vw) (Pv:DS→Prop) (σ:St) (H:Hp):Prop:=∃ (ρ:DS) (W:Vw),W.h=H∧At K Z W0 W1.g W ρ σ∧Pv ρ
theorem xT {K:PySem.W.Frag} {W0 W1:Vw} {G:Hp} {D:uM} {D':ua} {Pv:DS→Prop} (s:Sim K Z fr W0 G D D') (hg:Same G W1.g):
  Sim K Z fr W0 W1.g { D with nx:=Pv,ct:=Pv,bk:=D.nx } { D' with nx:=InL K Z W0 W1 Pv,ct:=InL K Z W0 W1 Pv,bk:=D'.nx }:=
 ⟨fun ρ3 σ3 W3 a3 q3=>⟨ρ3,W3,rfl,a3,q3⟩,s.tl,fun ρ3 σ3 W3 a3 q3=>s.nx ρ3 σ3 W3 (a3.weak hg) q3,fun ρ3 σ3 W3 a3 q3=>⟨ρ3,W3,rfl,a3,q3⟩⟩
theorem At.now {K:PySem.W.Frag} {W0:Vw} {G:Hp} {W:Vw} {ρ:DS} {σ:St} (a:At K Z W0 G W ρ σ):At K Z W0 W.g W ρ σ:=⟨a.le,Same.refl _,a.rl⟩
theorem tQ {j:Nat} {x:Str} {iter:Expr} {body:List Stmt} {tb:DTS} {px:Pos} (hc:X.calm=true) (hN:X.N.Nodup) (hi:X.N[j]? = some x) (hx:Loc X.env.scope x) (hp:PassesOwn (model X.prog X.w) X.A X.env X.xe)
  (h:DE X iter te) (hb:DSs X fr body tb) (hs:∀ x,foldedSetIterable iter X.env x=pure x:=by intro _; rfl)
  (hf:X.fn x=true∨X.env.scope.names.lookup x=some .local:=by first | exact .inl rfl | exact .inr rfl | assumption):DSt X fr (.For (.Name x px) iter body [] pos) (RP j te tb):=by
 obtain ⟨tt,p,l⟩:=h
 obtain ⟨tbs,p2,l2⟩:=hb
 refine ⟨_,rp hp hc (lX p) (yM hN hi hx hf) p2 hs,fun W0 G ρ σ W D D' at_ s h=>l ρ σ W _ at_.rl h _ fun d v W1 s1 i1 ⟨ds,Pv,el,h0,ht,hd⟩=>?_⟩
 have hg:Same G W1.g:=at_.gs.trans s1.g
 have hq:∃ a xs,v=.ref a∧(∀ W2:Vw,Same W1.g W2.g→SqL X.K W2.h a xs)∧AllIs X.K W1.g ds xs:=by
  cases d with
  | lst es=>
   obtain rfl:es=ds:=Option.some.inj el
   obtain ⟨a,xs,rfl,h1,h2⟩:=is_lst.mp i1
   exact ⟨a,xs,rfl,fun W2 s2=>.of (W2.sub _ _ (s2 _ _ h1)),h2⟩
  | scr ns=>
   obtain rfl:ns.map Dt.int=ds:=Option.some.inj el
   obtain ⟨a,rfl,h1⟩:=is_scr.mp i1
   exact ⟨a,_,rfl,fun W2 s2=>W2.sub.seq (s2.seq h1),AllIs.ints⟩
  | _=>cases el
 obtain ⟨a,xs,rfl,hq,ha⟩:=hq
 refine ⟨a,rfl,⟨xs,hq W1 (Same.refl _)⟩,dH (K:=X.K) (a:=a) (xs:=xs) (fun i=>InL X.K (Zx X) W0 W1 (Pv i)) ⟨ρ,W1,rfl,(at_.step s1).now,h0⟩ (fun i σ' H' _ ⟨_,W2,e2,a2,_⟩=>e2 ▸ hq W2 a2.gs) ?_ ?_⟩
 ·rintro i x σ' _ hi ⟨ρ',W2,rfl,a2,hp2⟩
  obtain ⟨e,he,ie⟩:=ha.get' hi
  exact l2 W0 W1.g _ _ W2 { D with nx:=Pv (i+1),ct:=Pv (i+1),bk:=D.nx } _ (a2.set j (Is.mono0 a2.gs ie)) (xT s hg) (ht i e ρ' he hp2)
 ·rintro σ' _ ⟨ρ',W2,rfl,a2,hp2⟩
  exact s.nx ρ' σ' W2 (a2.weak hg) (hd ρ' (by rw [ha.length]; exact hp2))
theorem Xi {j:Nat} {x:Str} {a:Expr} {body:List Stmt} {tb:DTS} {px p0 pos1:Pos} (hc:X.calm=true) (hN:X.N.Nodup) (hi:X.N[j]? = some x) (hx:Loc X.env.scope x) (hp:PassesOwn (model X.prog X.w) X.A X.env X.xe)
  (hg:Gl X "range") (hm:X.mg "range"=none) (h:DE X a te) (hb:DSs X fr body tb) (hs:∀ x,foldedSetIterable (.Call (.Name "range" p0) [a] [] pos1) X.env x=pure x:=by intro _; rfl)
  (hst:starEach [a] X.env=[(false,eval a X.env)]:=by rfl) (hst2:starEach [a] X.env=(false,eval a X.env)::starEach [] X.env:=by rfl)
  (hf:X.fn x=true∨X.env.scope.names.lookup x=some .local:=by first | exact .inl rfl | exact .inr rfl | assumption):DSt X fr (.For (.Name x px) (.Call (.Name "range" p0) [a] [] pos1) body [] pos) (RO j te tb):=by
 obtain ⟨tt,p,l⟩:=h
 obtain ⟨tbs,p2,l2⟩:=hb
 refine ⟨_,rp hp hc (qW hg hm (zH p ym hst2) hst) (yM hN hi hx hf) p2 hs,fun W0 G ρ σ W D D' at_ s h=>l ρ σ W _ at_.rl h _ fun d v W1 s1 i1 ⟨n,Pv,ed,n1,n2,h0,ht,hd⟩=>?_⟩
 subst ed
 have hg:Same G W1.g:=at_.gs.trans s1.g
 refine ⟨n,by rw [is_int.mp i1],n1,n2,pd (lo:=0) (n:=n.toNat) (fun i=>InL X.K (Zx X) W0 W1 (Pv i)) ⟨ρ,W1,rfl,(at_.step s1).now,h0⟩ ?_ ?_⟩
 ·rintro i σ' _ hi ⟨ρ',W2,rfl,a2,hp2⟩
  have ez:(0:Int)+(i:Int)=(i:Int):=Int.zero_add _
  rw [ez]
  exact l2 W0 W1.g _ _ W2 { D with nx:=Pv (i+1),ct:=Pv (i+1),bk:=D.nx } _ (a2.set j (is_int.mpr rfl)) (xT s hg) (ht i ρ' hi hp2)
 ·rintro σ' _ ⟨ρ',W2,rfl,a2,hp2⟩
  exact s.nx ρ' σ' W2 (a2.weak hg) (hd ρ' hp2)
theorem x8 {c:Expr} {body:List Stmt} {tc:DTT} {tb:DTS} (hp:PassesOwn (model X.prog X.w) X.A X.env X.xe) (hc:DT X c tc) (hb:DSs X fr body tb):DSt X fr (.While c body [] pos) (lw tc tb):=by
 obtain ⟨t0,p0,l0⟩:=hc
 obtain ⟨tbs,p2,l2⟩:=hb
 refine ⟨_,iI hp p0 p2,fun W0 G ρ σ W D D' at_ s h=>?_⟩
 obtain ⟨Pv,⟨m0,h0⟩,ht⟩:=h
 refine ⟨fun m=>InL X.K (Zx X) W0 W (Pv m),⟨m0,ρ,W,rfl,at_.now,h0⟩,?_⟩
 rintro m σ' _ ⟨ρ',W2,rfl,a2,hp2⟩
 refine l0 ρ' σ' W2 _ a2.rl (ht m ρ' hp2) _ fun b W3 s3 q3=>?_
 have a3:=a2.step s3
 cases b with
 | true=>
  refine ⟨InL X.K (Zx X) W0 W (fun ρ2=>∃ m',m'<m∧Pv m' ρ2),fun σ4 H4 ⟨ρ4,W4,e4,a4,m',hm,p4⟩=>⟨m',hm,ρ4,W4,e4,a4,p4⟩,?_⟩
  exact l2 W0 W.g _ _ W3 { D with nx:=fun ρ2=>∃ m',m'<m∧Pv m' ρ2,ct:=fun ρ2=>∃ m',m'<m∧Pv m' ρ2,bk:=D.nx } _ a3 (xT s at_.gs) q3
 | false=>exact s.nx ρ' σ' W3 (a3.weak at_.gs) q3
variable {i:Nat} {x:Str}
def Pb (i:Nat) (te:DTE):DTS:=fun D ρ=>∃ ds,ρ[i]? = some (.own ds)∧te ρ fun d=>ds.length≤100000∧D.nx (ρ.set i (.own (ds++[d])))
theorem w6 (i:Nat) (h:DE X e te) (hN:X.N[i]? = some x:=by rfl) (hv:Vis X.env.scope x:=by first | exact Or.inl rfl | exact Or.inr (Or.inl rfl) | exact Or.inr (Or.inr rfl)) (hd:(x == ("__debug__":Str))=false:=by decide)
  (hcd:(x == ("__classdict__":Str))=false:=by decide) (hst:starEach [e] X.env=(false,eval e X.env)::starEach [] X.env:=by rfl) (hpl:(backTo p2 (starEach [] X.env)).any (·.1)=false:=by rfl)
  (hfew:((backTo p2 (starEach [e] X.env)).all (fun x=>!x.1) && (backToKw p2 (keywordEach [] X.env)).all (fun x=>x.1.isSome)
   && decide ([e].length+([]:List Keyword).length+(if ([]:List Keyword).isEmpty then 0 else 1)<30))=true:=by rfl)
  (hbase:attributeBase (.Name x p0) "append" X.env (eval (.Name x p0) X.env)=eval (.Name x p0) X.env:=by rfl) (hline:(p1.endLine == p2.line)=true:=by rfl)
  (hs:swapsWith (.Call (.Attribute (.Name x p0) "append" p1) [e] [] p2) none pos.line X.env=pure false:=by rfl):
  DSt X fr (.Expr (.Call (.Attribute (.Name x p0) "append" p1) [e] [] p2) pos) (Pb i te):=by
 obtain ⟨tt,p,l⟩:=h
 refine ⟨_,sL (XU PySem.F.plainAttrs_list PySem.F.slot_list_append PySem.F.type_list_append tF (zQ hN hv hd hcd) (zH p ym hst) hbase hfew hline hst hpl) hs,fun W0 G ρ σ W D D' at_ s h=>?_⟩
 obtain ⟨ds,ei,h⟩:=h
 obtain ⟨b,xs,e1,e2,e3,e4,e5⟩:=at_.rl.ow i ds ei
 refine ⟨.ref b,e1,.inl ⟨rfl,xs,.of e2⟩,l ρ σ W _ at_.rl h _ fun d v W1 s1 i1 ⟨hl,q1⟩=>?_⟩
 have a1:=at_.step s1
 have hg1:W1.g b=none:=s1.n b (by rw [e2]; intro z; cases z) e3
 refine ⟨b,xs,v,rfl,rfl,s1.h _ _ e2,by rw [← e5.length]; exact Nat.lt_of_le_of_lt hl (by decide),?_⟩
 exact s.nx _ _ _ (a1.put ei e1 hg1 e4 ((e5.mono s1).append (allIs_cons.mpr ⟨v,[],rfl,i1,allIs_nil.mpr rfl⟩))) q1
theorem AllIs.dropLast {G:Hp} {ds:List Dt} {xs:List V} (h:AllIs K G ds xs):AllIs K G ds.dropLast xs.dropLast:=by
 rw [List.dropLast_eq_take,List.dropLast_eq_take,h.length]
 exact h.take _
theorem AllIs.reverse {G:Hp}:∀ {ds:List Dt} {xs:List V},AllIs K G ds xs→AllIs K G ds.reverse xs.reverse
 | [],_,h=>by rw [allIs_nil.mp h]; exact allIs_nil.mpr rfl
 | d::ds,_,h=>by
  obtain ⟨x,r,rfl,h1,h2⟩:=allIs_cons.mp h
  rw [List.reverse_cons,List.reverse_cons]
  exact (AllIs.reverse h2).append (allIs_cons.mpr ⟨x,[],rfl,h1,allIs_nil.mpr rfl⟩)
theorem AllIs.set {G:Hp}:∀ {ds:List Dt} {xs:List V} {d:Dt} {v:V} (j:Nat),AllIs K G ds xs→Is K G d v→AllIs K G (ds.set j d) (xs.set j v)
 | [],_,_,_,_,h,_=>by rw [allIs_nil.mp h]; exact allIs_nil.mpr rfl
 | d::ds,_,_,_,0,h,i=>by
  obtain ⟨x,r,rfl,h1,h2⟩:=allIs_cons.mp h
  exact allIs_cons.mpr ⟨_,_,rfl,i,h2⟩
 | d::ds,_,_,_,j+1,h,i=>by
  obtain ⟨x,r,rfl,h1,h2⟩:=allIs_cons.mp h
  exact allIs_cons.mpr ⟨_,_,rfl,h1,AllIs.set j h2 i⟩
def TR (i:Nat):DTS:=fun D ρ=>∃ ds,ρ[i]? = some (.own ds)∧ds.isEmpty=false∧D.nx (ρ.set i (.own ds.dropLast))
theorem lp (i:Nat) (hN:X.N[i]? = some x:=by rfl) (hv:Vis X.env.scope x:=by first | exact Or.inl rfl | exact Or.inr (Or.inl rfl) | exact Or.inr (Or.inr rfl)) (hd:(x == ("__debug__":Str))=false:=by decide)
  (hcd:(x == ("__classdict__":Str))=false:=by decide)
  (hbase:attributeBase (.Name x p0) "pop" X.env (eval (.Name x p0) X.env)=eval (.Name x p0) X.env:=by rfl) (hline:(p1.endLine == p2.line)=true:=by rfl)
  (hs:swapsWith (.Call (.Attribute (.Name x p0) "pop" p1) [] [] p2) none pos.line X.env=pure false:=by rfl):
  DSt X fr (.Expr (.Call (.Attribute (.Name x p0) "pop" p1) [] [] p2) pos) (TR i):=by
 refine ⟨_,sL (WM PySem.F.plainAttrs_list PySem.F.slot_list_pop PySem.F.type_list_pop Th (zQ hN hv hd hcd) hbase hline) hs,fun W0 G ρ σ W D D' at_ s h=>?_⟩
 obtain ⟨ds,ei,hne,q1⟩:=h
 obtain ⟨b,xs,e1,e2,e3,e4,e5⟩:=at_.rl.ow i ds ei
 have hx:xs≠[]:=fun z=>by
  have:=e5.length
  rw [z] at this
  rw [List.length_eq_zero_iff.mp this] at hne
  cases hne
 have hlt:xs.length - 1<xs.length:=by
  have:=List.length_pos_iff.mpr hx
  omega
 exact ⟨.ref b,e1,.inl ⟨rfl,xs,.of e2⟩,b,xs,xs[xs.length - 1],rfl,rfl,e2,List.getElem?_eq_getElem hlt,s.nx _ _ _ (at_.put ei e1 e3 e4 e5.dropLast) q1⟩
end
section
variable {P:Program} {w:World} {K:PySem.W.Frag} {mg:Str→Option Value} {base:Heap}
theorem x9 {W:Vw} {N:List Str} {ds:List Dt} {vs:List V} (ia:AllIs K W.g ds vs) (hz:Z=W.h):At K Z W W.g W (z5 N.length ds) (start N vs):=⟨Le.refl W,Same.refl _,Rl.start ia (hz ▸ Same.refl _)⟩
theorem okD {x qual:Str} {st:Stmt} {f:Addr} {fd:FuncData} {N ps:List Str} {k:Nat} {S:DSp} (F:Fun K x qual st f fd) (sc:zh N ps (defScope st)) (len:∀ ds Q,S ds Q→ds.length=ps.length)
  (hbody:∀ (cdv:Value) (A:Around) (outer:List Env) (s:Shared) (H:Hp) (E:XK),Room k (A.deeper (envOfC qual (defScope st) s.heap.objs.size f cdv))→∀ (ds:List Dt) (Q:Dt→Prop),S ds Q→
   ∃ t,DSs (yo CX0 P w K mg base N qual (defScope st) f cdv A outer s H E).nox .d (defBody st) t∧t { nx:=fun _=>Q .non,rt:=Q } (z5 N.length ds)):FnOk P w K mg base CX0 (k+1) f fd ps (zp K S):=by
 refine F.ok sc (fun vs H Q E h=>?_) (fun cdv A outer s H vs Q E hr h=>?_)
 ·obtain ⟨W,ds,Qd,_,ia,hS,_⟩:=h
  rw [← ia.length]
  exact len ds Qd hS
 obtain ⟨W,ds,Qd,rfl,ia,hS,kk⟩:=h
 obtain ⟨t,⟨ts,p,l⟩,ht⟩:=hbody cdv A outer s W.h E hr ds Qd hS
 refine ⟨ts,p,l W W.g (z5 N.length ds) (start N vs) W { nx:=fun _=>Qd .non,rt:=Qd } _ (x9 ia (uN (Nat.succ_ne_self _))) ⟨fun ρ σ W' a q=>kk .non .non W' a.le (is_non.mpr rfl) q,fun d v W' s' i' q=>kk d v W' s' i' q,fun _ _ _ _ q=>q.elim,fun _ _ _ _ q=>q.elim⟩ ht⟩
theorem okF {x qual:Str} {st:Stmt} {f:Addr} {fd:FuncData} {N ps:List Str} {k:Nat} {S:DSp} (F:Fun K x qual st f fd) (sc:zh N ps (defScope st)) (len:∀ ds Q,S ds Q→ds.length=ps.length)
  (hbody:∀ (cdv:Value) (A:Around) (outer:List Env) (s:Shared) (H:Hp) (E:XK),Room k (A.deeper (envOfC qual (defScope st) s.heap.objs.size f cdv))→∀ (ds:List Dt) (Q:Dt→Prop),S ds Q→
   ∃ t,DSs (yo CX0 P w K mg base N qual (defScope st) f cdv A outer s H E).nox .l (defBody st) t∧t { nx:=fun _=>False,rt:=Q } (z5 N.length ds)):FnOk P w K mg base CX0 (k+1) f fd ps (y_ K S):=by
 refine F.ok sc (fun vs H Q E h=>?_) (fun cdv A outer s H vs Q E hr h=>?_)
 ·obtain ⟨W,ds,Qd,_,ia,hS,_⟩:=h
  rw [← ia.length]
  exact len ds Qd hS
 obtain ⟨W,ds,Qd,rfl,ia,hS,kk⟩:=h
 obtain ⟨t,⟨ts,p,l⟩,ht⟩:=hbody cdv A outer s W.h E hr ds Qd hS
 exact ⟨ts,p,l W W.g (z5 N.length ds) (start N vs) W { nx:=fun _=>False,rt:=Qd } _ (x9 ia (uN (Nat.succ_ne_self _))) ⟨fun ρ σ W' a q=>q.elim,fun d v W' s' ⟨es,p,xs,e1,e2,e3,e4,e5,e6⟩ q=>by subst e1; subst e2; exact kk es p xs W' s' e3 e4 e5 e6 q,fun _ _ _ _ q=>q.elim,fun _ _ _ _ q=>q.elim⟩ ht⟩
theorem DOk.mk' {x qual:Str} {st:Stmt} {f:Addr} {fd:FuncData} {ps:List Str} {n:Nat} {S:DSp} (F:Fun K x qual st f fd) (hm:mg x=some (.ref f)) (hb:Binds K fd ps []) (h:FnOk P w K mg base CX0 n f fd ps (zp K S)):DOk P w K mg base n x S:=
 ⟨f,fd,ps,hm,F.kp,hb,h⟩
theorem FOk.mk' {x qual:Str} {st:Stmt} {f:Addr} {fd:FuncData} {ps:List Str} {n:Nat} {S:DSp} (F:Fun K x qual st f fd) (hm:mg x=some (.ref f)) (hb:Binds K fd ps []) (h:FnOk P w K mg base CX0 n f fd ps (y_ K S)):FOk P w K mg base n x S:=
 ⟨f,fd,ps,hm,F.kp,hb,h⟩
theorem DOk.mono {x:Str} {m n:Nat} {S:DSp} (h:DOk P w K mg base m x S) (hl:m≤n):DOk P w K mg base n x S:=
 let ⟨f,fd,ps,h1,h2,h3,h4⟩:=h.ex; ⟨f,fd,ps,h1,h2,h3,h4.mono hl⟩
theorem FOk.mono {x:Str} {m n:Nat} {S:DSp} (h:FOk P w K mg base m x S) (hl:m≤n):FOk P w K mg base n x S:=
 let ⟨f,fd,ps,h1,h2,h3,h4⟩:=h.ex; ⟨f,fd,ps,h1,h2,h3,h4.mono hl⟩
theorem MOk.mono {C:Addr} {x:Str} {m n:Nat} {S:DSp} (h:MOk P w K mg base m C x S) (hl:m≤n):MOk P w K mg base n C x S:=
 ⟨h.cl,let ⟨f,fd,ps,h1,h3,h4⟩:=h.ex; ⟨f,fd,ps,h1,h3,h4.mono hl⟩⟩
theorem FMOk.mono {C:Addr} {x:Str} {m n:Nat} {S:DSp} (h:FMOk P w K mg base m C x S) (hl:m≤n):FMOk P w K mg base n C x S:=
 ⟨h.cl,let ⟨f,fd,ps,h1,h3,h4⟩:=h.ex; ⟨f,fd,ps,h1,h3,h4.mono hl⟩⟩
theorem MOk.imp {C:Addr} {x:Str} {n:Nat} {S S':DSp} (h:MOk P w K mg base n C x S) (hi:∀ ds Q,S' ds Q→S ds Q):MOk P w K mg base n C x S':=
 ⟨h.cl,let ⟨f,fd,ps,h1,h3,h4⟩:=h.ex; ⟨f,fd,ps,h1,h3,h4.imp fun vs H Q E ⟨W,ds,Qd,a,b,c,d⟩=>⟨W,ds,Qd,a,b,hi _ _ c,d⟩⟩⟩
theorem FMOk.imp {C:Addr} {x:Str} {n:Nat} {S S':DSp} (h:FMOk P w K mg base n C x S) (hi:∀ ds Q,S' ds Q→S ds Q):FMOk P w K mg base n C x S':=
 ⟨h.cl,let ⟨f,fd,ps,h1,h3,h4⟩:=h.ex; ⟨f,fd,ps,h1,h3,h4.imp fun vs H Q E ⟨W,ds,Qd,a,b,c,d⟩=>⟨W,ds,Qd,a,b,hi _ _ c,d⟩⟩⟩
theorem DOk.imp {x:Str} {n:Nat} {S S':DSp} (h:DOk P w K mg base n x S) (hi:∀ ds Q,S' ds Q→S ds Q):DOk P w K mg base n x S':=
 let ⟨f,fd,ps,h1,h2,h3,h4⟩:=h.ex; ⟨f,fd,ps,h1,h2,h3,h4.imp fun vs H Q E ⟨W,ds,Qd,a,b,c,d⟩=>⟨W,ds,Qd,a,b,hi _ _ c,d⟩⟩
theorem sM {qual:Str} {st:Stmt} {g C:Addr} {fd:FuncData} {y f:Str} {k:Nat} {ok:Int→Prop} (F:Fun K "__init__" qual st g fd) (sc:zh ["self",y] ["self",y] (defScope st)) (cl:Cls K C) (na:NoAttr K C f)
  (hbody:∀ (cdv:Value) (A:Around) (outer:List Env) (s:Shared) (H:Hp) (E:XK),Room k (A.deeper (envOfC qual (defScope st) s.heap.objs.size g cdv))→
   ∃ te t,PSs (yo CX0 P w K mg base ["self",y] qual (defScope st) g cdv A outer s H E).nox (defBody st) (Su K (cX 0) te f)∧LiE K (Zx (yo CX0 P w K mg base ["self",y] qual (defScope st) g cdv A outer s H E)) te t∧∀ i,ok i→t [.none,.some (.int i)] fun d=>d=.int i):
  FnOk P w K mg base CX0 (k+1) g fd ["self",y] (vf C f ok):=by
 refine F.ok sc (fun vs H Q E h=>?_) (fun cdv A outer s H vs Q E hr h=>?_)
 ·obtain ⟨p,dx,i,rfl,_⟩:=h
  rfl
 obtain ⟨p,dx,i,rfl,hp,hok,q⟩:=h
 obtain ⟨te,t,ps,l,ht⟩:=hbody cdv A outer s H E hr
 rw [n9] at l
 refine ⟨_,ps,l (F:=H) [.none,.some (.int i)] _ ⟨H,H,Same.refl H⟩ _ ⟨rfl,fun j d e=>?_,fun j ds e=>?_,fun j j' ds es _ e _=>?_,Same.refl H,Same.refl H,fun j a ds e=>?_,fun j φ e=>?_⟩ (ht i hok) _ fun d v W1 s1 i1 ed=>?_⟩
 ·match j,e with
  | 0,e=>cases e
  | 1,e=>
   have e':Dt.int i=d:=by cases e; rfl
   subst e'
   exact ⟨.int i,rfl,is_int.mpr rfl⟩
  | j+2,e=>cases e
 ·match j,e with
  | 0,e=>cases e
  | 1,e=>cases e
  | j+2,e=>cases e
 ·match j,e with
  | 0,e=>cases e
  | 1,e=>cases e
  | j+2,e=>cases e
 ·match j,e with
  | 0,e=>cases e
  | 1,e=>cases e
  | j+2,e=>cases e
 ·match j,e with
  | 0,e=>cases e
  | 1,e=>cases e
  | j+2,e=>cases e
 ·subst ed
  obtain rfl:=is_int.mp i1
  refine ⟨.ref p,rfl,p,C,dx,[],rfl,s1.h _ _ hp,cl,na,(by show 0<1000; decide),?_⟩
  refine q _ zi fun b o hb hbp=>?_
  rw [zo hbp]
  exact s1.h _ _ hb
end
end OD
namespace OD
open PySem PySem.Spec PyProof.Rows L2
mutual
def eqD:Dt→Dt→Bool
 | .non,.non=>true
 | .bl a,.bl b=>a == b
 | .bl a,.int b=>(if a then (1:Int) else 0) == b
 | .int a,.bl b=>a == (if b then (1:Int) else 0)
 | .int a,.int b=>a == b
 | .str a,.str b=>a == b
 | .tup ds,.tup es=>eqDs ds es
 | .lst ds,.lst es=>eqDs ds es
 | _,_=>false
def eqDs:List Dt→List Dt→Bool
 | [],[]=>true
 | d::ds,e::es=>eqD d e && eqDs ds es
 | _,_=>false
end
def okE:Nat→Dt→Bool
 | _,.non=>true
 | _,.bl _=>true
 | _,.int _=>true
 | _,.str _=>true
 | n+1,.tup ds=>ds.all (okE n)
 | n+1,.lst ds=>ds.all (okE n)
 | _,_=>false
theorem y6 (a b:Int):eqD (.int a) (.int b)=(a == b):=by unfold eqD; rfl
theorem dO (a b:Bool):eqD (.bl a) (.bl b)=(a == b):=by unfold eqD; rfl
theorem kr (a b:Str):eqD (.str a) (.str b)=(a == b):=by unfold eqD; rfl
theorem uC (ds es:List Dt):eqD (.tup ds) (.tup es)=eqDs ds es:=by rw [eqD]
theorem sQ (ds es:List Dt):eqD (.lst ds) (.lst es)=eqDs ds es:=by rw [eqD]
theorem uB:eqDs [] []=true:=by unfold eqDs; rfl
theorem xZ (d e:Dt) (ds es:List Dt):eqDs (d::ds) (e::es)=(eqD d e && eqDs ds es):=by rw [eqDs]
theorem qQ (e:Dt) (es:List Dt):eqDs [] (e::es)=false:=by unfold eqDs; rfl
theorem qR (e:Dt) (es:List Dt):eqDs (e::es) []=false:=by unfold eqDs; rfl
theorem xw:∀ ds es:List Dt,(((List.range (min ds.length es.length)).all fun j=>eqD (ds.getD j .non) (es.getD j .non)) && (ds.length == es.length))=eqDs ds es
 | [],[]=>by rw [uB]; rfl
 | [],e::es=>by
  rw [qQ]
  have h:((([]:List Dt).length == (e::es).length))=false:=by simp
  rw [h,Bool.and_false]
 | d::ds,[]=>by
  rw [qR]
  have h:(((d::ds).length == ([]:List Dt).length))=false:=by simp
  rw [h,Bool.and_false]
 | d::ds,e::es=>by
  have ih:=xw ds es
  rw [xZ,← ih]
  have hm:min (d::ds).length (e::es).length=min ds.length es.length+1:=by
   rw [List.length_cons,List.length_cons]; omega
  rw [hm,List.range_succ_eq_map,List.all_cons,List.all_map,Bool.and_assoc]
  have hl:((d::ds).length == (e::es).length)=(ds.length == es.length):=by
   rw [List.length_cons,List.length_cons]
   rw [Bool.eq_iff_iff,beq_iff_eq,beq_iff_eq]
   omega
  rw [hl]
  rfl
theorem ph {ds es:List Dt} (h:ds.length≠es.length):eqDs ds es=false:=by
 rw [← xw ds es]
 have h:(ds.length == es.length)=false:=beq_eq_false_iff_ne.mpr h
 rw [h,Bool.and_false]
theorem nR {ds es:List Dt} (h:ds.length=es.length):((List.range ds.length).all fun j=>eqD (ds.getD j .non) (es.getD j .non))=eqDs ds es:=by
 rw [← xw ds es]
 have h':(ds.length == es.length)=true:=beq_iff_eq.mpr h
 rw [h',Bool.and_true,← h,Nat.min_self]
theorem tO:∀ {ds:List Dt},(∀ d∈ds,eqD d d=true)→eqDs ds ds=true
 | [],_=>uB
 | d::ds,h=>by
  rw [xZ,h d List.mem_cons_self,tO fun e he=>h e (List.mem_cons_of_mem _ he)]
  rfl
theorem xx:∀ (n:Nat) {d:Dt},okE n d=true→eqD d d=true:=by
 intro n
 induction n with
 | zero=>
  intro d h
  cases d with
  | non=>unfold eqD; rfl
  | bl b=>rw [dO]; exact beq_self_eq_true _
  | int b=>rw [y6]; exact beq_self_eq_true _
  | str b=>rw [kr]; exact beq_self_eq_true _
  | _=>simp [okE] at h
 | succ n ih=>
  intro d h
  cases d with
  | non=>unfold eqD; rfl
  | bl b=>rw [dO]; exact beq_self_eq_true _
  | int b=>rw [y6]; exact beq_self_eq_true _
  | str b=>rw [kr]; exact beq_self_eq_true _
  | tup ds=>
   rw [uC]
   have h':∀ d∈ds,okE n d=true:=by simpa [okE] using h
   exact tO fun d hd=>ih (h' d hd)
  | lst ds=>
   rw [sQ]
   have h':∀ d∈ds,okE n d=true:=by simpa [okE] using h
   exact tO fun d hd=>ih (h' d hd)
  | _=>simp [okE] at h
example:eqD (.int ((2:Nat):Int)) (.int 2)=true:=by rfl
section
variable {X:Cx} {pins:List (Addr × Obj)} {σ:St} {K:PySem.W.Frag} {H:Hp} {s:Shared}
theorem lj:∀ {ds es:List Dt} {xs:List V},(∀ d e v,d∈ds→e∈es→Is K H d v→Is K H e v→eqD d e=true)→AllIs K H ds xs→AllIs K H es xs→eqDs ds es=true
 | [],es,xs,ih,i1,i2=>by
  obtain rfl:=allIs_nil.mp i1
  cases es with
  | nil=>exact uB
  | cons e es=>obtain ⟨_,_,z,_⟩:=allIs_cons.mp i2; cases z
 | d::ds,es,xs,ih,i1,i2=>by
  obtain ⟨x,r,rfl,j1,j2⟩:=allIs_cons.mp i1
  cases es with
  | nil=>cases allIs_nil.mp i2
  | cons e es=>
   obtain ⟨y,r',z,k1,k2⟩:=allIs_cons.mp i2
   cases z
   rw [xZ,ih d e x List.mem_cons_self List.mem_cons_self j1 k1,lj (fun d' e' v' hd he=>ih d' e' v' (List.mem_cons_of_mem _ hd) (List.mem_cons_of_mem _ he)) j2 k2]
   rfl
def wX:Dt→Bool
 | .non=>true
 | .bl _=>true
 | .int _=>true
 | .str _=>true
 | _=>false
def vD:Dt→V
 | .bl b=>.bl b
 | .int i=>.int i
 | .str x=>.str x
 | _=>.non
theorem zP {d:Dt} {v:V} (h:wX d=true) (i:Is K H d v):v=vD d:=by
 cases d <;> first | exact is_non.mp i | exact is_bl.mp i | exact is_int.mp i | exact is_str.mp i | cases h
theorem tN {d:Dt} (h:wX d=true):km (vD d)=true:=by cases d <;> first | rfl | cases h
theorem uz {d:Dt} {a:Addr} (h:wX d=true) (e:vD d=.ref a):False:=by cases d <;> first | cases e | cases h
theorem nQ {v:V} (h:km v=true):eqV v v=true:=by cases v <;> first | rfl | exact beq_self_eq_true _ | cases h
theorem uD {d e:Dt} (h1:wX d=true) (h2:wX e=true):eqD d e=eqV (vD d) (vD e):=by cases d <;> first | exact absurd h1 Bool.false_ne_true | (cases e <;> first | exact absurd h2 Bool.false_ne_true | rfl)
theorem wY {d:Dt} {es:List Dt} (h:wX d=true):eqD d (.tup es)=false∧eqD (.tup es) d=false∧eqD d (.lst es)=false∧eqD (.lst es) d=false:=by
 cases d <;> first | exact ⟨rfl,rfl,rfl,rfl⟩ | cases h
theorem xf {n:Nat} {d:Dt} (h:okE n d=true):wX d=true∨∃ m ds,n=m+1∧(d=.tup ds∨d=.lst ds)∧∀ d∈ds,okE m d=true:=by
 cases d with
 | non=>exact .inl rfl
 | bl b=>exact .inl rfl
 | int b=>exact .inl rfl
 | str b=>exact .inl rfl
 | tup ds=>
  cases n with
  | zero=>simp [okE] at h
  | succ m=>exact .inr ⟨m,ds,rfl,.inl rfl,by simpa [okE] using h⟩
 | lst ds=>
  cases n with
  | zero=>simp [okE] at h
  | succ m=>exact .inr ⟨m,ds,rfl,.inr rfl,by simpa [okE] using h⟩
 | _=>cases n <;> simp [okE] at h
theorem kq:∀ (n:Nat) {d e:Dt} {v:V},okE n d=true→okE n e=true→Is K H d v→Is K H e v→eqD d e=true:=by
 intro n
 induction n with
 | zero=>
  intro d e v h1 h2 i1 i2
  rcases xf h1 with f1 | ⟨m,ds,z,_⟩
  ·rcases xf h2 with f2 | ⟨m,ds,z,_⟩
   ·rw [uD f1 f2,← zP f1 i1,← zP f2 i2]
    exact nQ (by rw [zP f1 i1]; exact tN f1)
   ·cases z
  ·cases z
 | succ n ih=>
  intro d e v h1 h2 i1 i2
  rcases xf h1 with f1 | ⟨m,ds,z,hk,hd⟩
  ·rcases xf h2 with f2 | ⟨m,es,z,hk,he⟩
   ·rw [uD f1 f2,← zP f1 i1,← zP f2 i2]
    exact nQ (by rw [zP f1 i1]; exact tN f1)
   ·obtain rfl:=zP f1 i1
    rcases hk with rfl | rfl
    ·obtain ⟨_,_,e,_⟩:=is_tup.mp i2; exact (uz f1 e).elim
    ·obtain ⟨_,_,e,_⟩:=is_lst.mp i2; exact (uz f1 e).elim
  ·cases z
   rcases xf h2 with f2 | ⟨m,es,z,hk2,he⟩
   ·obtain rfl:=zP f2 i2
    rcases hk with rfl | rfl
    ·obtain ⟨_,_,e,_⟩:=is_tup.mp i1; exact (uz f2 e).elim
    ·obtain ⟨_,_,e,_⟩:=is_lst.mp i1; exact (uz f2 e).elim
   ·cases z
    rcases hk with rfl | rfl
    ·obtain ⟨a,xs,rfl,hx,ha⟩:=is_tup.mp i1
     rcases hk2 with rfl | rfl
     ·obtain ⟨b,ys,eb,hy,hb⟩:=is_tup.mp i2
      cases eb
      rw [hx] at hy
      cases hy
      rw [uC]
      exact lj (fun d e v q1 q2=>ih (hd d q1) (he e q2)) ha hb
     ·obtain ⟨b,ys,eb,hy,hb⟩:=is_lst.mp i2
      cases eb
      rw [hx] at hy
      cases hy
    ·obtain ⟨a,xs,rfl,hx,ha⟩:=is_lst.mp i1
     rcases hk2 with rfl | rfl
     ·obtain ⟨b,ys,eb,hy,hb⟩:=is_tup.mp i2
      cases eb
      rw [hx] at hy
      cases hy
     ·obtain ⟨b,ys,eb,hy,hb⟩:=is_lst.mp i2
      cases eb
      rw [hx] at hy
      cases hy
      rw [sQ]
      exact lj (fun d e v q1 q2=>ih (hd d q1) (he e q2)) ha hb
section
variable {A:Around}
open SeqAt
theorem vk {d:Dt} {v:Value} {b:Addr} {its:Array Value} (f:wX d=true) (q:RelV (vD d) v) (t:s.heap.IsTuple b its) (hA:A.units<cLine):
  (EqAt A s v (.ref b) false∧EqAt A s (.ref b) v false)∧(RcAt A s v (.ref b) false∧RcNeAt A s v (.ref b) true)∧RcAt A s (.ref b) v false∧RcNeAt A s (.ref b) v true:=by
 cases d with
 | non=>cases q; exact ⟨⟨.none_tuple t hA,.tuple_none t hA⟩,⟨.none_tuple t hA,.none_tuple t hA⟩,.tuple_none t hA,.tuple_none t hA⟩
 | bl a=>cases q; exact ⟨⟨.bool_tuple a t hA,.tuple_bool a t hA⟩,⟨.bool_tuple a t hA,.bool_tuple a t hA⟩,.tuple_bool a t hA,.tuple_bool a t hA⟩
 | int a=>obtain ⟨u,rfl⟩:=q; exact ⟨⟨.int_tuple a u t hA,.tuple_int a u t hA⟩,⟨.int_tuple a u t hA,.int_tuple a u t hA⟩,.tuple_int a u t hA,.tuple_int a u t hA⟩
 | str a=>obtain ⟨u,rfl⟩:=q; exact ⟨⟨.str_tuple a u t hA,.tuple_str a u t hA⟩,⟨.str_tuple a u t hA,.str_tuple a u t hA⟩,.tuple_str a u t hA,.tuple_str a u t hA⟩
 | _=>cases f
theorem vn {d:Dt} {v:Value} {b:Addr} {its:Array Value} (f:wX d=true) (q:RelV (vD d) v) (t:s.heap.IsList b its) (hA:A.units<cLine):
  (EqAt A s v (.ref b) false∧EqAt A s (.ref b) v false)∧(RcAt A s v (.ref b) false∧RcNeAt A s v (.ref b) true)∧RcAt A s (.ref b) v false∧RcNeAt A s (.ref b) v true:=by
 cases d with
 | non=>cases q; exact ⟨⟨.none_list t hA,.list_none t hA⟩,⟨.none_list t hA,.none_list t hA⟩,.list_none t hA,.list_none t hA⟩
 | bl a=>cases q; exact ⟨⟨.bool_list a t hA,.list_bool a t hA⟩,⟨.bool_list a t hA,.bool_list a t hA⟩,.list_bool a t hA,.list_bool a t hA⟩
 | int a=>obtain ⟨u,rfl⟩:=q; exact ⟨⟨.int_list a u t hA,.list_int a u t hA⟩,⟨.int_list a u t hA,.int_list a u t hA⟩,.list_int a u t hA,.list_int a u t hA⟩
 | str a=>obtain ⟨u,rfl⟩:=q; exact ⟨⟨.str_list a u t hA,.list_str a u t hA⟩,⟨.str_list a u t hA,.str_list a u t hA⟩,.list_str a u t hA,.list_str a u t hA⟩
 | _=>cases f
theorem Y_ {d e:Dt} {v u:Value} (f1:wX d=true) (f2:wX e=true) (q1:RelV (vD d) v) (q2:RelV (vD e) u):RcAt A s v u (eqD d e)∧RcNeAt A s v u (!eqD d e):=by
 cases d with
 | non=>
  cases q1
  cases e with
  | non=>cases q2; exact ⟨.none_none,.none_none⟩
  | bl b=>cases q2; exact ⟨.none_bool b,.none_bool b⟩
  | int b=>obtain ⟨t,rfl⟩:=q2; exact ⟨.none_int b t,.none_int b t⟩
  | str b=>obtain ⟨t,rfl⟩:=q2; exact ⟨.none_str b t,.none_str b t⟩
  | _=>cases f2
 | bl a=>
  cases q1
  cases e with
  | non=>cases q2; exact ⟨.bool_none a,.bool_none a⟩
  | bl b=>cases q2; exact ⟨.bool_bool a b,.bool_bool a b⟩
  | int b=>obtain ⟨t,rfl⟩:=q2; exact ⟨.bool_int a b t,.bool_int a b t⟩
  | str b=>obtain ⟨t,rfl⟩:=q2; exact ⟨.bool_str a b t,.bool_str a b t⟩
  | _=>cases f2
 | int a=>
  obtain ⟨ta,rfl⟩:=q1
  cases e with
  | non=>cases q2; exact ⟨.int_none a ta,.int_none a ta⟩
  | bl b=>cases q2; exact ⟨.int_bool a ta b,.int_bool a ta b⟩
  | int b=>obtain ⟨t,rfl⟩:=q2; exact ⟨.int_int a ta b t,.int_int a ta b t⟩
  | str b=>obtain ⟨t,rfl⟩:=q2; exact ⟨.int_str a ta b t,.int_str a ta b t⟩
  | _=>cases f2
 | str a=>
  obtain ⟨ta,rfl⟩:=q1
  cases e with
  | non=>cases q2; exact ⟨.str_none a ta,.str_none a ta⟩
  | bl b=>cases q2; exact ⟨.str_bool a ta b,.str_bool a ta b⟩
  | int b=>obtain ⟨t,rfl⟩:=q2; exact ⟨.str_int a ta b t,.str_int a ta b t⟩
  | str b=>obtain ⟨t,rfl⟩:=q2; exact ⟨.str_str a ta b t,.str_str a ta b t⟩
  | _=>cases f2
 | _=>cases f1
end
theorem ux {n:Nat} {A:Around} {ds es:List Dt} {xs ys:List V} {its its2:List Value}
  (ih:∀ {d e:Dt} {x y:V} {v u:Value},okE n d=true→okE n e=true→Is K H d x→Is K H e y→RelV x v→RelV y u→SeqAt.EqAt A s v u (eqD d e))
  (hd:∀ d∈ds,okE n d=true) (he:∀ d∈es,okE n d=true) (a1:AllIs K H ds xs) (a2:AllIs K H es ys) (r1:Vals xs its) (r2:Vals ys its2):
  ∀ j (h1:j<its.toArray.size) (h2:j<its2.toArray.size),SeqAt.EqAt A s its.toArray[j] its2.toArray[j] (eqD (ds.getD j .non) (es.getD j .non)):=by
 intro j h1 h2
 have l1:=a1.length.trans r1.length
 have l2:=a2.length.trans r2.length
 rw [List.size_toArray] at h1 h2
 have g1:ds[j]? = some ds[j]:=List.getElem?_eq_getElem (by omega)
 have g2:es[j]? = some es[j]:=List.getElem?_eq_getElem (by omega)
 obtain ⟨x,e1,i1⟩:=a1.get g1
 obtain ⟨y,e2,i2⟩:=a2.get g2
 obtain ⟨v,e3,q1⟩:=r1.get e1
 obtain ⟨u,e4,q2⟩:=r2.get e2
 have f1:ds.getD j .non=ds[j]:=by rw [List.getD_eq_getElem?_getD,g1]; rfl
 have f2:es.getD j .non=es[j]:=by rw [List.getD_eq_getElem?_getD,g2]; rfl
 have f3:its.toArray[j]=v:=by
  have z:its[j]? = some its[j]:=List.getElem?_eq_getElem h1
  rw [z] at e3
  simpa using Option.some.inj e3
 have f4:its2.toArray[j]=u:=by
  have z:its2[j]? = some its2[j]:=List.getElem?_eq_getElem h2
  rw [z] at e4
  simpa using Option.some.inj e4
 rw [f1,f2,f3,f4]
 exact ih (hd _ (List.mem_of_getElem? g1)) (he _ (List.mem_of_getElem? g2)) i1 i2 q1 q2
theorem Rt (I:Inv X pins σ H s):∀ (n:Nat) {A:Around} {d e:Dt} {x y:V} {v u:Value},A.units+n<cLine→okE n d=true→okE n e=true→Is X.K H d x→Is X.K H e y→RelV x v→RelV y u→SeqAt.EqAt A s v u (eqD d e):=by
 intro n
 induction n with
 | zero=>
  intro A d e x y v u hu h1 h2 i1 i2 q1 q2
  rcases xf h1 with f1 | ⟨m,ds,z,_⟩
  ·rcases xf h2 with f2 | ⟨m,ds,z,_⟩
   ·rw [uD f1 f2]
    rw [zP f1 i1] at q1
    rw [zP f2 i2] at q2
    exact dP q1 q2 (tN f1) (tN f2)
   ·cases z
  ·cases z
 | succ n ih=>
  intro A d e x y v u hu h1 h2 i1 i2 q1 q2
  have hA:A.units<cLine:=by omega
  have hu':A.in1.units+n<cLine:=by show A.units+1+n<cLine; omega
  rcases xf h1 with f1 | ⟨m,ds,z,hk,hd⟩
  ·rw [zP f1 i1] at q1
   rcases xf h2 with f2 | ⟨m,es,z,rfl | rfl,he⟩
   ·rw [uD f1 f2]
    rw [zP f2 i2] at q2
    exact dP q1 q2 (tN f1) (tN f2)
   ·obtain ⟨b,ys,rfl,hy,hb⟩:=is_tup.mp i2
    obtain ⟨its2,r2,t2,_⟩:=I.tuple (.of hy)
    cases q2
    rw [(wY f1).1]
    exact (vk f1 q1 t2 hA).1.1
   ·obtain ⟨b,ys,rfl,hy,hb⟩:=is_lst.mp i2
    obtain ⟨its2,r2,t2,_⟩:=I.list (.of hy)
    cases q2
    rw [(wY f1).2.2.1]
    exact (vn f1 q1 t2.isList hA).1.1
  ·cases z
   rcases hk with rfl | rfl
   ·obtain ⟨a,xs,rfl,hx,ha⟩:=is_tup.mp i1
    obtain ⟨its,r1,t1,_⟩:=I.tuple (.of hx)
    cases q1
    rcases xf h2 with f2 | ⟨m,es,z,rfl | rfl,he⟩
    ·rw [zP f2 i2] at q2
     rw [(wY f2).2.1]
     exact (vk f2 q2 t1 hA).1.2
    ·cases z
     have i2':=i2
     obtain ⟨b,ys,rfl,hy,hb⟩:=is_tup.mp i2
     obtain ⟨its2,r2,t2,_⟩:=I.tuple (.of hy)
     cases q2
     by_cases hab:a=b
     ·subst hab
      rw [kq _ h1 h2 i1 i2']
      exact SeqAt.EqAt.same _
     ·have q:=SeqAt.RcAt.tuples t1 t2 hA (ux (fun {d e x y v u}=>ih (A:=A.in1) hu') hd he ha hb r1 r2)
      rw [List.size_toArray,List.size_toArray,← r1.length,← r2.length,← ha.length,← hb.length,xw] at q
      rw [uC]
      exact .of_refs hab q
    ·obtain ⟨b,ys,rfl,hy,hb⟩:=is_lst.mp i2
     obtain ⟨its2,r2,t2,_⟩:=I.list (.of hy)
     cases q2
     exact SeqAt.EqAt.tuple_list t1 t2.isList hA
   ·obtain ⟨a,xs,rfl,hx,ha⟩:=is_lst.mp i1
    obtain ⟨its,r1,t1,_⟩:=I.list (.of hx)
    cases q1
    rcases xf h2 with f2 | ⟨m,es,z,rfl | rfl,he⟩
    ·rw [zP f2 i2] at q2
     rw [(wY f2).2.2.2]
     exact (vn f2 q2 t1.isList hA).1.2
    ·obtain ⟨b,ys,rfl,hy,hb⟩:=is_tup.mp i2
     obtain ⟨its2,r2,t2,_⟩:=I.tuple (.of hy)
     cases q2
     exact SeqAt.EqAt.list_tuple t1.isList t2 hA
    ·cases z
     have i2':=i2
     obtain ⟨b,ys,rfl,hy,hb⟩:=is_lst.mp i2
     obtain ⟨its2,r2,t2,_⟩:=I.list (.of hy)
     cases q2
     by_cases hab:a=b
     ·subst hab
      rw [kq _ h1 h2 i1 i2']
      exact SeqAt.EqAt.same _
     ·rw [sQ]
      have l1:=ha.length.trans r1.length
      have l2:=hb.length.trans r2.length
      by_cases hl:ds.length=es.length
      ·have q:=SeqAt.RcAt.lists t1.isList t2.isList (by rw [List.size_toArray,List.size_toArray]; omega) hA (ux (fun {d e x y v u}=>ih (A:=A.in1) hu') hd he ha hb r1 r2)
       rw [List.size_toArray,← l1,nR hl] at q
       exact .of_refs hab q
      ·have q:=SeqAt.RcAt.lists_lengths t1.isList t2.isList (by rw [List.size_toArray,List.size_toArray,bne_iff_ne]; omega) hA
       rw [ph hl]
       exact .of_refs hab q
theorem XS (I:Inv X pins σ H s) {n:Nat} {A:Around} {d e:Dt} {x y:V} {v u:Value} (hu:A.units+(n+1)<cLine) (h1:okE (n+1) d=true) (h2:okE (n+1) e=true) (i1:Is X.K H d x) (i2:Is X.K H e y) (q1:RelV x v) (q2:RelV y u):
  SeqAt.RcAt A s v u (eqD d e)∧SeqAt.RcNeAt A s v u (!eqD d e):=by
 have hA:A.units<cLine:=by omega
 have hu':A.in1.units+n<cLine:=by show A.units+1+n<cLine; omega
 have ih:=fun {d e:Dt} {x y:V} {v u:Value}=>Rt I n (A:=A.in1) (d:=d) (e:=e) (x:=x) (y:=y) (v:=v) (u:=u) hu'
 rcases xf h1 with f1 | ⟨m,ds,z,hk,hd⟩
 ·rw [zP f1 i1] at q1
  rcases xf h2 with f2 | ⟨m,es,z,rfl | rfl,he⟩
  ·rw [zP f2 i2] at q2
   exact Y_ f1 f2 q1 q2
  ·obtain ⟨b,ys,rfl,hy,hb⟩:=is_tup.mp i2
   obtain ⟨its2,r2,t2,_⟩:=I.tuple (.of hy)
   cases q2
   rw [(wY f1).1]
   exact (vk f1 q1 t2 hA).2.1
  ·obtain ⟨b,ys,rfl,hy,hb⟩:=is_lst.mp i2
   obtain ⟨its2,r2,t2,_⟩:=I.list (.of hy)
   cases q2
   rw [(wY f1).2.2.1]
   exact (vn f1 q1 t2.isList hA).2.1
 ·cases z
  rcases hk with rfl | rfl
  ·obtain ⟨a,xs,rfl,hx,ha⟩:=is_tup.mp i1
   obtain ⟨its,r1,t1,_⟩:=I.tuple (.of hx)
   cases q1
   rcases xf h2 with f2 | ⟨m,es,z,rfl | rfl,he⟩
   ·rw [zP f2 i2] at q2
    rw [(wY f2).2.1]
    exact (vk f2 q2 t1 hA).2.2
   ·cases z
    obtain ⟨b,ys,rfl,hy,hb⟩:=is_tup.mp i2
    obtain ⟨its2,r2,t2,_⟩:=I.tuple (.of hy)
    cases q2
    have it:=ux (A:=A.in1) ih hd he ha hb r1 r2
    have q:=SeqAt.RcAt.tuples t1 t2 hA it
    have q':=SeqAt.RcNeAt.tuples t1 t2 hA it
    rw [List.size_toArray,List.size_toArray,← r1.length,← r2.length,← ha.length,← hb.length,xw] at q q'
    rw [uC]
    exact ⟨q,q'⟩
   ·obtain ⟨b,ys,rfl,hy,hb⟩:=is_lst.mp i2
    obtain ⟨its2,r2,t2,_⟩:=I.list (.of hy)
    cases q2
    exact ⟨SeqAt.RcAt.tuple_list t1 t2.isList hA,SeqAt.RcNeAt.tuple_list t1 t2.isList hA⟩
  ·obtain ⟨a,xs,rfl,hx,ha⟩:=is_lst.mp i1
   obtain ⟨its,r1,t1,_⟩:=I.list (.of hx)
   cases q1
   rcases xf h2 with f2 | ⟨m,es,z,rfl | rfl,he⟩
   ·rw [zP f2 i2] at q2
    rw [(wY f2).2.2.2]
    exact (vn f2 q2 t1.isList hA).2.2
   ·obtain ⟨b,ys,rfl,hy,hb⟩:=is_tup.mp i2
    obtain ⟨its2,r2,t2,_⟩:=I.tuple (.of hy)
    cases q2
    exact ⟨SeqAt.RcAt.list_tuple t1.isList t2 hA,SeqAt.RcNeAt.list_tuple t1.isList t2 hA⟩
   ·cases z
    obtain ⟨b,ys,rfl,hy,hb⟩:=is_lst.mp i2
    obtain ⟨its2,r2,t2,_⟩:=I.list (.of hy)
    cases q2
    rw [sQ]
    have l1:=ha.length.trans r1.length
    have l2:=hb.length.trans r2.length
    by_cases hl:ds.length=es.length
    ·have it:=ux (A:=A.in1) ih hd he ha hb r1 r2
     have q:=SeqAt.RcAt.lists t1.isList t2.isList (by rw [List.size_toArray,List.size_toArray]; omega) hA it
     have q':=SeqAt.RcNeAt.lists t1.isList t2.isList (by rw [List.size_toArray,List.size_toArray]; omega) hA it
     rw [List.size_toArray,← l1,nR hl] at q q'
     exact ⟨q,q'⟩
    ·have q:=SeqAt.RcAt.lists_lengths t1.isList t2.isList (by rw [List.size_toArray,List.size_toArray,bne_iff_ne]; omega) hA
     have q':=SeqAt.RcNeAt.lists_lengths t1.isList t2.isList (by rw [List.size_toArray,List.size_toArray,bne_iff_ne]; omega) hA
     rw [ph hl]
     exact ⟨q,q'⟩
def gEq:Dt→Dt→(Dt→Prop)→Prop:=fun d e Q=>okE 40 d=true∧okE 40 e=true∧Q (.bl (eqD d e))
def gNe:Dt→Dt→(Dt→Prop)→Prop:=fun d e Q=>okE 40 d=true∧okE 40 e=true∧Q (.bl (!eqD d e))
theorem nt {k:Nat} (hr:Room k X.A):DOp X (compareOp .Eq) gEq:=by
 refine ⟨fun x y H Q=>∃ d e,Is X.K H d x∧Is X.K H e y∧okE 40 d=true∧okE 40 e=true∧Q (.bl (eqD d e)) H,fun pins s σ H x y v u Q I rx ry h=>?_,fun H x y d e Q i1 i2 q R k=>⟨d,e,Is.mono0 H.sub i1,Is.mono0 H.sub i2,q.1,q.2.1,k _ _ H (Le.refl H) (is_bl.mpr rfl) q.2.2⟩⟩
 obtain ⟨d,e,i1,i2,h1,h2,q⟩:=h
 have hu:=hr.units
 exact (XS (n:=39) I (A:=X.A) (by omega) h1 h2 i1 i2 rx ry).1 _ _ _ _ ⟨.bl _,H,I,rfl,q⟩
theorem nr {k:Nat} (hr:Room k X.A):DOp X (compareOp .NotEq) gNe:=by
 refine ⟨fun x y H Q=>∃ d e,Is X.K H d x∧Is X.K H e y∧okE 40 d=true∧okE 40 e=true∧Q (.bl (!eqD d e)) H,fun pins s σ H x y v u Q I rx ry h=>?_,fun H x y d e Q i1 i2 q R k=>⟨d,e,Is.mono0 H.sub i1,Is.mono0 H.sub i2,q.1,q.2.1,k _ _ H (Le.refl H) (is_bl.mpr rfl) q.2.2⟩⟩
 obtain ⟨d,e,i1,i2,h1,h2,q⟩:=h
 have hu:=hr.units
 exact (XS (n:=39) I (A:=X.A) (by omega) h1 h2 i1 i2 rx ry).2 _ _ _ _ ⟨.bl _,H,I,rfl,q⟩
end
end OD
namespace OD
open PySem PySem.Spec PyProof.Rows L2
section
variable {X:Cx} {pins:List (Addr × Obj)} {σ:St} {H:Hp} {s:Shared} {scope:Scope} {x:Str} {fp:List Addr}
end
end OD
namespace OD
variable {Z:Hp}
open PySem PySem.Spec PyProof.Rows L2
section
variable {X:Cx} {pins:List (Addr × Obj)} {σ:St} {H:Hp} {s:Shared} {h':Heap}
theorem X4 {ch:List Addr} (hn:∀ b∈ch,vx X pins H b):∀ b∈ch,(b∈X.ex∨X.s₀.heap.objs.size≤b)∧b≠X.env.locals∧(∀ x c,X.env.cells.lookup x=some c→c≠b)∧∀ p∈X.pn++pins,p.1≠b:=fun b hb=>by
 obtain ⟨_,h2,_,h4,h5,h6⟩:=hn b hb
 exact ⟨h4,h2,h5,h6⟩
theorem mV {ch:List Addr} {t':Nat} (I:Inv X pins σ H s) (hn:∀ b∈ch,vx X pins H b) (k:∀ b o,b∉ch→s.heap.get? b=some o→h'.get? b=some o):Inv X pins σ H { s with heap:=h',toks:=t' }:=by
 have nit:∀ b u,H b=some u→b∉ch:=fun b u e z=>by rw [(hn b z).1] at e; cases e
 refine I.step (g':=s.gens) (d':=s.drawn) (ch:=ch) (X4 hn) (fun b o _ _ hc e _=>k b o hc e) (fun b o _ _ hc e _=>⟨o.slots,k b o hc e⟩) (fun _ _ _ _ n=>n)
  (fun b o hc e=>⟨o,k b o hc e⟩) (fun _ _ e=>e) (fun _ _ _ e=>e) (fun b ps e=>⟨#[],by rw [e]; simp⟩) (fun m hm=>?_) (fun b u e=>?_) I.bare
 ·obtain ⟨o,es,ep,ho,r⟩:=hm
  exact ⟨o,es,ep,k _ o (fun z=>(hn _ z).2.1 rfl) ho,r⟩
 ·refine (I.hok b u e).stay (fun c v hc q=>k c v ?_ q) (fun _ q=>q) fun _ _ q=>q
  rcases hc with z | z
  ·rw [z]; exact nit b u e
  ·exact nit c _ z
theorem nK {ch:List Addr} {t':Nat} {T:Addr} {xs:List V} (I:Inv X pins σ H s) (hn:∀ b∈ch,vx X pins H b) (k:∀ b o,b∉ch→s.heap.get? b=some o→h'.get? b=some o) (hT:s.heap.objs.size≤T)
  (new:ObjOk X.prog X.w (upd H T (.tup xs)) h' T (.tup xs)):Inv X pins σ (upd H T (.tup xs)) { s with heap:=h',toks:=t' }:=by
 have nit:∀ b u,H b=some u→b∉ch:=fun b u e z=>by rw [(hn b z).1] at e; cases e
 have fT:H T=none:=I.hok.fresh hT
 have old:∀ b o,s.heap.get? b=some o→b≠T:=fun b o e=>Nat.ne_of_lt (Nat.lt_of_lt_of_le (Heap.lt_size e) hT)
 have up:∀ b u,H b=some u→upd H T (.tup xs) b=some u:=fun b u e=>(zo (zD e fT)).trans e
 refine I.step (g':=s.gens) (d':=s.drawn) (ch:=ch) (X4 hn) (fun b o _ _ hc e _=>k b o hc e) (fun b o _ _ hc e _=>⟨o.slots,k b o hc e⟩) (fun b o _ e n=>(zo (old b o e)).trans n)
  (fun b o hc e=>⟨o,k b o hc e⟩) (fun b xs e=>up b _ e) (fun b o u e=>up b _ e) (fun b ps e=>⟨#[],by rw [up b _ e]; simp⟩) (fun m hm=>?_) (fun b u e=>?_) I.bare
 ·obtain ⟨o,es,ep,ho,r⟩:=hm
  exact ⟨o,es,ep,k _ o (fun z=>(hn _ z).2.1 rfl) ho,r⟩
 ·by_cases hb:b=T
  ·subst hb
   rw [zi] at e
   cases e
   exact new
  ·rw [zo hb] at e
   refine (I.hok b u e).stay (fun c v hc q=>k c v ?_ q) (fun c q=>up c _ q) fun c ys q=>up c _ q
   rcases hc with z | z
   ·rw [z]; exact nit b u e
   ·exact nit c _ z
end
section
variable {X:Cx}
end
section
variable {X:Cx} {fr:Fr} {ta:DTA} {tb:DTS} {pos:Pos}
theorem e8 {K:PySem.W.Frag} {W1:Vw} {d:Dt} {v:V} {ds:List Dt} (i1:Is K W1.g d v) (el:wx d=some ds):∃ a xs,v=.ref a∧(∀ W2:Vw,Same W1.g W2.g→SqL K W2.h a xs)∧AllIs K W1.g ds xs:=by
 cases d with
 | lst es=>
  obtain rfl:es=ds:=Option.some.inj el
  obtain ⟨a,xs,rfl,h1,h2⟩:=is_lst.mp i1
  exact ⟨a,xs,rfl,fun W2 s2=>.of (W2.sub _ _ (s2 _ _ h1)),h2⟩
 | scr ns=>
  obtain rfl:ns.map Dt.int=ds:=Option.some.inj el
  obtain ⟨a,rfl,h1⟩:=is_scr.mp i1
  exact ⟨a,_,rfl,fun W2 s2=>W2.sub.seq (s2.seq h1),AllIs.ints⟩
 | _=>cases el
def XZ (K:PySem.W.Frag) (t:DTE):TE:=fun σ H R=>∃ (F:Hp) (ρ:DS) (W:Vw) (Q:Dt→Prop),W.h=H∧Rl K (fun _=>none) F W ρ σ∧t ρ Q∧∀ d v W',Le W W'→Is K W'.g d v→Q d→R v W'.h
theorem DE.up {e:Expr} {t:DTE} (h:DE X e t) (hz:X.stack.length=X.outer.length:=by rfl):PE X e (XZ X.K t):=by
 obtain ⟨te,p,l⟩:=h
 intro pins s σ H R I q
 obtain ⟨F,ρ,W,Q,rfl,r,h,k⟩:=q
 have r':Rl X.K (Zx X) F W ρ σ:=by unfold Zx; rw [if_pos (Or.inl hz)]; exact r
 exact p pins s σ W.h R I (l ρ σ W Q r' h R k)
theorem YT {K:PySem.W.Frag} {t:DTE}:LiE K (fun _=>none) (XZ K t) t:=fun ρ σ H Q r h R k=>⟨_,ρ,H,Q,rfl,r,h,k⟩
theorem LiF.le {K:PySem.W.Frag} {te:TE} {t:DTE} (l:LiF K Z te t):LiE K Z te t:=fun ρ σ H Q r h R k=>l ρ σ H Q r h R fun es q xs H' s h0 h1 h2 i z=>k (.lst es) (.ref q) (H'.frz q _ h1) (wT s h0 h1 h2) (is_lst.mpr ⟨q,xs,rfl,zi,AllIs.mono0 (zC h2 _) i⟩) z
variable {scope:Scope} {x:Str} {elt iter:Expr} {px:Pos} {tl te:DTE}
end
end OD
namespace OD
variable {Z:Hp}
open PySem PySem.Spec PyProof.Rows L2
def Ite (K:PySem.W.Frag) (l:Addr):It:=
 ⟨fun i H=>∃ xs x,SqL K H l xs∧xs[i]? = some x,
  fun i H v H'=>∃ T x,v=.ref T∧H T=none∧H'=upd H T (.tup [.int i,x])∧∀ xs,SqL K H l xs→xs[i]? = some x,
  fun i H=>∃ xs,SqL K H l xs∧xs.length≤i⟩
def Wq (l e it:Addr) (i:Nat) (h:Heap):Prop:=(∃ old,IsEnum h e it (i:Int) old)∧h.IsListIter it l i
theorem kJ {P:Program} {w:World} {K:PySem.W.Frag} {elts:List Expr} {x1} {tpos:Pos} (l e it:Addr) (hne:e≠it):lC P w K (.Tuple elts x1 tpos) (Ite K l) [e,it] e (Wq l e it) where
 mem:=by simp
 obj:=fun i h ⟨⟨old,h1⟩,⟨o4,e4,c4,d4⟩⟩ b hb=>by
  simp only [List.mem_cons,List.not_mem_nil,or_false] at hb
  rcases hb with rfl | rfl
  ·exact ⟨_,h1,fun v z=>by cases z⟩
  ·exact ⟨_,e4,fun v z=>by rw [d4] at z; cases z⟩
 keep:=fun i h h' ⟨⟨old,h1⟩,⟨o4,e4,c4⟩⟩ k=>⟨⟨old,k e (by simp) _ h1⟩,⟨o4,k it (by simp) _ e4,c4⟩⟩
 item:=fun X hP hw hK hc i pins s σ H E I hfp ⟨⟨old,h1⟩,h4⟩ ⟨xs,x,q1,e1⟩=>by
  subst hP hw hK
  obtain ⟨its1,r1,p1,z1⟩:=I.list q1
  obtain ⟨u,eu,ru⟩:=r1.get e1
  refine wpAny_pyNext_enum_item h1 h4 p1.isList (x:=u) (by simpa using eu) hne fun h' a1 a2 a3 a4 a5=>?_
  refine ⟨_,rfl,wpAny_letOwnedTupleGo_enum a1 fun h'' b1 b2=>?_⟩
  have ne:∀ b∈[e,it],b≠s.heap.objs.size:=fun b hb=>by
   simp only [List.mem_cons,List.not_mem_nil,or_false] at hb
   obtain ⟨o4,e4,_⟩:=id h4
   rcases hb with rfl | rfl
   ·exact Nat.ne_of_lt (Heap.lt_size h1)
   ·exact Nat.ne_of_lt (Heap.lt_size e4)
  have en:e≠s.heap.objs.size:=ne e (by simp)
  have aT:=b2.extBut _ _ (Ne.symm en) a3
  have I':Inv X pins σ (upd H s.heap.objs.size (.tup [.int i,x])) { s with heap:=h'',toks:=s.toks+1 }:=nK (ch:=[e,it]) (t':=s.toks+1) I hfp (fun b o hb q=>by
    simp only [List.mem_cons,List.not_mem_nil,or_false,not_or] at hb
    exact b2.extBut b o hb.1 (a5 b o hb.1 hb.2 q)) (Nat.le_refl _) ⟨by show 2≤sizeLine; rw [sizeLine_eq]; decide,[.int i s.toks,u],.cons ⟨_,rfl⟩ (.cons ru .nil),_,aT,rfl,_,rfl⟩
  refine ⟨.ref s.heap.objs.size,_,I',rfl,⟨_,x,rfl,I.fresh,rfl,fun xs' q=>?_⟩,⟨⟨u,?_⟩,a2.extBut b2.extBut (Ne.symm hne)⟩,fun b hb=>?_⟩
  ·rw [I.list_inj q q1]; exact e1
  ·have:((i+1:Nat):Int)=(i:Int)+1:=by omega
   show IsEnum h'' e it ((i+1:Nat):Int) u
   rw [this]
   exact b1
  ·exact (zo (ne b hb)).trans (hfp b hb).1
 done:=fun X hP hw hK hc i pins s σ H E I hfp ⟨⟨old,h1⟩,h4⟩ ⟨xs,q1,e1⟩=>by
  subst hP hw hK
  obtain ⟨its1,r1,p1,z1⟩:=I.list q1
  refine wpAny_pyNext_enum_end (I.ok.hd hc) h1 h4 p1.isList ?_ fun h' hk=>⟨rfl,?_⟩
  ·have:=r1.length
   simp; omega
  ·exact mV (ch:=[e,it]) (t':=s.toks) I hfp fun b o hb q=>by
    simp only [List.mem_cons,List.not_mem_nil,or_false,not_or] at hb
    exact hk b o hb.2 q
 self:=fun A i s Q E ⟨⟨old,h1⟩,_⟩ q=>wpAny_pyIter_enum h1 q
def Rp (K:PySem.W.Frag) (ta:TA):TI:=fun σ H R=>ta σ H fun vs H1=>∃ l xs,vs=[.ref l]∧SqL K H1 l xs∧R (Ite K l) H1
section
variable {X:Cx}
theorem j8:bootBuiltins "enumerate"=some (.type "enumerate"):=by decide +kernel
theorem bu {a:Expr} {ta:TA} {p pos:Pos} {elts:List Expr} {x1} {tpos:Pos} (hg:Gl X "enumerate") (hm:X.mg "enumerate"=none) (ha:PA X [a] ta) (hs:starEach [a] X.env=(false,eval a X.env)::starEach [] X.env:=by rfl)
  (hpl:(backTo pos (starEach [] X.env)).any (·.1)=false:=by rfl):PI X (.Tuple elts x1 tpos) (.Call (.Name "enumerate" p) [a] [] pos) (Rp X.K ta):=by
 intro pins s σ H R I h
 refine Call_ (vO I hg hm j8 (PyProof.Rows.callWith_type1 (thn (ha pos pins s σ H _ I h) fun us s1 ⟨vs,H1,I1,r1,q1⟩=>?_) hs hpl))
 obtain ⟨l,xs,e,q1,q⟩:=q1
 subst e
 obtain ⟨u,rfl,ru⟩:=r1.one
 cases ru
 obtain ⟨its1,r1,p1,z1⟩:=I1.list q1
 refine call_enumerate_list p1.isList fun h' b1 b2 b3 b4=>?_
 have I2:Inv X pins σ H1 { s1 with heap:=h' }:=I1.kept (t':=s1.toks) b4
 refine wpAny_pyIter_enum b1 ⟨s1.heap.objs.size+1,[s1.heap.objs.size+1,s1.heap.objs.size],_,_,H1,rfl,I2,kJ l (s1.heap.objs.size+1) s1.heap.objs.size (Nat.succ_ne_self _),⟨⟨_,b1⟩,b2⟩,fun b hb=>?_,q⟩
 have hb':s1.heap.objs.size≤b:=by
  simp only [List.mem_cons,List.not_mem_nil,or_false] at hb
  rcases hb with rfl | rfl
  ·exact Nat.le_add_right _ _
  ·exact Nat.le_refl _
 have f:=I1.fpOk hb' (I1.hok.fresh hb')
 exact f
theorem dI {K:PySem.W.Frag} {l:Addr} {xs:List V} {g:TG} {tb:TS} {D:ua} {σ:St} {H:Hp} (Pv:Nat→St→Hp→Prop) (h0:Pv 0 σ H) (hl:∀ i σ H,Pv i σ H→SqL K H l xs)
  (hs:∀ (i:Nat) x T σ H,xs[i]? = some x→H T=none→Pv i σ H→g (.ref T) σ (upd H T (.tup [.int i,x])) fun σ2 H2=>tb { D with nx:=Pv (i+1),ct:=Pv (i+1),bk:=D.nx } σ2 H2) (hd:∀ σ H,Pv xs.length σ H→D.nx σ H):
  ∃ W:Nat→Nat→St→Hp→Prop,(∃ m,W 0 m σ H)∧∀ i m σ H,W i m σ H→
   ((Ite K l).stop i H∧D.nx σ H)∨((Ite K l).go i H∧∃ N:St→Hp→Prop,(∀ σ' H',N σ' H'→∃ m',m'<m∧W (i+1) m' σ' H')∧∀ x H',(Ite K l).yld i H x H'→g x σ H' fun σ2 H2=>tb { D with nx:=N,ct:=N,bk:=D.nx } σ2 H2):=by
 refine ⟨fun i m σ H=>m=xs.length - i∧i≤xs.length∧Pv i σ H,⟨_,rfl,Nat.zero_le _,h0⟩,?_⟩
 rintro i m σ H ⟨rfl,hi,p⟩
 have q1:=hl i σ H p
 by_cases hlt:i<xs.length
 ·have g1:xs[i]? = some xs[i]:=List.getElem?_eq_getElem hlt
  refine .inr ⟨⟨xs,xs[i],q1,g1⟩,Pv (i+1),fun σ' H' p'=>⟨xs.length - (i+1),by omega,rfl,hlt,p'⟩,fun v H' y=>?_⟩
  obtain ⟨T,x,rfl,hT,rfl,e1⟩:=y
  exact hs i x T σ H (e1 xs q1) hT p
 ·have e:i=xs.length:=by omega
  subst e
  exact .inl ⟨⟨xs,q1,Nat.le_refl _⟩,hd σ H p⟩
end
section
variable {X:Cx} {fr:Fr} {ta:DTA} {tb:DTS} {pos p0 p1 p2:Pos}
def RQ (i j:Nat) (ta:DTA) (tb:DTS):DTS:=fun D ρ=>ta ρ fun ds=>∃ (d:Dt) (xs:List Dt) (Pv:Nat→DS→Prop),ds=[d]∧wx d=some xs∧Pv 0 ρ∧
 (∀ (n:Nat) x ρ',xs[n]? = some x→Pv n ρ'→tb { D with nx:=Pv (n+1),ct:=Pv (n+1),bk:=D.nx } ((ρ'.set i (.some (.int n))).set j (.some x)))∧∀ ρ',Pv xs.length ρ'→D.nx ρ'
theorem tP {i j:Nat} {x y:Str} {a:Expr} {body:List Stmt} {px py pt p0 pos1:Pos} {kt:Nat} (hc:X.calm=true) (hN:X.N.Nodup) (hi:X.N[i]? = some x) (hj:X.N[j]? = some y) (hx:Loc X.env.scope x) (hy:Loc X.env.scope y) (hp:PassesOwn (model X.prog X.w) X.A X.env X.xe)
  (hg:Gl X "enumerate") (hm:X.mg "enumerate"=none) (ha:DA X [a] ta) (hb:DSs X fr body tb) (hs:∀ z,foldedSetIterable (.Call (.Name "enumerate" p0) [a] [] pos1) X.env z=pure z:=by intro _; rfl)
  (hst:starEach [a] X.env=(false,eval a X.env)::starEach [] X.env:=by rfl) (hpl:(backTo pos1 (starEach [] X.env)).any (·.1)=false:=by rfl)
  (hf:X.fn x=true∨X.env.scope.names.lookup x=some .local:=by first | exact .inl rfl | exact .inr rfl | assumption) (hf2:X.fn y=true∨X.env.scope.names.lookup y=some .local:=by first | exact .inl rfl | exact .inr rfl | assumption):
  DSt X fr (.For (.Tuple [.Name x px,.Name y py] kt pt) (.Call (.Name "enumerate" p0) [a] [] pos1) body [] pos) (RQ i j ta tb):=by
 obtain ⟨tt,p,l⟩:=ha
 obtain ⟨tbs,p2,l2⟩:=hb
 refine ⟨_,rp hp hc (bu hg hm p hst hpl) (iN hc (ul (yM hN hi hx hf) (ul (yM hN hj hy hf2) lY))) p2 hs,fun W0 G ρ σ W D D' at_ s h=>l ρ σ W _ at_.rl h _ fun ds vs W1 s1 i1 ⟨d,xs,Pv,ed,el1,h0,ht,hd⟩=>?_⟩
 subst ed
 obtain ⟨v1,rfl,j1⟩:=i1.one
 have hg1:Same G W1.g:=at_.gs.trans s1.g
 obtain ⟨l1,us,rfl,hq1,ha1⟩:=e8 j1 el1
 refine ⟨l1,us,rfl,hq1 W1 (Same.refl _),dI (K:=X.K) (xs:=us) (fun n=>InL X.K (Zx X) W0 W1 (Pv n)) ⟨ρ,W1,rfl,(at_.step s1).now,h0⟩ (fun n σ' H' ⟨_,W2,e2,a2,_⟩=>e2 ▸ hq1 W2 a2.gs) ?_ ?_⟩
 ·rintro n u T σ' _ hu hT ⟨ρ',W2,rfl,a2,hp2⟩
  obtain ⟨x',ex,ix⟩:=ha1.get' hu
  have s3:=wS hT (.tup [.int n,u])
  have a3:=a2.step s3
  refine ⟨T,_,rfl,.of zi,rfl,.int n,[u],rfl,u,[],rfl,rfl,?_⟩
  exact l2 W0 W1.g _ _ (W2.new T (.tup [.int n,u])) { D with nx:=Pv (n+1),ct:=Pv (n+1),bk:=D.nx } _ ((a3.set i (is_int.mpr rfl)).set j (Is.mono0 a3.gs ix)) (xT s hg1) (ht n x' ρ' ex hp2)
 ·rintro σ' _ ⟨ρ',W2,rfl,a2,hp2⟩
  exact s.nx ρ' σ' W2 (a2.weak hg1) (hd ρ' (by rw [ha1.length]; exact hp2))
theorem nU {j:Nat} {x:Str} {a b:Expr} {body:List Stmt} {px p0 pos1:Pos} (hc:X.calm=true) (hN:X.N.Nodup) (hi:X.N[j]? = some x) (hx:Loc X.env.scope x) (hp:PassesOwn (model X.prog X.w) X.A X.env X.xe)
  (hg:Gl X "range") (hm:X.mg "range"=none) (h:DA X [a,b] ta) (hb:DSs X fr body tb) (hs:∀ x,foldedSetIterable (.Call (.Name "range" p0) [a,b] [] pos1) X.env x=pure x:=by intro _; rfl)
  (hst:starEach [a,b] X.env=[(false,eval a X.env),(false,eval b X.env)]:=by rfl) (hst2:starEach [b] X.env=[(false,eval b X.env)]:=by rfl)
  (hf:X.fn x=true∨X.env.scope.names.lookup x=some .local:=by first | exact .inl rfl | exact .inr rfl | assumption):DSt X fr (.For (.Name x px) (.Call (.Name "range" p0) [a,b] [] pos1) body [] pos) (T3 j ta tb):=by
 obtain ⟨tt,p,l⟩:=h
 obtain ⟨tbs,p2,l2⟩:=hb
 refine ⟨_,rp hp hc (kX hg hm p hst hst2) (yM hN hi hx hf) p2 hs,fun W0 G ρ σ W D D' at_ s h=>l ρ σ W _ at_.rl h _ fun ds vs W1 s1 i1 ⟨m,n,Pv,ed,m1,m2,n1,n2,h0,ht,hd⟩=>?_⟩
 subst ed
 obtain ⟨v1,v2,rfl,j1,j2⟩:=i1.two
 have hg1:Same G W1.g:=at_.gs.trans s1.g
 refine ⟨m,n,by rw [is_int.mp j1,is_int.mp j2],⟨m1,m2,n1,n2⟩,pd (lo:=m) (n:=(n - m).toNat) (fun i=>InL X.K (Zx X) W0 W1 (Pv i)) ⟨ρ,W1,rfl,(at_.step s1).now,h0⟩ ?_ ?_⟩
 ·rintro i σ' _ hi ⟨ρ',W2,rfl,a2,hp2⟩
  exact l2 W0 W1.g _ _ W2 { D with nx:=Pv (i+1),ct:=Pv (i+1),bk:=D.nx } _ (a2.set j (is_int.mpr rfl)) (xT s hg1) (ht i ρ' hi hp2)
 ·rintro σ' _ ⟨ρ',W2,rfl,a2,hp2⟩
  exact s.nx ρ' σ' W2 (a2.weak hg1) (hd ρ' hp2)
def Q3 (ta:DTA):DTE:=fun ρ Q=>ta ρ fun ds=>∃ i j,ds=[.int i,.int j]∧Q (.int (if j<i then j else i))
theorem TK {a b:Expr} (hc:X.calm=true) (hg:Gl X "min") (hm:X.mg "min"=none) (ha:DA X [a,b] ta) (hs:starEach [a,b] X.env=(false,eval a X.env)::starEach [b] X.env:=by rfl) (hpl:(backTo pos (starEach [b] X.env)).any (·.1)=false:=by rfl):
  DE X (.Call (.Name "min" p0) [a,b] [] pos) (Q3 ta):=by
 obtain ⟨te,p1,l1⟩:=ha
 refine ⟨_,xq (j4 hc) hg hm (by decide +kernel) p1 (by decide) (by decide) hs hpl,fun ρ σ H Q r h R k=>l1 ρ σ H _ r h _ fun ds vs H1 s1 i1 ⟨i,j,ed,q⟩=>?_⟩
 subst ed
 obtain ⟨v1,v2,rfl,j1,j2⟩:=i1.two
 exact ⟨i,j,by rw [is_int.mp j1,is_int.mp j2],k _ _ H1 s1 (is_int.mpr rfl) q⟩
structure vc (K:PySem.W.Frag) (C:Addr):Prop where
 cl:Cls K C
 ha:PySem.W.findIn K (.ref C) "__class__"=some (some (.builtin "object.__class__"))
 hn:PySem.W.specialIn K (.builtin "object.__class__") "__get__"=some (some (.builtin "getset_descriptor.__get__"))
 htk:PySem.W.takesIn K (.builtin "object.__class__")=some true
 hm:PySem.W.mroIn K C (.type "object")=some true
theorem j7:CallR X (.builtin "isinstance") (fun xs H Q=>∃ v D tv b,xs=[v,.ref D]∧vV X.K H v tv∧PySem.W.kitOne X.K tv (.ref D)=some b∧Q (.bl b) H):=by
 intro pins s σ H xs us Q I r h
 obtain ⟨v,D,tv,b,rfl,hty,hk,q⟩:=h
 cases r with
 | cons r1 r2=>
  cases r2 with
  | cons r3 r4=>
   cases r4
   cases r3
   exact q_ I r1 hty hk fun tk=>⟨.bl b,H,I.tok _,rfl,q⟩
def RN (K:PySem.W.Frag) (D:Addr) (ta:DTE):DTE:=fun ρ Q=>ta ρ fun d=>∃ C f n b,d=.way C f n∧vc K C∧PySem.W.kitOne K (.ref C) (.ref D)=some b∧Q (.bl b)
theorem uK {a:Expr} {t:DTE} {y:Str} {p':Pos} {D:Addr} (hm:X.mg "isinstance"=none) (hmc:X.mg y=some (.ref D)) (ha:DE X a t)
  (hg:Gl X "isinstance":=by rfl) (hgc:Gl X y:=by rfl) (hdy:(y == ("__debug__":Str))=false:=by decide)
  (hs:starEach [a,.Name y p'] X.env=(false,eval a X.env)::starEach [.Name y p'] X.env:=by rfl) (hs2:starEach [.Name y p'] X.env=(false,eval (.Name y p') X.env)::starEach [] X.env:=by rfl)
  (hpl:(backTo pos (starEach [.Name y p'] X.env)).any (·.1)=false:=by rfl):
  DE X (.Call (.Name "isinstance" p0) [a,.Name y p'] [] pos) (RN X.K D t):=by
 obtain ⟨te,p1,l1⟩:=ha
 have pc:PE X (.Name y p') (tC (.ref D)):=p7 hgc hmc rfl hdy
 refine ⟨_,xq j7 hg hm boot_isinstance (zH p1 (zH pc ym hs2) hs) (by decide) (by decide) hs hpl,fun ρ σ H Q r h R k=>l1 ρ σ H _ r h _ fun d v H1 s1 i1 ⟨C,f,n,b,ed,ok,e,q⟩=>?_⟩
 subst ed
 obtain ⟨p,dx,rfl,hp⟩:=is_way.mp i1
 exact ⟨_,D,_,b,rfl,.ins (H1.sub _ _ hp) ok.cl ok.ha ok.hn ok.htk ok.hm,e,k _ _ H1 s1 (is_bl.mpr rfl) q⟩
def RY (i:Nat) (g:Int→Int→Int) (te:DTE):DTS:=fun D ρ=>∃ d,ρ[i]? = some (.some d)∧te ρ fun e=>∃ m n,d=.int m∧e=.int n∧D.nx (ρ.set i (.some (.int (g m n))))
theorem kx {i:Nat} {x:Str} {e:Expr} {te:DTE} {op:Operator} {g:Int→Int→Int} {pos':Pos} (ho:PIp X op (ipI g)) (hN:X.N.Nodup) (hi:X.N[i]? = some x) (hx:Loc X.env.scope x) (h:DE X e te)
  (hf:X.fn x=true∨X.env.scope.names.lookup x=some .local:=by first | exact .inl rfl | exact .inr rfl | assumption):DSt X fr (.AugAssign (.Name x pos') op e pos) (RY i g te):=by
 obtain ⟨tt,p,l⟩:=h
 refine ⟨_,WF hN hi hx p ho hf,fun W0 G ρ σ W D D' a s h=>?_⟩
 obtain ⟨d,ed,h⟩:=h
 obtain ⟨v,ev,iv⟩:=a.rl.at_ i d ed
 refine ⟨v,ev,l ρ σ W _ a.rl h _ fun z u W1 s1 i1 ⟨m,n,em,en,q⟩=>?_⟩
 subst em
 subst en
 exact ⟨m,n,is_int.mp iv,is_int.mp i1,s.nx _ _ W1 ((a.step s1).set i (is_int.mpr rfl)) q⟩
end
end OD
namespace OD
variable {Z:Hp}
open PySem PySem.Spec PyProof.Rows L2
def Itd (lo:Int) (n:Nat):It:=⟨fun i _=>i<n,fun i H x H'=>H'=H∧x=.int (lo - i),fun i _=>n≤i⟩
theorem kK {P:Program} {w:World} {K:PySem.W.Frag} {tg:Expr} (it:Addr) (lo:Int) (n:Nat):lC P w K tg (Itd lo n) [it] it (fun i h=>IsRangeIter h it (lo+(i:Nat)*(-1)) ((n:Int) - (i:Nat)) (-1)) where
 mem:=by simp
 obj:=fun i h st b hb=>by
  have e:b=it:=by simpa using hb
  subst e
  exact ⟨_,st,fun v z=>by
   have z':Data.fields _=Data.cell v:=z
   cases z'⟩
 keep:=fun i h h' st k=>k it (by simp) _ st
 item:=by
  intro X hP hw hK hc i pins s σ H E I hf st hg
  subst hP hw hK
  obtain ⟨f0,f1,f2,f3,f4,f5⟩:=hf it (by simp)
  have W:=Walks.range (prog:=X.prog) (w:=X.w) (I.ok.hd hc) it lo (-1) n
  refine W.item i s _ _ hg st fun v h' tk hv st' kk=>?_
  obtain ⟨t,rfl⟩:=hv
  have I1:Inv X pins σ H { s with heap:=h',toks:=tk }:=I.turned (fun b o hb e=>kk b o (by simpa using hb) e) f0 f1 f3 f4 f5
  refine ⟨_,rfl,dB (s:={ s with heap:=h',toks:=tk }) (n:="range_iterator") st' rfl rfl (by decide) ⟨.int (lo - i),H,I1,⟨t,?_⟩,⟨rfl,rfl⟩,st',fun b hb=>(hf b hb).1⟩⟩
  rw [show lo+(i:Int)*(-1)=lo - i by omega]
 done:=by
  intro X hP hw hK hc i pins s σ H E I hf st hg
  subst hP hw hK
  obtain ⟨f0,f1,f2,f3,f4,f5⟩:=hf it (by simp)
  exact wpAny_pyNext_range_end (I.ok.hd hc) st (by have:n≤i:=hg; omega) fun h' eb=>⟨rfl,I.turned (t':=s.toks) (fun b o hb e=>eb b o hb e) f0 f1 f3 f4 f5⟩
 self:=fun _ _ _ _ _ st h=>wpAny_pyIter_rangeiter st h
theorem wM (a b:Int):Builtin.Range.rangeSize a b (-1)=if b<a then a - b else 0:=by
 unfold Builtin.Range.rangeSize
 rw [if_neg (by decide)]
 split
 ·rename_i h
  have:(a - b - 1) / (- -1)=a - b - 1:=by rw [show (- -1:Int)=1 by decide,Int.ediv_one]
  omega
 ·rfl
theorem mf {a b:Int} (ha:-(2 ^ 62)≤a) (ha':a<2 ^ 62) (hb:-(2 ^ 62)≤b) (hb':b<2 ^ 62):Builtin.Range.small a b (-1)=true:=by
 unfold Builtin.Range.small
 rw [wM]
 simp only [Builtin.Range.rangeFitsLong,Bool.and_eq_true,Bool.or_eq_true,decide_eq_true_eq,beq_iff_eq,show ¬ (-1:Int)>0 by decide,if_false]
 split <;> omega
section
variable {X:Cx} {tg:Expr}
def Rq (ta:TA):TI:=fun σ H R=>ta σ H fun vs H1=>∃ i j:Int,vs=[.int i,.int j,.int (-1)]∧(-(2 ^ 30)≤i∧i<2 ^ 30∧-(2 ^ 30)≤j∧j<2 ^ 30)∧R (Itd i (i - j).toNat) H1
theorem bv {a b c:Expr} {ta:TA} {p pos:Pos} (hg:Gl X "range") (hm:X.mg "range"=none) (ha:PA X [a,b,c] ta) (hs:starEach [a,b,c] X.env=(false,eval a X.env)::starEach [b,c] X.env:=by rfl)
  (hpl:(backTo pos (starEach [b,c] X.env)).any (·.1)=false:=by rfl):PI X tg (.Call (.Name "range" p) [a,b,c] [] pos) (Rq ta):=by
 intro pins s σ H R I h
 refine Call_ (vO I hg hm boot_range (PyProof.Rows.callWith_type1 (thn (ha pos pins s σ H _ I h) fun us s1 ⟨vs,H1,I1,r1,q1⟩=>?_) hs hpl))
 obtain ⟨i,j,e,⟨q1,q2,q3,q4⟩,q⟩:=q1
 subst e
 cases r1 with
 | cons r rr=>
 cases rr with
 | cons r' rr=>
 cases rr with
 | cons r'' rr=>
  cases rr
  obtain ⟨t,rfl⟩:=r
  obtain ⟨t',rfl⟩:=r'
  obtain ⟨t'',rfl⟩:=r''
  refine call_range_3 (by decide) ?_ (Or.inl (PyProof.noPylong_small (by omega)))
  refine wpAny_pyIter_range (IsRange.new ..) (mf (by omega) (by omega) (by omega) (by omega)) ?_
  have I2:Inv X pins σ H1 { s1 with heap:=s1.heap.push { cls:=.type "range",data:=.fields #[.int i t,.int j t',.int (-1) t''] },toks:=s1.toks }:=I1.kept fun b o e=>Heap.get?_push_of_some _ e
  refine ⟨(s1.heap.push { cls:=.type "range",data:=.fields #[.int i t,.int j t',.int (-1) t''] }).objs.size,[(s1.heap.push { cls:=.type "range",data:=.fields #[.int i t,.int j t',.int (-1) t''] }).objs.size],_,_,H1,rfl,
   I2.kept (t':=s1.toks) fun b o e=>Heap.get?_push_of_some _ e,kK _ i (i - j).toNat,?_,fun b hb=>?_,q⟩
  ·have e1:i+((0:Nat):Int)*(-1)=i:=by simp
   have e2:(((i - j).toNat:Nat):Int) - ((0:Nat):Int)=Builtin.Range.rangeSize i j (-1):=by rw [wM]; split <;> omega
   show IsRangeIter _ _ (i+((0:Nat):Int)*(-1)) ((((i - j).toNat:Nat):Int) - ((0:Nat):Int)) (-1)
   rw [e1,e2]
   exact Heap.get?_push_size _ rfl
  ·have e:b=(s1.heap.push { cls:=.type "range",data:=.fields #[.int i t,.int j t',.int (-1) t''] }).objs.size:=by simpa using hb
   subst e
   exact I2.fpOk (Nat.le_refl _) (I2.hok.fresh (Nat.le_refl _))
theorem dJ {lo:Int} {n:Nat} {g:TG} {tb:TS} {D:ua} {σ:St} {H:Hp} (Pv:Nat→St→Hp→Prop) (h0:Pv 0 σ H)
  (hs:∀ i σ H,i<n→Pv i σ H→g (.int (lo - i)) σ H fun σ2 H2=>tb { D with nx:=Pv (i+1),ct:=Pv (i+1),bk:=D.nx } σ2 H2) (hd:∀ σ H,Pv n σ H→D.nx σ H):
  ∃ W:Nat→Nat→St→Hp→Prop,(∃ m,W 0 m σ H)∧∀ i m σ H,W i m σ H→
   ((Itd lo n).stop i H∧D.nx σ H)∨((Itd lo n).go i H∧∃ N:St→Hp→Prop,(∀ σ' H',N σ' H'→∃ m',m'<m∧W (i+1) m' σ' H')∧∀ x H',(Itd lo n).yld i H x H'→g x σ H' fun σ2 H2=>tb { D with nx:=N,ct:=N,bk:=D.nx } σ2 H2):=by
 refine ⟨fun i m σ H=>m=n - i∧i≤n∧Pv i σ H,⟨n,by simp,Nat.zero_le _,h0⟩,?_⟩
 rintro i m σ H ⟨rfl,hi,p⟩
 by_cases hlt:i<n
 ·refine .inr ⟨hlt,Pv (i+1),fun σ' H' p'=>⟨n - (i+1),by omega,rfl,hlt,p'⟩,fun x H' y=>?_⟩
  obtain ⟨e,y⟩:=y
  subst e y
  exact hs i σ _ hlt p
 ·have e:i=n:=by omega
  subst e
  exact .inl ⟨Nat.le_refl _,hd σ H p⟩
variable {fr:Fr} {ta:DTA} {tb:DTS} {te:DTE} {pos p0 p1 p2:Pos}
def RS (j:Nat) (ta:DTA) (tb:DTS):DTS:=fun D ρ=>ta ρ fun ds=>∃ (m n:Int) (Pv:Nat→DS→Prop),ds=[.int m,.int n,.int (-1)]∧-(2 ^ 30)≤m∧m<2 ^ 30∧-(2 ^ 30)≤n∧n<2 ^ 30∧Pv 0 ρ∧
 (∀ (i:Nat) ρ',i<(m - n).toNat→Pv i ρ'→tb { D with nx:=Pv (i+1),ct:=Pv (i+1),bk:=D.nx } (ρ'.set j (.some (.int (m - i)))))∧∀ ρ',Pv (m - n).toNat ρ'→D.nx ρ'
theorem AllIs.three {K:PySem.W.Frag} {H:Hp} {d e f:Dt} {xs:List V} (h:AllIs K H [d,e,f] xs):∃ v u w,xs=[v,u,w]∧Is K H d v∧Is K H e u∧Is K H f w:=by
 obtain ⟨x,r,rfl,h1,h2⟩:=allIs_cons.mp h
 obtain ⟨u,w,rfl,h3,h4⟩:=h2.two
 exact ⟨x,u,w,rfl,h1,h3,h4⟩
theorem Xj {j:Nat} {x:Str} {a b c:Expr} {body:List Stmt} {px p0 pos1:Pos} (hc:X.calm=true) (hN:X.N.Nodup) (hi:X.N[j]? = some x) (hx:Loc X.env.scope x) (hp:PassesOwn (model X.prog X.w) X.A X.env X.xe)
  (hg:Gl X "range") (hm:X.mg "range"=none) (h:DA X [a,b,c] ta) (hb:DSs X fr body tb) (hs:∀ x,foldedSetIterable (.Call (.Name "range" p0) [a,b,c] [] pos1) X.env x=pure x:=by intro _; rfl)
  (hst:starEach [a,b,c] X.env=(false,eval a X.env)::starEach [b,c] X.env:=by rfl) (hpl:(backTo pos1 (starEach [b,c] X.env)).any (·.1)=false:=by rfl)
  (hf:X.fn x=true∨X.env.scope.names.lookup x=some .local:=by first | exact .inl rfl | exact .inr rfl | assumption):DSt X fr (.For (.Name x px) (.Call (.Name "range" p0) [a,b,c] [] pos1) body [] pos) (RS j ta tb):=by
 obtain ⟨tt,p,l⟩:=h
 obtain ⟨tbs,p2,l2⟩:=hb
 refine ⟨_,rp hp hc (bv hg hm p hst hpl) (yM hN hi hx hf) p2 hs,fun W0 G ρ σ W D D' at_ s h=>l ρ σ W _ at_.rl h _ fun ds vs W1 s1 i1 ⟨m,n,Pv,ed,m1,m2,n1,n2,h0,ht,hd⟩=>?_⟩
 subst ed
 obtain ⟨v1,v2,v3,rfl,j1,j2,j3⟩:=i1.three
 have hg1:Same G W1.g:=at_.gs.trans s1.g
 refine ⟨m,n,by rw [is_int.mp j1,is_int.mp j2,is_int.mp j3],⟨m1,m2,n1,n2⟩,dJ (lo:=m) (n:=(m - n).toNat) (fun i=>InL X.K (Zx X) W0 W1 (Pv i)) ⟨ρ,W1,rfl,(at_.step s1).now,h0⟩ ?_ ?_⟩
 ·rintro i σ' _ hi ⟨ρ',W2,rfl,a2,hp2⟩
  exact l2 W0 W1.g _ _ W2 { D with nx:=Pv (i+1),ct:=Pv (i+1),bk:=D.nx } _ (a2.set j (is_int.mpr rfl)) (xT s hg1) (ht i ρ' hi hp2)
 ·rintro σ' _ ⟨ρ',W2,rfl,a2,hp2⟩
  exact s.nx ρ' σ' W2 (a2.weak hg1) (hd ρ' hp2)
def Q4 (ta:DTA):DTE:=fun ρ Q=>ta ρ fun ds=>∃ i j,ds=[.int i,.int j]∧Q (.int (if j>i then j else i))
theorem ce {a b:Expr} (hc:X.calm=true) (hg:Gl X "max") (hm:X.mg "max"=none) (ha:DA X [a,b] ta) (hs:starEach [a,b] X.env=(false,eval a X.env)::starEach [b] X.env:=by rfl) (hpl:(backTo pos (starEach [b] X.env)).any (·.1)=false:=by rfl):
  DE X (.Call (.Name "max" p0) [a,b] [] pos) (Q4 ta):=by
 obtain ⟨te,p1,l1⟩:=ha
 refine ⟨_,xq (j5 hc) hg hm (by decide +kernel) p1 (by decide) (by decide) hs hpl,fun ρ σ H Q r h R k=>l1 ρ σ H _ r h _ fun ds vs H1 s1 i1 ⟨i,j,ed,q⟩=>?_⟩
 subst ed
 obtain ⟨v1,v2,rfl,j1,j2⟩:=i1.two
 exact ⟨i,j,by rw [is_int.mp j1,is_int.mp j2],k _ _ H1 s1 (is_int.mpr rfl) q⟩
def pb:Dt→Bool
 | .non=>true
 | _=>false
theorem tJ {K:PySem.W.Frag} {H:Hp} {d:Dt} {v:V} (h:Is K H d v):decide (v=.non)=pb d:=by
 cases d with
 | non=>rw [is_non.mp h]; rfl
 | bl b=>rw [is_bl.mp h]; rfl
 | int b=>rw [is_int.mp h]; rfl
 | str b=>rw [is_str.mp h]; rfl
 | tup b=>obtain ⟨a,xs,rfl,_⟩:=is_tup.mp h; rfl
 | lst b=>obtain ⟨a,xs,rfl,_⟩:=is_lst.mp h; rfl
 | scr b=>obtain ⟨a,rfl,_⟩:=is_scr.mp h; rfl
 | way b _ _=>obtain ⟨a,xs,rfl,_⟩:=is_way.mp h; rfl
 | exc b=>obtain ⟨a,rfl,_⟩:=is_exc.mp h; rfl
 | opq φ=>obtain ⟨a,rfl⟩:=φ.ref (is_opq.mp h); rfl
def ci (ta:DTE):DTE:=fun ρ Q=>ta ρ fun d=>Q (.bl (pb d))
def TU (ta:DTE):DTE:=fun ρ Q=>ta ρ fun d=>Q (.bl (!pb d))
theorem TL {a:Expr} {j pos'} (ha:DE X a te):DE X (.Compare a [.Is] [.Constant .none j pos'] pos) (ci te):=by
 obtain ⟨t1,p1,l1⟩:=ha
 exact ⟨_,iU (iV p1),fun ρ σ H Q r h R k=>l1 ρ σ H _ r h _ fun d v H1 s1 i1 q=>k (.bl (pb d)) (.bl (decide (v=.non))) H1 s1 (is_bl.mpr (by rw [tJ i1])) q⟩
theorem Xu {a:Expr} {j pos'} (ha:DE X a te):DE X (.Compare a [.IsNot] [.Constant .none j pos'] pos) (TU te):=by
 obtain ⟨t1,p1,l1⟩:=ha
 exact ⟨_,iU (bB p1),fun ρ σ H Q r h R k=>l1 ρ σ H _ r h _ fun d v H1 s1 i1 q=>k (.bl (!pb d)) (.bl (!decide (v=.non))) H1 s1 (is_bl.mpr (by rw [tJ i1])) q⟩
theorem Tw {a:Expr} {j pos'} (ha:DE X a te):DT X (.Compare a [.Is] [.Constant .none j pos'] pos) (qm (ci te)):=by
 obtain ⟨t1,p1,l1⟩:=ha
 refine ⟨_,iH (iV p1),mQ (te:=Sk t1) (t:=ci te) fun ρ σ H Q r h R k=>l1 ρ σ H _ r h _ fun d v H1 s1 i1 q=>k (.bl (pb d)) (.bl (decide (v=.non))) H1 s1 (is_bl.mpr (by rw [tJ i1])) q⟩
end
end OD
namespace OD
variable {Z:Hp}
open PySem PySem.Spec PyProof.Rows L2
def rq (xs:List V) (lo hi st:Option Int):List V:=(sliceRange (sliceBounds lo hi st xs.length).1 (sliceBounds lo hi st xs.length).2.1 (sliceBounds lo hi st xs.length).2.2).filterMap (xs[·]?)
def iM (xs:List Dt) (lo hi st:Option Int):List Dt:=(sliceRange (sliceBounds lo hi st xs.length).1 (sliceBounds lo hi st xs.length).2.1 (sliceBounds lo hi st xs.length).2.2).filterMap (xs[·]?)
theorem uP {xs:List V} {us:List Value} (r:Vals xs us):∀ ix:List Nat,Vals (ix.filterMap (xs[·]?)) (ix.filterMap (us.toArray[·]?))
 | []=>.nil
 | i::ix=>by
  rw [List.filterMap_cons,List.filterMap_cons]
  cases e:xs[i]? with
  | none=>
   have:us.toArray[i]? = none:=by
    rw [List.getElem?_toArray,List.getElem?_eq_none]
    have:=List.getElem?_eq_none_iff.mp e
    rw [← r.length]; exact this
   rw [this]
   exact uP r ix
  | some x=>
   obtain ⟨u,eu,ru⟩:=r.get e
   have:us.toArray[i]? = some u:=by rw [List.getElem?_toArray]; exact eu
   rw [this]
   exact .cons ru (uP r ix)
theorem AllIs.pick {K:PySem.W.Frag} {H:Hp} {ds:List Dt} {xs:List V} (h:AllIs K H ds xs):∀ ix:List Nat,AllIs K H (ix.filterMap (ds[·]?)) (ix.filterMap (xs[·]?))
 | []=>allIs_nil.mpr rfl
 | i::ix=>by
  rw [List.filterMap_cons,List.filterMap_cons]
  cases e:ds[i]? with
  | none=>
   have:xs[i]? = none:=by
    rw [List.getElem?_eq_none]
    have:=List.getElem?_eq_none_iff.mp e
    rw [← h.length]; exact this
   rw [this]
   exact h.pick ix
  | some x=>
   obtain ⟨u,eu,ru⟩:=h.get e
   rw [eu]
   exact allIs_cons.mpr ⟨u,_,rfl,ru,h.pick ix⟩
theorem kU {ds:List Dt} {lo hi st:Option Int} {e:Dt} (h:e∈iM ds lo hi st):e∈ds:=by
 obtain ⟨i,_,q⟩:=List.mem_filterMap.mp h
 exact List.mem_of_getElem? q
section
variable {X:Cx} {a:Expr} {te:TE} {tl th ts:TO} {lo hi:Option Expr} {st:Expr} {pos p2:Pos} {ta:DTE} {dl dh dt:DTO}
def Qa (K:PySem.W.Frag) (te:TE) (tl th ts:TO):TE:=fun σ H Q=>te σ H fun x H1=>tl σ H1 fun l H2=>th σ H2 fun u H3=>ts σ H3 fun k H4=>k≠some 0∧∃ a xs,x=.ref a∧SqL K H4 a xs∧(rq xs l u k).length≤xs.length∧∀ p,H4 p=none→Q (.ref p) (upd H4 p (.lst (rq xs l u k)))
theorem kY (he:PE X a te) (hl:PO X lo tl) (hu:PO X hi th) (hs:PO X (some st) ts):PE X (.Subscript a (.Slice lo hi (some st) p2) pos) (Qa X.K te tl th ts):=by
 intro pins s σ H Q I h
 refine Subscript_ (thn (he pins s σ H _ I h) fun v s1 ⟨x,H1,I1,r1,q1⟩=>?_)
 refine wpAny_Slice (thn (hl pins s1 σ H1 _ I1 q1) fun vl s2 ⟨l,H2,I2,pl,q2⟩=>thn (hu pins s2 σ H2 _ I2 q2) fun vu s3 ⟨u,H3,I3,pu,q3⟩=>thn (hs pins s3 σ H3 _ I3 q3) fun vs s4 ⟨k,H4,I4,pk,q4⟩=>?_)
 obtain ⟨hk,b,xs,rfl,hx,hle,q⟩:=q4
 cases r1
 have I5:Inv X pins σ H4 { s4 with heap:=s4.heap.push { cls:=.type "slice",data:=.fields #[vl,vu,vs] } }:=I4.kept (t':=s4.toks) fun b ob q=>Heap.get?_push_of_some _ q
 obtain ⟨its,r,ht,hz⟩:=I5.list hx
 have hlen:=r.length
 show wpAny (model X.prog X.w) X.A (subscriptTail a (.Slice lo hi (some st) p2) (.ref b) (.ref s4.heap.objs.size)) (EP X pins σ Q) X.xe { s4 with heap:=s4.heap.push { cls:=.type "slice",data:=.fields #[vl,vu,vs] } }
 refine tail_any (ops:=[.ref b,.ref s4.heap.objs.size]) ht.isList.typeIs slot_list_getitem.lookup ?_ (by with_unfolding_all rfl)
 refine wpAny_getItem_list_slice ht.isList (Heap.IsSliceOf.new ..) pl pu pk hk ?_ (by rw [List.size_toArray] <;> omega)
 have e:slicePick its.toArray l u k=((sliceRange (sliceBounds l u k xs.length).1 (sliceBounds l u k xs.length).2.1 (sliceBounds l u k xs.length).2.2).filterMap (its.toArray[·]?)).toArray:=by
  unfold slicePick
  rw [List.size_toArray,← hlen]
 rw [e]
 refine ⟨.ref _,_,I5.laid (t':=s4.toks) (o:=.lst (rq xs l u k)) (fun b ob q=>Heap.get?_push_of_some _ q) (Nat.le_refl _) ?_,rfl,q _ (I5.hok.fresh (Nat.le_refl _))⟩
 exact ⟨Nat.le_trans hle hz,_,0,uP r _,Heap.get?_push_size _ rfl⟩
theorem ng {ds:List V} {lo hi st:Option Int}:(rq ds lo hi st).length≤ds.length:=by
 unfold rq
 refine Nat.le_trans (List.length_filterMap_le _ _) (sliceRange_length_le _ _ _ _ (fun hc=>?_) fun hc=>?_)
 ·simp only [sliceBounds] at hc ⊢
  simp only [hc,if_true]
  constructor
  ·cases lo with
   | none=>simp
   | some i=>dsimp only; omega
  ·cases hi with
   | none=>simp
   | some i=>dsimp only; omega
 ·simp only [sliceBounds] at hc ⊢
  simp only [hc,if_false]
  constructor
  ·cases lo with
   | none=>simp
   | some i=>dsimp only; omega
  ·cases hi with
   | none=>simp
   | some i=>dsimp only; omega
def QZ (te:DTE) (tl th ts:DTO):DTE:=fun ρ Q=>te ρ fun d=>tl ρ fun l=>th ρ fun u=>ts ρ fun k=>k≠some 0∧∃ ds,wx d=some ds∧∀ es:List Dt,(∀ e∈es,e∈ds)→es.length≤ds.length→Q (.lst es)
theorem pr (ha:DE X a ta) (hl:DO X lo dl) (hu:DO X hi dh) (hs:DO X (some st) dt):DF X (.Subscript a (.Slice lo hi (some st) p2) pos) (QZ ta dl dh dt):=by
 obtain ⟨t1,p1,l1⟩:=ha
 obtain ⟨t2,p2,l2⟩:=hl
 obtain ⟨t3,p3,l3⟩:=hu
 obtain ⟨t4,p4,l4⟩:=hs
 refine ⟨_,kY p1 p2 p3 p4,fun ρ σ H Q r h R k=>l1 ρ σ H _ r h _ fun d v H1 s1 i1 q1=>l2 ρ σ H1 _ (r.mono s1) q1 _ fun l H2 s2 q2=>l3 ρ σ H2 _ (r.mono (s1.trans s2)) q2 _ fun u H3 s3 q3=>l4 ρ σ H3 _ (r.mono ((s1.trans s2).trans s3)) q3 _ fun c H4 s4 ⟨hc,ds,e,q⟩=>?_⟩
 obtain ⟨b,xs,rfl,h1,h2⟩:=ou (i1.mono ((s2.trans s3).trans s4)) e
 refine ⟨hc,b,xs,rfl,h1,ng,fun p hp=>?_⟩
 have hs:=((s1.trans s2).trans s3).trans s4
 have hA:AllIs X.K H4.g (iM ds l u c) (rq xs l u c):=by
  unfold iM rq
  rw [← h2.length]
  exact h2.pick _
 exact k _ p _ (H4.mine p _ (H4.sub.free hp)) (hs.trans (yc hp _)) (hs.h.free hp) zi (H4.sub.free hp) hA (q _ (fun e he=>kU he) (by rw [hA.length,h2.length]; exact ng))
variable {fr:Fr} {tA:DTA} {tb:DTS} {p0 p1:Pos}
def Ry (t u:DTS):DTS:=fun D ρ=>∃ P:DS→Prop,t { D with nx:=P } ρ∧∀ ρ',P ρ'→u D ρ'
theorem x6 {sst:Stmt} {yU:List Stmt} {t u:DTS} (h1:DSt X fr sst t) (h2:DSs X fr yU u):DSs X fr (sst::yU) (Ry t u):=by
 obtain ⟨ts,p1,l1⟩:=h1
 obtain ⟨us,p2,l2⟩:=h2
 refine ⟨_,xp p1 p2,fun W0 G ρ σ W D D' a s h=>?_⟩
 obtain ⟨P,h,k⟩:=h
 exact l1 W0 G ρ σ W { D with nx:=P } { D' with nx:=us D' } a ⟨fun ρ' σ' W' a' q=>l2 W0 G ρ' σ' W' D D' a' s (k ρ' q),s.tl,s.bk,s.ct⟩ h
end
end OD
namespace OD
open PySem PySem.Spec PyProof.Rows L2
section
variable {X:Cx} {ta:DTE} {pos p0:Pos}
end
end OD
namespace OD
variable {Z:Hp}
open PySem PySem.Spec PyProof.Rows L2
section
variable {X:Cx} {K:PySem.W.Frag} {H:Hp}
def gS (f:Str→Str→Dt):Dt→Dt→(Dt→Prop)→Prop:=fun d e Q=>∃ x y,d=.str x∧e=.str y∧Q (f x y)
theorem d8 {x y:Str}:decide (V.str x=V.str y)=(x == y):=by
 rw [Bool.eq_iff_iff]
 simp
theorem vz:DOp X (compareOp .Eq) (gS fun x y=>.bl (x == y)):=by
 refine ⟨_,SH,fun H x y d e Q i1 i2 ⟨a,b,ed,ee,q⟩ R k=>?_⟩
 subst ed
 subst ee
 obtain rfl:=is_str.mp i1
 obtain rfl:=is_str.mp i2
 refine ⟨rfl,?_⟩
 rw [d8]
 exact k _ _ H (Le.refl H) (is_bl.mpr rfl) q
end
section
variable {X:Cx} {fr:Fr} {te:DTE} {tb:DTS} {pos p0 p1 p2:Pos}
end
end OD
namespace OD
variable {Z:Hp}
open PySem PySem.Spec PyProof.Rows L2
def sJ (σ:St) (js:List Nat):St:=js.map fun j=>(σ[j]?).getD none
section
variable {X:Cx} {pins:List (Addr × Obj)} {σ:St} {H:Hp} {s:Shared} {scope:Scope} {cl:List (Str × Addr)} {x:Str} {caps:List Str} {js:List Nat} {fp:List Addr}
end
def vS (cells:List (Str × Addr)) (names:List (Str × NameKind)):List (Str × Addr):=(names.filterMap fun y=>if y.2 == .free then (cells.lookup y.1).map (y.1,·) else none).reverse
theorem rR {α:Type} {y:Str} {c:α}:∀ {l:List (Str × α)},(y,c)∈l→∃ c',l.lookup y=some c'
 | [],h=>nomatch h
 | (z,d)::r,h=>by
  rw [List.lookup_cons]
  cases q:y == z with
  | true=>exact ⟨d,rfl⟩
  | false=>
   rcases List.mem_cons.mp h with e | e
   ·cases e
    rw [beq_self_eq_true] at q
    cases q
   ·exact rR e
theorem mem_clOf {cells:List (Str × Addr)} {names:List (Str × NameKind)} {y:Str} {c:Addr}:(y,c)∈vS cells names↔(y,NameKind.free)∈names∧cells.lookup y=some c:=by
 unfold vS
 rw [List.mem_reverse,List.mem_filterMap]
 constructor
 ·rintro ⟨⟨z,k⟩,hz,e⟩
  split at e
  ·rename_i hk
   obtain rfl:=eq_of_beq hk
   obtain ⟨d,hd,e⟩:=Option.map_eq_some_iff.mp e
   cases e
   exact ⟨hz,hd⟩
  ·cases e
 ·rintro ⟨h1,h2⟩
  exact ⟨(y,.free),h1,by show Option.map _ (List.lookup y cells)=_; rw [h2]; rfl⟩
theorem XD {scope:Scope} {env:Env} (h:∀ y,(y,NameKind.free)∈scope.names→∃ c,env.cells.lookup y=some c):closureFor scope env=pure (vS env.cells scope.names):=by
 have key:∀ (names:List (Str × NameKind)) (acc:List (Str × Addr)),(∀ y,(y,NameKind.free)∈names→∃ c,env.cells.lookup y=some c)→
   (forIn names acc fun x r=>(if x.2 == NameKind.free then do let c ← cellOf env x.1; pure (ForInStep.yield ((x.1,c)::r)) else pure (ForInStep.yield r):Sem (ForInStep (List (Str × Addr)))))=(pure (vS env.cells names++acc):Sem (List (Str × Addr))):=by
  intro names
  induction names with
  | nil=>intro acc _; rfl
  | cons a r ih=>
   intro acc ha
   obtain ⟨n,k⟩:=a
   rw [List.forIn_cons]
   cases hk:k == NameKind.free with
   | true=>
    obtain rfl:=eq_of_beq hk
    obtain ⟨c,hc⟩:=ha n List.mem_cons_self
    have e1:cellOf env n=pure c:=by unfold cellOf; rw [hc]
    have e2:vS env.cells ((n,NameKind.free)::r)=vS env.cells r++[(n,c)]:=by
     unfold vS
     rw [List.filterMap_cons_some (b:=(n,c)) (by show Option.map _ (List.lookup n env.cells)=_; rw [hc]; rfl),List.reverse_cons]
    show (do let c ← cellOf env n; pure (ForInStep.yield ((n,c)::acc)):Sem _) >>= _=_
    rw [e1,pure_bind,pure_bind,e2,List.append_assoc]
    exact ih ((n,c)::acc) fun y hy=>ha y (List.mem_cons_of_mem _ hy)
   | false=>
    have e2:vS env.cells ((n,k)::r)=vS env.cells r:=by
     unfold vS
     rw [List.filterMap_cons_none (by show (if (k == NameKind.free)=true then _ else none)=none; rw [hk]; rfl)]
    show (pure (ForInStep.yield acc):Sem _) >>= _=_
    rw [pure_bind,e2]
    exact ih acc fun y hy=>ha y (List.mem_cons_of_mem _ hy)
 have:=key scope.names [] h
 rw [List.append_nil] at this
 unfold closureFor
 rw [← this]
 exact (bind_pure _).trans rfl
theorem yX {env:Env} (hk:env.scope.kind=.function):∀ {names:List (Str × NameKind)} {x:Str},names.lookup x=some .free→env.scope.names.lookup x=some .cell→
  (names.map fun (n,k)=>if (k == NameKind.free && env.scope.kind == .function && env.kindOf n == some .cell) then (n,NameKind.cell) else (n,k)).lookup x=some .cell
 | [],_,h,_=>by simp at h
 | (n,k)::r,x,h,he=>by
  have ih:=@yX env hk r x
  show List.lookup x ((if (k == NameKind.free && env.scope.kind == .function && env.kindOf n == some .cell)=true then (n,NameKind.cell) else (n,k))::_)=_
  cases hx:x == n with
  | true=>
   obtain rfl:=eq_of_beq hx
   simp only [List.lookup_cons,hx] at h
   cases h
   have e:env.kindOf x=some .cell:=he
   rw [hk,e]
   simp [List.lookup_cons]
  | false=>
   simp only [List.lookup_cons,hx] at h
   by_cases hc:(k == NameKind.free && env.scope.kind == .function && env.kindOf n == some .cell)=true
   ·rw [if_pos hc]; simp only [List.lookup_cons,hx]; exact ih h he
   ·rw [if_neg hc]; simp only [List.lookup_cons,hx]; exact ih h he
def vU (ρ:DS) (js:List Nat):DS:=js.map fun j=>match (ρ[j]?:Option Sl) with
 | Option.some (Sl.some d)=>Sl.some d
 | _=>Sl.none
def cj (js:List Nat) (ta te:DTE):DTE:=fun ρ Q=>ta ρ fun d=>∃ (m:Int) (Pv:Nat→List Dt→Prop),d=.int m∧-(2 ^ 62)≤m∧m≤100000∧Pv 0 []∧
 (∀ (i:Nat) es,i<m.toNat→Pv i es→te (.some (.int i)::vU ρ js) fun y=>Pv (i+1) (es++[y]))∧∀ es,Pv m.toNat es→Q (.lst es)
def Rk (t:TE):TI:=fun σ H R=>t σ H fun v H1=>∃ j:Int,v=.int j∧-(2 ^ 62)≤j∧j<2 ^ 62∧R (Itr 0 j.toNat) H1
section
variable {X:Cx} {fr:Fr} {osc scope:Scope} {x:Str} {caps:List Str} {js:List Nat} {N0:List Str} {L:Addr} {a elt:Expr} {ta te:DTE} {px p0 pos pos1:Pos}
theorem kW {t:TE} {tg:Expr} (hg:Gl X "range") (hm:X.mg "range"=none) (p:PE X a t) (hst:starEach [a] X.env=[(false,eval a X.env)]) (hst2:starEach [a] X.env=(false,eval a X.env)::starEach [] X.env):PI X tg (.Call (.Name "range" p0) [a] [] pos1) (Rk t):=by
 intro pins s σ H R I h
 refine qW hg hm (zH p ym hst2) hst pins s σ H R I ?_
 refine (?_:t σ H fun v H1=>∃ j:Int,[v]=[V.int j]∧-(2 ^ 62)≤j∧j<2 ^ 62∧R (Itr 0 j.toNat) H1)
 have e:(fun (v:V) (H1:Hp)=>∃ j:Int,v=V.int j∧-(2 ^ 62)≤j∧j<2 ^ 62∧R (Itr 0 j.toNat) H1)=fun v H1=>∃ j:Int,[v]=[V.int j]∧-(2 ^ 62)≤j∧j<2 ^ 62∧R (Itr 0 j.toNat) H1:=by
  funext v H1
  refine propext ⟨fun ⟨j,q,z⟩=>⟨j,by rw [q],z⟩,fun ⟨j,q,z⟩=>⟨j,(List.cons.inj q).1,z⟩⟩
 rw [← e]
 exact h
end
section
variable {X:Cx} {a:Expr} {p0 pos:Pos}
end
end OD
namespace OD
variable {Z:Hp}
open PySem PySem.Spec PyProof.Rows L2
def ky (js:List Nat) (ta te:DTE):DTE:=fun ρ Q=>ta ρ fun d=>∃ (ds:List Dt) (Pv:Nat→List Dt→Prop),wx d=some ds∧ds.length≤100000∧Pv 0 []∧
 (∀ (i:Nat) e es,ds[i]? = some e→Pv i es→te (.some e::vU ρ js) fun y=>Pv (i+1) (es++[y]))∧∀ es,Pv ds.length es→Q (.lst es)
section
variable {X:Cx} {fr:Fr} {osc scope:Scope} {x:Str} {caps:List Str} {js:List Nat} {N0:List Str} {L:Addr} {iter elt:Expr} {ta te:DTE} {px pos:Pos}
end
end OD
namespace L2
open PySem PySem.Spec PyProof.Rows
def K2 (h h':Heap):Prop:=∀ a o vs,h.get? a=some o→o.data=.fields vs→∃ o' vs',h'.get? a=some o'∧o'.data=.fields vs'∧vs'[2]? = vs[2]?
theorem K2.refl (h:Heap):K2 h h:=fun _ o vs x y=>⟨o,vs,x,y,rfl⟩
theorem K2.trans {h1 h2 h3:Heap} (x:K2 h1 h2) (y:K2 h2 h3):K2 h1 h3:=fun a o vs p q=>
 let ⟨o',vs',p',q',r'⟩:=x a o vs p q
 let ⟨o2,vs2,p2,q2,r2⟩:=y a o' vs' p' q'
 ⟨o2,vs2,p2,q2,r2.trans r'⟩
theorem K2.keeps {h h':Heap} (k:∀ b o,h.get? b=some o→h'.get? b=some o):K2 h h':=fun a o vs p q=>⟨o,vs,k a o p,q,rfl⟩
theorem K2.update {h:Heap} {a:Addr} {o:Obj} {f:Obj→Obj} (ho:h.get? a=some o) (hf:∀ vs,o.data=.fields vs→∃ vs',(f o).data=.fields vs'∧vs'[2]? = vs[2]?):K2 h (h.update a f):=fun b o' vs p q=>by
 by_cases e:a=b
 ·subst e
  rw [ho] at p
  cases p
  obtain ⟨vs',z1,z2⟩:=hf vs q
  exact ⟨_,vs',Heap.get?_update_self f ho (Obj.isFreed_of_fields z1),z1,z2⟩
 ·exact ⟨o',vs,(Heap.get?_update_other _ _ e).trans p,q,rfl⟩
def Kp2 {α:Type} (t:Sem α):Prop:=∀ (M:Model) (Γ:PySem.Ctx) (Q:α→Pos→Shared→Prop) (E:Value→Pos→Shared→Prop) (p:Pos) (s:Shared),Sem.wp M Γ t Q E p s→
 Sem.wp M Γ t (fun a p' s'=>Q a p' s'∧K2 s.heap s'.heap) (fun e p' s'=>E e p' s'∧K2 s.heap s'.heap) p s
theorem zJ {α:Type} (a:α):Kp2 (pure a:Sem α):=fun _ _ _ _ _ s h=>⟨h,K2.refl _⟩
theorem xR {α:Type} (z:String):Kp2 (unsupported z:Sem α):=fun _ _ _ _ _ s h=>False.elim h
theorem zy {α β:Type} {m:Sem α} {f:α→Sem β} (hm:Kp2 m) (hf:∀ a,Kp2 (f a)):Kp2 (m >>= f):=fun M Γ Q E p s h=>by
 rw [Sem.wp_bind'] at h ⊢
 exact Sem.wp_mono M Γ m (fun a p' s' ⟨x,y⟩=>Sem.wp_mono M Γ (f a) (fun _ _ _ ⟨u,v⟩=>⟨u,y.trans v⟩) (fun _ _ _ ⟨u,v⟩=>⟨u,y.trans v⟩) p' s' (hf a M Γ Q E p' s' x)) (fun _ _ _ x=>x) p s (hm M Γ _ _ p s h)
theorem wy {α:Type} {c:Prop} [Decidable c] {a b:Sem α} (ha:Kp2 a) (hb:Kp2 b):Kp2 (if c then a else b):=by split; exact ha; exact hb
theorem oA (a:Addr):Kp2 (load a):=fun M Γ Q E p s ⟨o,x,y⟩=>⟨o,x,y,K2.refl _⟩
theorem rX:Kp2 PySem.stack:=fun M Γ Q E p s h=>⟨h,K2.refl _⟩
theorem dn (o:Obj):Kp2 (alloc o):=fun M Γ Q E p s h=>⟨h,K2.keeps fun _ _=>Heap.get?_push_of_some _⟩
theorem q8 {a:Addr} {f:Obj→Obj} (hf:∀ o vs,o.data=.fields vs→∃ vs',(f o).data=.fields vs'∧vs'[2]? = vs[2]?):Kp2 (update a f):=fun M Γ Q E p s ⟨x,y⟩=>by
 obtain ⟨o,ho⟩:=Option.isSome_iff_exists.mp x
 exact ⟨x,y,K2.update ho (hf o)⟩
theorem nH (v:Value):Kp2 (fieldsOf v):=by
 unfold fieldsOf
 split
 ·refine zy (oA _) fun o=>?_
  split
  ·exact zJ _
  ·exact xR _
 ·exact xR _
theorem uv (v:Value) (i:Nat):Kp2 (field v i):=by
 unfold field
 refine zy (nH v) fun vs=>?_
 split
 ·exact zJ _
 ·exact xR _
theorem wU (v:Value) (i:Nat) (x:Value) (hi:i≠2):Kp2 (setField v i x):=by
 unfold setField
 split
 ·unfold updateField
  refine zy (oA _) fun o=>?_
  split
  ·refine wy (q8 fun o vs hd=>⟨_,Obj.data_mapFields hd _,Array.getElem?_setIfInBounds_ne hi⟩) (xR _)
  ·exact xR _
 ·exact xR _
theorem oz (e:Value) (f:Option Addr):Kp2 (setFlight e f):=by
 unfold setFlight
 refine zy (uv _ _) fun tb=>wy (wU _ _ _ (by decide)) (zJ _)
theorem jN (env:Env) (outer:List Env):Kp2 (behindIsImport env outer):=by
 unfold behindIsImport
 refine wy (zJ _) (wy (zJ _) (zy (uv _ _) fun _=>zJ _))
theorem YX (env:Env) (b:Bool) (l:List Env):Kp2 (keptBack env b l):=by
 unfold keptBack
 split
 ·refine wy (zJ _) ?_
  unfold underTheClaimsCaller
  exact zy (zy rX fun _=>zJ _) fun _=>zJ _
 ·exact zJ _
theorem nE:∀ l:List Env,Kp2 (readyFrames l)
 | []=>zJ _
 | env::outer=>by
  unfold readyFrames
  split
  ·refine zy (oA _) fun o=>wy (zJ _) ?_
   refine zy (jN _ _) fun _=>zy (YX _ _ _) fun _=>zy (q8 fun o vs hd=>⟨vs,hd,rfl⟩) fun _=>nE outer
  ·exact xR _
theorem mR (env:Env):Kp2 (PySem.frameOf env):=by
 unfold PySem.frameOf
 refine zy (by unfold frameEnvs; exact zy rX fun _=>zJ _) fun l=>zy ?_ fun r=>?_
 ·unfold frameObject
  split
  ·exact zJ _
  ·exact zy (nE _) fun _=>zJ _
 ·split
  ·exact zJ _
  ·exact xR _
theorem dm (f:Addr) (b:Bool):Kp2 (entryPlaceOf f b):=by
 unfold entryPlaceOf
 refine zy rX fun _=>?_
 split
 ·exact zJ _
 ·exact zJ _
theorem nG (a b c d e:Value) (l:List Value):Kp2 (EntryCells.newEntry a b c d e l):=by
 unfold EntryCells.newEntry newFields newObj newObjAsIs
 have z:∀ d:Data,Kp2 (do let a ← alloc { cls:=.type "traceback",data:=d }; pure (Value.ref a):Sem Value):=fun d=>zy (dn _) fun _=>zJ _
 generalize ([a,b,c,d,e]++(if l.isEmpty then List.replicate 6 Value.none else l))=q
 simp only []
 exact wy (zy (xR _) fun _=>z _) (z _)
theorem YW (e:Value) (env:Env):Kp2 (noteFrame e env):=by
 unfold noteFrame
 split
 ·refine zy (uv _ _) fun hd=>?_
  have z:∀ f,Kp2 (do setField e 1 (← EntryCells.newEntry hd (← PySem.frameOf env) .none (rawInt f) .none (← entryPlaceOf f (hd != .none)))):=fun f=>zy (mR _) fun _=>zy (dm _ _) fun _=>zy (nG _ _ _ _ _ _) fun _=>wU _ _ _ (by decide)
  refine wy ?_ (z _)
  exact zy (uv _ _) fun _=>wy (zJ _) (zy (wU _ _ _ (by decide)) fun _=>z _)
 ·exact xR _
theorem rY (env:Env) (e:Value):Kp2 (leaving env e):=zy (YW _ _) fun _=>oz _ _
theorem XJ {α:Type} {M:Model} {A:Around} {t:Sem α} {Q:α→Shared→Prop} {E:Value→Shared→Prop} {s:Shared} (k:Kp2 t) (h:wpAny M A t (fun a s'=>K2 s.heap s'.heap→Q a s') (fun e s'=>K2 s.heap s'.heap→E e s') s):wpAny M A t Q E s:=fun Γ p hΓ=>
 Sem.wp_mono M Γ t (fun _ _ _ ⟨x,y⟩=>x y) (fun _ _ _ ⟨x,y⟩=>x y) p s (k M Γ _ _ p s (h Γ p hΓ))
def Chn (h:Heap):Nat→Value→Prop
 | 0,v=>v=.none
 | n+1,v=>∃ a o vs x,v=.ref a∧h.get? a=some o∧o.data=.fields vs∧vs[2]? = some x∧Chn h n x
theorem Chn.k2 {h h':Heap} (k:K2 h h'):∀ {n:Nat} {v:Value},Chn h n v→Chn h' n v
 | 0,_,e=>e
 | _+1,_,⟨a,o,vs,x,e,ho,hd,hx,c⟩=>
  let ⟨o',vs',ho',hd',hx'⟩:=k a o vs ho hd
  ⟨a,o',vs',x,e,ho',hd',hx'.trans hx,Chn.k2 k c⟩
end L2
namespace L2
open PySem PySem.Spec PyProof.Rows
section
variable {P:Program} {w:World} {H H':Hp} {h B:Heap}
theorem HOk.part (x:HOk P w H h) (k:∀ b u,H b≠none→h.get? b=some u→B.get? b=some u):HOk P w H B:=fun a o e=>
 (x a o e).stay (fun b u hb q=>k b u (fun z=>by rcases hb with rfl | y; (rw [e] at z; cases z); (rw [y] at z; cases z)) q) (fun _ q=>q) fun _ _ q=>q
theorem ObjOk.there {a:Addr} {o:HO} (x:ObjOk P w H h a o):∃ u,h.get? a=some u:=by
 cases o with
 | lst xs=>obtain ⟨_,_,_,_,e⟩:=x; exact ⟨_,e⟩
 | tup xs=>obtain ⟨_,_,_,o,e,_⟩:=x; exact ⟨_,e⟩
 | dK kvs=>obtain ⟨_,_,_,_,o,_,_,e,_⟩:=x; exact ⟨_,e⟩
 | dT kvs=>obtain ⟨_,_,_,_,o,_,_,e,_⟩:=x; exact ⟨_,e⟩
 | set S n=>obtain ⟨o,_,_,_,e,_⟩:=x; exact ⟨_,e⟩
 | ins C dx fs=>obtain ⟨_,_,_,e,_⟩:=x; exact ⟨_,e⟩
 | own y=>exact x
 | xd fs=>obtain ⟨_,⟨_,_,_,e,_⟩,_⟩:=x; exact ⟨_,e⟩
 | rng lo hi=>obtain ⟨_,_,_,e⟩:=x; exact ⟨_,e⟩
 | frz ob u=>obtain ⟨e,_⟩:=x; exact ⟨_,e⟩
 | tbl ps=>exact ⟨_,(show h.get? a=some _ from x)⟩
 | met f y=>exact ⟨_,(show h.get? a=some _ from x)⟩
 | ext φ=>obtain ⟨_,e,_⟩:=x; exact e
end
structure FliesB (P:Program) (w:World) (stack:List Env) (H:Hp) (h0:Heap) (H':Hp) (e:Addr) (cls:Value) (h:Heap):Prop where
 ex:∃ B a0,Heap.FlyingW B stack e cls a0 h∧(∀ b o,h0.get? b=some o→H b=none→b∉frs stack→B.get? b=some o)∧(∀ b o,h0.get? b=some o→b∉frs stack→∃ o',B.get? b=some o')∧HOk P w H' B
 slot:∀ b o,h0.get? b=some o→b∈frs stack→∃ sl,h.get? b=some { o with slots:=sl }
 free:∀ b o,h0.get? b=some o→H b=none→H' b=none
 tups:∀ b xs,H b=some (.tup xs)→H' b=some (.tup xs)
 frzs:∀ b o u,H b=some (.frz o u)→H' b=some (.frz o u)
 tbls:∀ b ps,H b=some (.tbl ps)→∃ more,H' b=some (.tbl (ps++more))
 new:h0.get? e=none
section
variable {P:Program} {w:World} {stack:List Env} {H H':Hp} {h0 h:Heap} {e:Addr} {cls:Value}
theorem FliesB.un (f:FliesB P w stack H h0 H' e cls h):Un (frs stack) [] H H' h0 h:=by
 obtain ⟨B,a0,⟨st,_,_,_⟩,k1,k2,_⟩:=f.ex
 refine ⟨fun b o q n hb _=>st b o (k1 b o q n hb),fun b o q _ hb _=>f.slot b o q hb,fun b o q n _=>f.free b o q n,fun b o q _=>?_,f.tups,f.frzs,f.tbls⟩
 by_cases hb:b∈frs stack
 ·obtain ⟨sl,z⟩:=f.slot b o q hb
  exact ⟨_,z⟩
 ·obtain ⟨o',z⟩:=k2 b o q hb
  exact ⟨o',st b o' z⟩
theorem FliesB.hok (f:FliesB P w stack H h0 H' e cls h):HOk P w H' h:=by
 obtain ⟨B,a0,⟨st,_,_,_⟩,_,_,k3⟩:=f.ex
 exact k3.kept st
theorem FliesB.go (f:FliesB P w stack H h0 H' e cls h):∃ B a0,Heap.FlyingW B stack e cls a0 h∧∀ h',Heap.FlyingW B stack e cls a0 h'→h.UpToSlots h'→FliesB P w stack H h0 H' e cls h':=by
 obtain ⟨B,a0,fl,k1,k2,k3⟩:=f.ex
 refine ⟨B,a0,fl,fun h' fl' up=>⟨⟨B,a0,fl',k1,k2,k3⟩,fun b o q hb=>?_,f.free,f.tups,f.frzs,f.tbls,f.new⟩⟩
 obtain ⟨sl,z⟩:=f.slot b o q hb
 obtain ⟨_,ob,ho,hd⟩:=fl.2.2.1.mem hb
 rw [z] at ho
 cases ho
 obtain ⟨sl',z'⟩:=up b _ z hd
 exact ⟨sl',z'⟩
end
structure pI (P:Program) (w:World) (stack:List Env) (H:Hp) (h0:Heap) (H':Hp) (e:Addr) (cls:Value) (h:Heap):Prop extends FliesB P w stack H h0 H' e cls h where
 chn:∃ n,Chn h n (.ref e)
section
variable {X:Cx} {pins:List (Addr × Obj)} {σ:St} {H H':Hp} {s s':Shared} {M:Model} {E:Value→Shared→Prop} {e:Addr} {cls:Value}
theorem Inv.neL (I:Inv X pins σ H s) {b:Addr} {o:Obj} (q:X.s₀.heap.get? b=some o):b≠X.env.locals:=Nat.ne_of_lt (Nat.lt_of_lt_of_le (Heap.lt_size q) I.ok.above)
theorem dL {vs:List Value} {h1:Heap} {Q:Unit→Shared→Prop} (I:Inv X pins σ H s) (hstk:X.stack=X.env::X.outer) (hf:X.env.frame=some X.env.locals) (hex:X.ex=[]) (hx:Heap.MadeExcOf s.heap h1 e cls vs)
  (hQ:∀ h',pI X.prog X.w X.outer X.H₀ X.s₀.heap H e cls h'→Q () { s with heap:=h' }):wpAny M X.A (leaving X.env (.ref e)) Q E { s with heap:=h1 }:=by
 have hfr:X.A.frames=some (X.env::X.outer):=by rw [← hstk]; exact I.ok.frames
 have hfs:frs X.stack=X.env.locals::frs X.outer:=by rw [hstk]; unfold frs; rw [List.filterMap_cons,hf]
 have hl:s.heap.FunFrames (PySem.W.hideAll s.heap (frs X.stack)) (X.env::X.outer):=by
  have z:=I.stack
  rw [hstk] at z
  refine PySem.W.funFrames_hide z fun env he a ha=>?_
  rw [hstk]
  exact List.mem_filterMap.mpr ⟨env,he,ha⟩
 have nx:∀ b,b∉X.ex:=fun b z=>by rw [hex] at z; cases z
 have nst:∀ b o,X.s₀.heap.get? b=some o→b∉frs X.outer→b∉frs X.stack:=fun b o q nb z=>by
  rw [hfs] at z
  rcases List.mem_cons.mp z with z | z
  ·exact I.neL q z
  ·exact nb z
 have c1:Chn h1 1 (.ref e):=by
  obtain ⟨t,he,_⟩:=hx.there
  exact ⟨e,_,_,.none,rfl,he,rfl,rfl,rfl⟩
 refine XJ (rY _ _) ?_
 refine PySem.wpAny_leaves_madeW (s:={ s with heap:=h1 }) (h:=s.heap) (base:=PySem.W.hideAll s.heap (frs X.stack)) hfr hf (fun b o q=>PySem.W.of_hideAll _ q) hl hx fun h' t x1 x2 x3 x4 k2=>hQ h' ⟨⟨⟨_,_,x1,fun b o q n nb=>?_,fun b o q nb=>?_,?_⟩,fun b o q hb=>?_,fun b o q n=>I.base.free b o q n (nx b),I.base.tups,I.base.frzs,I.base.tbls,?_⟩,1,c1.k2 k2⟩
 ·exact PySem.W.hideAll_get _ (I.base.keep b o q n nb (nx b)) (nst b o q nb)
 ·obtain ⟨o',z⟩:=I.base.there b o q (nx b)
  exact ⟨o',PySem.W.hideAll_get _ z (nst b o q nb)⟩
 ·exact I.hok.part fun b u hb q=>PySem.W.hideAll_get _ q fun z=>hb (I.stkFree b z)
 ·obtain ⟨sl,z⟩:=I.base.slot b o q (I.ok.frf b hb) hb (nx b)
  obtain ⟨_,ob,ho,hd⟩:=I.funs.mem hb
  rw [z] at ho
  cases ho
  obtain ⟨sl',z'⟩:=x4 b _ (hx.keeps b _ z) hd
  exact ⟨sl',z'⟩
 ·cases q:X.s₀.heap.get? e with
  | none=>rfl
  | some o=>
   obtain ⟨o',z⟩:=I.base.there e o q (nx e)
   rw [hx.new] at z; cases z
theorem Ts {Q:Unit→Shared→Prop} (I:Inv X pins σ H s) (hstk:X.stack=X.env::X.outer) (hf:X.env.frame=some X.env.locals) (hex:X.ex=[]) (f:pI X.prog X.w X.stack H s.heap H' e cls s'.heap)
  (hQ:∀ h',pI X.prog X.w X.outer X.H₀ X.s₀.heap H' e cls h'→Q () { s' with heap:=h' }):wpAny M X.A (leaving X.env (.ref e)) Q E s':=by
 have hfr:X.A.frames=some (X.env::X.outer):=by rw [← hstk]; exact I.ok.frames
 have hfs:frs X.stack=X.env.locals::frs X.outer:=by rw [hstk]; unfold frs; rw [List.filterMap_cons,hf]
 have nx:∀ b,b∉X.ex:=fun b z=>by rw [hex] at z; cases z
 have nst:∀ b o,X.s₀.heap.get? b=some o→b∉frs X.outer→b∉frs X.stack:=fun b o q nb z=>by
  rw [hfs] at z
  rcases List.mem_cons.mp z with z | z
  ·exact I.neL q z
  ·exact nb z
 obtain ⟨B,a0,fl,k1,k2,k3⟩:=f.ex
 have fl':=fl
 rw [hstk] at fl'
 obtain ⟨cn,ch⟩:=f.chn
 refine XJ (rY _ _) ?_
 refine PySem.wpAny_leaves_onW hfr hf fl' fun h' x1 x2 k2'=>hQ h' ⟨⟨⟨B,a0,x1,fun b o q n nb=>?_,fun b o q nb=>?_,k3⟩,fun b o q hb=>?_,fun b o q n=>?_,fun b xs q=>f.tups b xs (I.base.tups b xs q),fun b o u q=>f.frzs b o u (I.base.frzs b o u q),fun b ps q=>?_,?_⟩,cn,ch.k2 k2'⟩
 ·exact k1 b o (I.base.keep b o q n nb (nx b)) (I.base.free b o q n (nx b)) (nst b o q nb)
 ·obtain ⟨o',z⟩:=I.base.there b o q (nx b)
  exact k2 b o' z (nst b o q nb)
 ·obtain ⟨sl,z⟩:=I.base.slot b o q (I.ok.frf b hb) hb (nx b)
  have hb':b∈frs X.stack:=by rw [hfs]; exact List.mem_cons_of_mem _ hb
  obtain ⟨sl',z'⟩:=f.slot b _ z hb'
  obtain ⟨_,ob,ho,hd⟩:=fl.2.2.1.mem hb'
  rw [z'] at ho
  cases ho
  obtain ⟨sl2,z2⟩:=x2 b _ z' hd
  exact ⟨sl2,z2⟩
 ·obtain ⟨o',z⟩:=I.base.there b o q (nx b)
  exact f.free b o' z (I.base.free b o q n (nx b))
 ·obtain ⟨m1,e1⟩:=I.base.tbls b ps q
  obtain ⟨m2,e2⟩:=f.tbls b _ e1
  exact ⟨m1++m2,by rw [e2,Array.append_assoc]⟩
 ·cases q:X.s₀.heap.get? e with
  | none=>rfl
  | some o=>
   obtain ⟨o',z⟩:=I.base.there e o q (nx e)
   rw [f.new] at z; cases z
end
def ExcK (K:PySem.W.Frag) (C:Addr):Prop:=PySem.W.excIn K C [.type "ValueError",.type "Exception",.type "BaseException",.type "object"] "ValueError.__new__"=true
theorem Xd {K:PySem.W.Frag} {h:Heap} {C:Addr} (X:K.In h) (q:ExcK K C):∃ bm N nm qn bs hdct sn sub ab col dd k0 k1 k2 k3 k5 mN,h.get? C=some (excClassObj nm qn C N bs bm hdct sn sub ab col dd k0 k1 k2 k3 k5 "ValueError.__new__")∧h.Ns N mN∧mN "__init__"=none∧OwnTail h [.type "ValueError",.type "Exception",.type "BaseException",.type "object"] bm:=by
 unfold ExcK PySem.W.excIn at q
 split at q
 ·rename_i d1 cl s1 look
  split at q
  ·rename_i C1 tl w0 w1 w2 w3 nid w5 em es
   simp only [Bool.and_eq_true,Bool.not_eq_true',beq_iff_eq] at q
   obtain ⟨⟨⟨⟨⟨rfl,rfl⟩,q1⟩,q2⟩,q3⟩,q4⟩:=q
   obtain ⟨a1,a2,a3,a4,a5,a6,a7,a8,a9,b1,b2⟩:=cl
   dsimp only at em q1 q3 q4
   subst em q1
   obtain rfl:s1=#[w0,w1,w2,w3,some (.builtin "ValueError.__new__"),w5]:=by
    obtain ⟨l⟩:=s1
    simp only at es; rw [es]
   exact ⟨tl,a4,a1,a5,a2,a6,a7,a8,a9,b1,d1,w0,w1,w2,w3,w5,_,X _ _ look,.of_isNs (PySem.W.isNs_of_in X q3),PySem.W.nsMap_none_of_in X q3 q4,PySem.W.tail_of_in X q2⟩
  ·cases q
 ·cases q
def XOk (X:Cx) (C:Addr) (H:Hp):Prop:=∀ (pins:List (Addr × Obj)) (σ:St) (s:Shared) (h1:Heap) (e:Addr) (vs:List Value),Inv X pins σ H s→Heap.MadeExcOf s.heap h1 e (.ref C) vs→X.xe (.ref e) { s with heap:=h1 }
def Wu (X:Cx) (C:Addr) (te:TE):TS:=fun _ σ H=>te σ H fun _ H1=>XOk X C H1
theorem iK {X:Cx} {C:Addr} {x:Str} {a:Expr} {te:TE} {np cpos pos:Pos} (hc:X.calm=true) (hg:Gl X x) (hm:X.mg x=some (.ref C)) (hC:ExcK X.K C) (ha:PE X a te)
  (hdb:(x == ("__debug__":Str))=false:=by decide) (he:starEach [a] X.env=(false,eval a X.env)::starEach [] X.env:=by rfl):PS X (.Raise (some (.Call (.Name x np) [a] [] cpos)) none pos) (Wu X C te):=by
 intro pins s σ H D I h
 obtain ⟨bm,N,nm,qn,bs,hdct,sn,sub,ab,col,dd,k0,k1,k2,k3,k5,mN,hO,hN,hni,T⟩:=Xd I.ok.mod.kin hC
 refine PySem.wpAny_Raise_call_subU (C:=C) (nm:=nm) (q:=qn) (N:=N) (bs:=bs) (bm:=bm) (hdct:=hdct) (sn:=sn) (sub:=sub) (ab:=ab) (col:=col) (dd:=dd) (k0:=k0) (k1:=k1) (k2:=k2) (k3:=k3) (k5:=k5)
  PySem.F.excBase_ValueError (by decide) PySem.F.excBase_ValueError (mN:=mN) (T.hasType PySem.F.excBase_ValueError.hasBase) (I.ok.hd hc) (by rw [he]; rfl) hni (vi I hg hm ⟨rfl,?_⟩ hdb)
 have z:=zH ha ym he cpos pins s σ H (fun us H1=>us.length=1∧XOk X C H1) I (show te σ H (fun x H1=>[x].length=1∧XOk X C H1) from by
  have h:te σ H (fun _ H1=>XOk X C H1):=h
  simpa using h)
 rw [he] at z ⊢
 refine Calls.evalArgs_plain (thn z fun vs s1 ⟨us,H1,I1,r,hl,q⟩=>⟨rfl,?_,I1.bk _ _ hO,hN.keeps I1.bk,T.keeps I1.bk,fun h' e hx=>q pins σ s1 h' e vs I1 hx⟩)
 show vs.length≤_
 rw [← r.length,hl]
 decide
def CX1 (P:Program) (w:World):CXT:=fun outer H s E e s'=>∃ a C H',e=.ref a∧s'.os=s.os∧AllBare s'.gens∧pI P w outer H s.heap H' a (.ref C) s'.heap∧E (.ref C) none H'
section
variable {P:Program} {w:World} {K:PySem.W.Frag} {mg:Str→Option Value} {base:Heap} {N:List Str} {qual:Str} {scope:Scope} {f C:Addr} {cd:Value} {A:Around} {outer:List Env} {s:Shared} {H H1:Hp} {E:XK}
theorem Wi (h:E (.ref C) none H1):XOk (yo (CX1 P w) P w K mg base N qual scope f cd A outer s H E) C H1:=fun pins σ s' h1 e vs I hx=>
 dL (X:=yo (CX1 P w) P w K mg base N qual scope f cd A outer s H E) I rfl rfl rfl hx fun h' fl=>⟨e,C,H1,rfl,I.os,I.bare,fl,h⟩
theorem SD:PassesOwn (model P w) (A.deeper (envOfC qual scope s.heap.objs.size f cd)) (envOfC qual scope s.heap.objs.size f cd) (yo (CX1 P w) P w K mg base N qual scope f cd A outer s H E).xe:=PassesOwn.leaving
end
section
variable {X:Cx} {CX:CXT} {k:Nat} {f C:Addr} {fd:FuncData} {ps:List Str} {sp:Sp} {dvs:List V} {ds:List Value} {x y:Str} {p pos:Pos} {e:Expr} {es:List Expr} {t:TA}
def XPx (X:Cx) (pins:List (Addr × Obj)) (σ:St) (E:XK) (e:Value) (s':Shared):Prop:=∃ a C H' H1 s1,e=.ref a∧Inv X pins σ H1 s1∧s'.os=s1.os∧AllBare s'.gens∧pI X.prog X.w X.stack H1 s1.heap H' a (.ref C) s'.heap∧E (.ref C) none H'
theorem cu (F:FnOk X.prog X.w X.K X.mg X.base (CX1 X.prog X.w) k f fd ps sp) (hr:Room k X.A) (hg:Gl X x) (hm:X.mg x=some (.ref f)) (hk:PySem.W.keepIn X.K (.ref f)=true) (hb:Binds X.K fd ps [])
  (ha:PA X.nox (e::es) t) {pins:List (Addr × Obj)} {s:Shared} {σ:St} {H:Hp} {Q:VK} {E:XK} (I:Inv X pins σ H s) (h:t σ H fun vs H1=>sp vs H1 Q E)
  (hdb:(x == ("__debug__":Str))=false:=by decide) (he:starEach (e::es) X.env=(false,eval e X.env)::starEach es X.env:=by rfl) (hpl:(backTo pos (starEach es X.env)).any (·.1)=false:=by rfl):
  wpAny (model X.prog X.w) X.A (eval (.Call (.Name x p) (e::es) [] pos) X.env) (EP X pins σ Q) (XPx X pins σ E) s:=by
 refine wpAny_Call_Name_kw (vi I hg hm ?_ hdb)
 refine PySem.W.callWith_K (h₀:=X.base) I.ok.mod.kin hk (wpAny_mono (ha pos pins s σ H _ (I.wish _) h) (fun us s1 ⟨vs,H1,I1,r,q⟩=>⟨I1.unwish.kIn,?_⟩) fun _ _ z=>z.elim) he hpl
 have I1:=I1.unwish
 have hl:us.length=ps.length:=by rw [← r.length]; exact F.len _ _ _ _ q
 refine wpAny_call (codeAny_mono (F.run X.A X.stack s1 H1 ⟨us,[]⟩ us vs Q E hr I1.env0 ?_ r q) fun rr s' hq=>?_)
 ·have z:=hb s1 us I1.kIn (by rw [List.append_nil]; exact hl)
  rw [List.append_nil] at z
  exact z
 cases rr with
 | error e=>
  obtain ⟨a,C,H',ee,os,bare,fl,z⟩:=hq
  exact ⟨a,C,H',H1,s1,ee,I1,os,bare,fl,z⟩
 | ok fl=>
  cases fl with
  | ret u=>exact I1.after hq
  | next=>exact False.elim hq
  | brk=>exact False.elim hq
  | cont=>exact False.elim hq
end
abbrev TB:=(St→Hp→Prop)→XK→St→Hp→Prop
def PB (X:Cx) (body:List Stmt) (t:TB):Prop:=∀ (pins:List (Addr × Obj)) (s:Shared) (σ:St) (H:Hp) (nx:St→Hp→Prop) (E:XK),Inv X pins σ H s→t nx E σ H→
 wpAny (model X.prog X.w) X.A (execs body X.env) (fun f s'=>f=.next∧∃ σ' H',Inv X pins σ' H' s'∧nx σ' H') (XPx X pins σ E) s
def Cx.inH (X:Cx) (a:Addr):Cx:={ X with A:=X.A.mark (some (.ref a)),calm:=false,xe:=fun _ _=>False }
section
variable {X:Cx} {pins:List (Addr × Obj)} {σ:St} {H:Hp} {s:Shared} {a:Addr}
theorem Inv.inH (I:Inv X pins σ H s) (a:Addr):Inv (X.inH a) pins σ H s:=
 ⟨⟨I.ok.mod,I.ok.kind,I.ok.glob,I.ok.blt,I.ok.above,I.ok.inj,I.ok.has,I.ok.cab,fun z=>Bool.noConfusion z,I.ok.frames,I.ok.stk,I.ok.exf,I.ok.bs,I.ok.bsz,I.ok.noex,I.ok.exfs,I.ok.funs,I.ok.frf⟩,I.os,I.bare,I.base,I.loc,I.cell,I.free,I.freeC,I.pin,I.hok,I.len⟩
theorem Inv.outH (ok:X.Ok) (I:Inv (X.inH a) pins σ H s):Inv X pins σ H s:=⟨ok,I.os,I.bare,I.base,I.loc,I.cell,I.free,I.freeC,I.pin,I.hok,I.len⟩
theorem SP.outH {D:ua} {f:Flow} {s':Shared} (ok:X.Ok) (h:SP (X.inH a) pins D f s'):SP X pins D f s':=by
 cases f with
 | next=>obtain ⟨σ',H',I,q⟩:=h; exact ⟨σ',H',I.outH ok,q⟩
 | brk=>obtain ⟨σ',H',I,q⟩:=h; exact ⟨σ',H',I.outH ok,q⟩
 | cont=>obtain ⟨σ',H',I,q⟩:=h; exact ⟨σ',H',I.outH ok,q⟩
 | ret u=>obtain ⟨v,σ',H',I,r,q⟩:=h; exact ⟨v,σ',H',I.outH ok,r,q⟩
end
section
variable {X:Cx} {t:TB} {th:TS} {y:Str} {c:Value} {py hpos pos:Pos} {body:List Stmt} {b₀:Stmt} {suite:List Stmt}
def Qr (K:PySem.W.Frag) (c:Value) (t:TB) (th:TS):TS:=fun D σ H=>t D.nx (fun cls _ H'=>PySem.W.exmOne K cls c=some true∧th D σ H') σ H
theorem iJ (hstk:X.stack=X.env::X.outer) (hf:X.env.frame=some X.env.locals) (hb:PB X body t) (hh:∀ a,PSs (X.inH a) (b₀::suite) th) (hg:Gl X y) (hm:X.mg y=some c) (hd:(y == ("__debug__":Str))=false:=by decide):
  PS X (.Try body [.ExceptHandler (some (.Name y py)) none (b₀::suite) hpos] [] [] pos) (Qr X.K c t th):=by
 intro pins s σ H D I h
 have hfr:X.A.frames=some (X.env::X.outer):=by rw [← hstk]; exact I.ok.frames
 refine wpAny_Try_except (wpAny_mono (hb pins s σ H _ _ I h) (fun f s1 ⟨ef,σ',H',I',q⟩=>?_) fun e s1 hx=>?_)
 ·subst ef
  exact wpAny_execs_nil ⟨σ',H',I',q⟩
 ·obtain ⟨a,C,H',H1,s2,rfl,I1,os,bare,fl,hex,hth⟩:=hx
  obtain ⟨B,a0,fl0,go⟩:=fl.go
  have inv:∀ h',Heap.FlyingW B X.stack a (.ref C) a0 h'→s1.heap.UpToSlots h'→Inv X pins σ H' { s1 with heap:=h' }:=fun h' x1 x2=>
   have f':=go h' x1 x2
   I1.call' (s':={ s1 with heap:=h' }) os f'.un f'.hok bare (fun _ z=>nomatch z)
  rw [hstk] at fl0
  refine wpAny_looks_onW hfr hf fl0 fun h4 held4 up4=>?_
  refine wpAny_landsW held4 fun h5 fl5 up5=>?_
  have I5:=inv h5 (by rw [hstk]; exact fl5) (up4.trans up5)
  obtain ⟨ob,hob,hoc⟩:=fl5.there
  have ty:PySem.W.Looks (model X.prog X.w) h5 (typeOf (.ref a)) (.ref C):=by rw [← hoc]; exact (PySem.W.Looks.ld hob).andThen .now
  refine wpAny_handleBy_cons (codeAny_handlers_test (vi (X:=X.inH a) (I5.inH a) hg hm ((PySem.W.exm_one I5.kIn ty hex).here ?_) hd)) (by intro q; cases q)
  refine codeAny_handlers_suite ?_
  refine lands_againW fl5 fun h6 fl6 up6=>?_
  have I6:=inv h6 (by rw [hstk]; exact fl6) ((up4.trans up5).trans up6)
  exact wpAny_mono (hh a pins _ σ H' D (I6.inH a) hth) (fun f s3 q=>SP.outH I.ok q) fun _ _ z=>z.elim
end
section
variable {X:Cx} {pins:List (Addr × Obj)} {σ:St} {H:Hp} {s:Shared}
end
section
variable {X:Cx} {t:TB} {th:TS} {y n:Str} {j:Nat} {c:Value} {py hpos pos:Pos} {body:List Stmt} {b₀:Stmt} {suite:List Stmt}
end
end L2
namespace L2
open PySem PySem.Spec PyProof.Rows PySem.W PySem.Builtin PySem.Builtin.ObjectAttr PySem.Builtin.Getset_descriptor
structure se (K:PySem.W.Frag) (C:Addr):Prop where
 ga:PySem.W.findIn K (.ref C) "__getattribute__"=some (some (.builtin "BaseException.__getattribute__"))
 gn:PySem.W.findIn K (.ref C) "__getattr__"=some none
 ha:PySem.W.findIn K (.ref C) "__class__"=some (some (.builtin "object.__class__"))
 hn:PySem.W.specialIn K (.builtin "object.__class__") "__get__"=some (some (.builtin "getset_descriptor.__get__"))
 htk:PySem.W.takesIn K (.builtin "object.__class__")=some true
 hm:PySem.W.mroIn K C (.type "object")=some true
 hb:PySem.W.mroIn K C (.type "BaseException")=some true
section
variable {prog:Program} {w:World} {A:Around} {E:Value→Shared→Prop} {s:Shared} {K:PySem.W.Frag} {a C:Addr} {oa:Obj}
end
end L2
namespace OD
open PySem PySem.Spec PyProof.Rows L2
variable {Z:Hp}
def XOn (X:Cx) (C:Addr) (H':Hp):Prop:=∀ (pins:List (Addr × Obj)) (σ:L2.St) (H:Hp) (s:Shared) (a:Addr) (s':Shared),Inv X pins σ H s→s'.os=s.os→AllBare s'.gens→pI X.prog X.w X.stack H s.heap H' a (.ref C) s'.heap→X.xe (.ref a) s'
def Ecan (X:Cx):XK:=fun cls _ H'=>∃ C,cls=.ref C∧XOn X C H'
theorem pass_can {X:Cx}:tT (CX1 X.prog X.w) X (Ecan X):=fun pins σ H s e s' I ⟨a,C,H',ee,os,bare,fl,C',ec,h⟩=>by
 cases ec
 subst ee
 exact h pins σ H s a s' I os bare fl
def Rz (X:Cx) (C:Addr):Prop:=∀ H',Same (Zx X) H'→XOk X C H'∧XOn X C H'
section
variable {P:Program} {w:World} {K:PySem.W.Frag} {mg:Str→Option Value} {base:Heap} {N:List Str} {qual:Str} {scope:Scope} {f C:Addr} {cd:Value} {A:Around} {outer:List Env} {s:Shared} {H H1:Hp} {E:XK}
theorem lV (h:∀ H',Same H H'→E (.ref C) none H'):Rz (yo (CX1 P w) P w K mg base N qual scope f cd A outer s H E) C:=fun H' z=>by
 rw [n9] at z
 refine ⟨Wi (h H' z),fun pins σ H2 s2 a s' I os bare fl=>?_⟩
 exact Ts (X:=yo (CX1 P w) P w K mg base N qual scope f cd A outer s H E) I rfl rfl rfl fl fun h' fl'=>⟨a,C,H',rfl,os.trans I.os,bare,fl',h H' z⟩
end
abbrev zV:=List Dt→(Dt→Prop)→(Addr→Prop)→Prop
def vt (K:PySem.W.Frag) (S:zV):Sp:=fun vs H Q E=>∃ (W:Vw) (ds:List Dt) (Qd:Dt→Prop) (Ed:Addr→Prop),W.h=H∧AllIs K W.g ds vs∧S ds Qd Ed∧(∀ d v W',Le W W'→Is K W'.g d v→Qd d→Q v W'.h)∧∀ C H',Same W.h H'→Ed C→E (.ref C) none H'
def xB (K:PySem.W.Frag) (S:zV):Sp:=fun vs H Q E=>∃ (W:Vw) (ds:List Dt) (Qd:Dt→Prop) (Ed:Addr→Prop),W.h=H∧AllIs K W.g ds vs∧S ds Qd Ed∧
 (∀ es p xs W',Le W W'→W.h p=none→W'.h p=some (.lst xs)→W'.g p=none→AllIs K W'.g es xs→Qd (.lst es)→Q (.ref p) W'.h)∧∀ C H',Same W.h H'→Ed C→E (.ref C) none H'
structure DOkX (P:Program) (w:World) (K:PySem.W.Frag) (mg:Str→Option Value) (base:Heap) (n:Nat) (x:Str) (S:zV):Prop where
 ex:∃ f fd ps,mg x=some (.ref f)∧PySem.W.keepIn K (.ref f)=true∧Binds K fd ps []∧FnOk P w K mg base (CX1 P w) n f fd ps (vt K S)
structure FOkX (P:Program) (w:World) (K:PySem.W.Frag) (mg:Str→Option Value) (base:Heap) (n:Nat) (x:Str) (S:zV):Prop where
 ex:∃ f fd ps,mg x=some (.ref f)∧PySem.W.keepIn K (.ref f)=true∧Binds K fd ps []∧FnOk P w K mg base (CX1 P w) n f fd ps (xB K S)
section
variable {P:Program} {w:World} {K:PySem.W.Frag} {mg:Str→Option Value} {base:Heap}
theorem Fun.okX {CX:CXT} {x qual:Str} {st:Stmt} {f:Addr} {fd:FuncData} {N ps:List Str} {k:Nat} {sp:Sp} (F:Fun K x qual st f fd) (S:zh N ps (defScope st)) (len:∀ vs H Q E,sp vs H Q E→vs.length=ps.length)
  (hbody:∀ (cdv:Value) (A:Around) (outer:List Env) (s:Shared) (H:Hp) (vs:List V) (Q:VK) (E:XK),Room k (A.deeper (envOfC qual (defScope st) s.heap.objs.size f cdv))→sp vs H Q E→
   ∃ t,PSs (yo CX P w K mg base N qual (defScope st) f cdv A outer s H E) (defBody st) t∧t { nx:=fun _ H'=>Q .non H',rt:=Q } (start N vs) H):FnOk P w K mg base CX (k+1) f fd ps sp:=by
 obtain ⟨oc,od,kV,doc,pm,an,cdv,ct,osl,rfl,lk,hcd⟩:=F.ex
 exact X5 lk hcd S len fun A outer s H vs Q E hr h=>hbody cdv A outer s H vs Q E hr h
theorem SK {x qual:Str} {st:Stmt} {f:Addr} {fd:FuncData} {N ps:List Str} {k:Nat} {S:zV} (F:Fun K x qual st f fd) (sc:zh N ps (defScope st)) (len:∀ ds Q R,S ds Q R→ds.length=ps.length)
  (hbody:∀ (cdv:Value) (A:Around) (outer:List Env) (s:Shared) (H:Hp) (E:XK),Room k (A.deeper (envOfC qual (defScope st) s.heap.objs.size f cdv))→∀ (ds:List Dt) (Q:Dt→Prop) (R:Addr→Prop),S ds Q R→
   (∀ C,R C→Rz (yo (CX1 P w) P w K mg base N qual (defScope st) f cdv A outer s H E) C)→
   ∃ t,DSs (yo (CX1 P w) P w K mg base N qual (defScope st) f cdv A outer s H E) .d (defBody st) t∧t { nx:=fun _=>Q .non,rt:=Q } (z5 N.length ds)):FnOk P w K mg base (CX1 P w) (k+1) f fd ps (vt K S):=by
 refine Fun.okX F sc (fun vs H Q E h=>?_) (fun cdv A outer s H vs Q E hr h=>?_)
 ·obtain ⟨W,ds,Qd,Ed,_,ia,hS,_⟩:=h
  rw [← ia.length]
  exact len ds Qd Ed hS
 obtain ⟨W,ds,Qd,Ed,rfl,ia,hS,kk,ke⟩:=h
 obtain ⟨t,⟨ts,p,l⟩,ht⟩:=hbody cdv A outer s W.h E hr ds Qd Ed hS fun C hC=>lV fun H' z=>ke C H' z hC
 refine ⟨ts,p,l W W.g (z5 N.length ds) (start N vs) W { nx:=fun _=>Qd .non,rt:=Qd } _ (x9 ia (uN (Nat.succ_ne_self _))) ⟨fun ρ σ W' a q=>kk .non .non W' a.le (is_non.mpr rfl) q,fun d v W' s' i' q=>kk d v W' s' i' q,fun _ _ _ _ q=>q.elim,fun _ _ _ _ q=>q.elim⟩ ht⟩
theorem bG {x qual:Str} {st:Stmt} {f:Addr} {fd:FuncData} {N ps:List Str} {k:Nat} {S:zV} (F:Fun K x qual st f fd) (sc:zh N ps (defScope st)) (len:∀ ds Q R,S ds Q R→ds.length=ps.length)
  (hbody:∀ (cdv:Value) (A:Around) (outer:List Env) (s:Shared) (H:Hp) (E:XK),Room k (A.deeper (envOfC qual (defScope st) s.heap.objs.size f cdv))→∀ (ds:List Dt) (Q:Dt→Prop) (R:Addr→Prop),S ds Q R→
   (∀ C,R C→Rz (yo (CX1 P w) P w K mg base N qual (defScope st) f cdv A outer s H E) C)→
   ∃ t,DSs (yo (CX1 P w) P w K mg base N qual (defScope st) f cdv A outer s H E) .l (defBody st) t∧t { nx:=fun _=>False,rt:=Q } (z5 N.length ds)):FnOk P w K mg base (CX1 P w) (k+1) f fd ps (xB K S):=by
 refine Fun.okX F sc (fun vs H Q E h=>?_) (fun cdv A outer s H vs Q E hr h=>?_)
 ·obtain ⟨W,ds,Qd,Ed,_,ia,hS,_⟩:=h
  rw [← ia.length]
  exact len ds Qd Ed hS
 obtain ⟨W,ds,Qd,Ed,rfl,ia,hS,kk,ke⟩:=h
 obtain ⟨t,⟨ts,p,l⟩,ht⟩:=hbody cdv A outer s W.h E hr ds Qd Ed hS fun C hC=>lV fun H' z=>ke C H' z hC
 exact ⟨ts,p,l W W.g (z5 N.length ds) (start N vs) W { nx:=fun _=>False,rt:=Qd } _ (x9 ia (uN (Nat.succ_ne_self _))) ⟨fun ρ σ W' a q=>q.elim,fun d v W' s' ⟨es,p,xs,e1,e2,e3,e4,e5,e6⟩ q=>by subst e1; subst e2; exact kk es p xs W' s' e3 e4 e5 e6 q,fun _ _ _ _ q=>q.elim,fun _ _ _ _ q=>q.elim⟩ ht⟩
theorem DOkX.mk' {x qual:Str} {st:Stmt} {f:Addr} {fd:FuncData} {ps:List Str} {n:Nat} {S:zV} (F:Fun K x qual st f fd) (hm:mg x=some (.ref f)) (hb:Binds K fd ps []) (h:FnOk P w K mg base (CX1 P w) n f fd ps (vt K S)):DOkX P w K mg base n x S:=
 ⟨f,fd,ps,hm,F.kp,hb,h⟩
theorem FOkX.mk' {x qual:Str} {st:Stmt} {f:Addr} {fd:FuncData} {ps:List Str} {n:Nat} {S:zV} (F:Fun K x qual st f fd) (hm:mg x=some (.ref f)) (hb:Binds K fd ps []) (h:FnOk P w K mg base (CX1 P w) n f fd ps (xB K S)):FOkX P w K mg base n x S:=
 ⟨f,fd,ps,hm,F.kp,hb,h⟩
theorem DOkX.mono {x:Str} {m n:Nat} {S:zV} (h:DOkX P w K mg base m x S) (hl:m≤n):DOkX P w K mg base n x S:=
 let ⟨f,fd,ps,h1,h2,h3,h4⟩:=h.ex; ⟨f,fd,ps,h1,h2,h3,h4.mono hl⟩
theorem FOkX.mono {x:Str} {m n:Nat} {S:zV} (h:FOkX P w K mg base m x S) (hl:m≤n):FOkX P w K mg base n x S:=
 let ⟨f,fd,ps,h1,h2,h3,h4⟩:=h.ex; ⟨f,fd,ps,h1,h2,h3,h4.mono hl⟩
end
section
variable {X:Cx} {e a:Expr} {es:List Expr} {t:DTA} {ta:DTE} {n:Nat} {x y:Str} {S:zV} {p pos np cpos:Pos} {fr:Fr} {C:Addr}
theorem qV {F:Hp} {W:Vw} {ρ:DS} {σ:L2.St} {K:PySem.W.Frag} (r:Rl K Z F W ρ σ):Same Z W.h:=r.z.trans r.fr
def lx (X:Cx) (S:zV) (t:DTA):DTE:=fun ρ Q=>t ρ fun ds=>S ds Q (Rz X)
theorem ql (G:DOkX X.prog X.w X.K X.mg X.base n x S) (hr:Room n X.A) (hg:Gl X x) (ha:DA X (e::es) t) (hdb:(x == ("__debug__":Str))=false:=by decide)
  (he:starEach (e::es) X.env=(false,eval e X.env)::starEach es X.env:=by rfl) (hpl:(backTo pos (starEach es X.env)).any (·.1)=false:=by rfl):DE X (.Call (.Name x p) (e::es) [] pos) (lx X S t):=by
 obtain ⟨f,fd,ps,hm,hk,hb,F⟩:=G.ex
 obtain ⟨te,p1,l1⟩:=ha
 refine ⟨_,vh F hr hg hm hk hb .nil pass_can p1 hdb he hpl,fun ρ σ H Q r h R k=>l1 ρ σ H _ r h _ fun ds vs H1 s1 i1 q1=>?_⟩
 rw [List.append_nil]
 exact ⟨H1,ds,Q,Rz X,rfl,i1,q1,fun d v H2 s2 i2 q2=>k d v H2 (s1.trans s2) i2 q2,fun C H' s' hC=>⟨C,rfl,(hC H' (((qV r).trans s1.h).trans s')).2⟩⟩
theorem w_ (G:FOkX X.prog X.w X.K X.mg X.base n x S) (hr:Room n X.A) (hg:Gl X x) (ha:DA X (e::es) t) (hdb:(x == ("__debug__":Str))=false:=by decide)
  (he:starEach (e::es) X.env=(false,eval e X.env)::starEach es X.env:=by rfl) (hpl:(backTo pos (starEach es X.env)).any (·.1)=false:=by rfl):DF X (.Call (.Name x p) (e::es) [] pos) (lx X S t):=by
 obtain ⟨f,fd,ps,hm,hk,hb,F⟩:=G.ex
 obtain ⟨te,p1,l1⟩:=ha
 refine ⟨_,vh F hr hg hm hk hb .nil pass_can p1 hdb he hpl,fun ρ σ H Q r h R k=>l1 ρ σ H _ r h _ fun ds vs H1 s1 i1 q1=>?_⟩
 rw [List.append_nil]
 exact ⟨H1,ds,Q,Rz X,rfl,i1,q1,fun es p xs H2 s2 h0 h1 h2 i2 q2=>k es p xs H2 (s1.trans s2) (s1.h.free h0) h1 h2 i2 q2,fun C H' s' hC=>⟨C,rfl,(hC H' (((qV r).trans s1.h).trans s')).2⟩⟩
def TQ (X:Cx) (C:Addr) (ta:DTE):DTS:=fun _ ρ=>ta ρ fun _=>Rz X C
theorem uG (hc:X.calm=true) (hg:Gl X x) (hm:X.mg x=some (.ref C)) (hC:ExcK X.K C) (ha:DE X a ta) (hdb:(x == ("__debug__":Str))=false:=by decide)
  (he:starEach [a] X.env=(false,eval a X.env)::starEach [] X.env:=by rfl):DSt X fr (.Raise (some (.Call (.Name x np) [a] [] cpos)) none pos) (TQ X C ta):=by
 obtain ⟨te,p1,l1⟩:=ha
 exact ⟨_,iK hc hg hm hC p1 hdb he,fun W0 G ρ σ W D D' at_ s h=>l1 ρ σ W _ at_.rl h _ fun d v W1 s1 i1 q1=>(q1 W1.h ((qV at_.rl).trans s1.h)).1⟩
def e9 (K:PySem.W.Frag) (Z:Hp) (fr:Fr) (t:DTS):TS:=fun D' σ H=>∃ (W0:Vw) (G:Hp) (ρ:DS) (W:Vw) (D:uM),W.h=H∧At K Z W0 G W ρ σ∧Sim K Z fr W0 G D D'∧t D ρ
theorem DSs.up {sts:List Stmt} {t:DTS} (h:DSs X fr sts t):PSs X sts (e9 X.K (Zx X) fr t):=by
 obtain ⟨ts,p,l⟩:=h
 intro pins s σ H D' I q
 obtain ⟨W0,G,ρ,W,D,rfl,a,sm,ht⟩:=q
 exact p pins s σ W.h D' I (l W0 G ρ σ W D D' a sm ht)
def Vw.at (W:Vw) (H':Hp) (s:Same W.h H'):Vw:=⟨W.g,H',W.sub.trans s⟩
theorem X0 {W:Vw} {H':Hp} (s:Same W.h H'):Le W (W.at H' s):=⟨Same.refl _,s,fun _ _ h=>h⟩
def QW (K:PySem.W.Frag) (c:Value) (S:zV) (t:DTA) (th:DTS):DTS:=fun D ρ=>t ρ fun ds=>S ds (fun _=>D.nx ρ) fun C=>PySem.W.exmOne K (.ref C) c=some true∧th D ρ
variable {b₀:Stmt} {suite:List Stmt} {th:DTS} {c:Value} {py hpos epos tpos:Pos}
theorem bC {f:Addr} {fd:FuncData} {ps:List Str} {sp:Sp} {te:TA} (F:FnOk X.prog X.w X.K X.mg X.base (CX1 X.prog X.w) n f fd ps sp) (hr:Room n X.A) (hg:Gl X x) (hm:X.mg x=some (.ref f)) (hk:PySem.W.keepIn X.K (.ref f)=true) (hb:Binds X.K fd ps []) (ha:PA X.nox (e::es) te)
  (hs:swapsWith (.Call (.Name x p) (e::es) [] pos) none epos.line X.env=pure false:=by rfl) (hdb:(x == ("__debug__":Str))=false:=by decide)
  (he:starEach (e::es) X.env=(false,eval e X.env)::starEach es X.env:=by rfl) (hpl:(backTo pos (starEach es X.env)).any (·.1)=false:=by rfl):
  PB X [.Expr (.Call (.Name x p) (e::es) [] pos) epos] (fun nx E σ H=>te σ H fun vs H1=>sp vs H1 (fun _ H2=>nx σ H2) E):=by
 intro pins s σ H nx E I h
 refine wpAny_execs_cons (wpAny_Expr_any (thn (cu F hr hg hm hk hb ha I h hdb he hpl) fun v s1 ⟨x,H1,I1,r1,q1⟩=>?_) I.quiet hs)
 exact wpAny_execs_nil ⟨rfl,σ,H1,I1,q1⟩
theorem QR (hstk:X.stack=X.env::X.outer) (hf:X.env.frame=some X.env.locals) (G:DOkX X.prog X.w X.K X.mg X.base n x S) (hr:Room n X.A) (hg:Gl X x) (ha:DA X.nox (e::es) t) (hh:∀ a,DSs (X.inH a) fr (b₀::suite) th) (hgy:Gl X y) (hmy:X.mg y=some c)
  (hs:swapsWith (.Call (.Name x p) (e::es) [] pos) none epos.line X.env=pure false:=by rfl) (hdb:(x == ("__debug__":Str))=false:=by decide) (hdy:(y == ("__debug__":Str))=false:=by decide)
  (he:starEach (e::es) X.env=(false,eval e X.env)::starEach es X.env:=by rfl) (hpl:(backTo pos (starEach es X.env)).any (·.1)=false:=by rfl):
  DSt X fr (.Try [.Expr (.Call (.Name x p) (e::es) [] pos) epos] [.ExceptHandler (some (.Name y py)) none (b₀::suite) hpos] [] [] tpos) (QW X.K c S t th):=by
 obtain ⟨f,fd,ps,hm,hk,hb,F⟩:=G.ex
 obtain ⟨te,p1,l1⟩:=ha
 refine ⟨_,iJ (th:=e9 X.K (Zx X) fr th) hstk hf (bC F hr hg hm hk hb p1 hs hdb he hpl) (fun a=>(hh a).up) hgy hmy hdy,fun W0 G ρ σ W D D' at_ s h=>?_⟩
 refine l1 ρ σ W _ at_.rl h _ fun ds vs W1 s1 i1 q1=>⟨W1,ds,_,_,rfl,i1,q1,fun d v W2 s2 i2 q2=>s.nx ρ σ W2 ((at_.step s1).step s2) q2,fun C H' s' ⟨e1,e2⟩=>⟨e1,W0,G,ρ,W1.at H' s',D,rfl,(at_.step s1).step (X0 s'),s,e2⟩⟩
end
theorem Rl.unset {K:PySem.W.Frag} {F:Hp} {W:Vw} {ρ:DS} {σ:L2.St} (r:Rl K Z F W ρ σ) (j:Nat):Rl K Z F W (ρ.set j .none) (σ.set j none):=by
 refine ⟨by rw [List.length_set,List.length_set]; exact r.len,fun i d q=>?_,fun i ds q=>?_,fun i k ds es hik q1 q2=>?_,r.fr,r.z,fun i c ds q=>?_,r.ob.set j _ (fun φ z=>by cases z)⟩
 ·rcases zl q with ⟨_,_,e1⟩ | ⟨hij,q⟩
  ·cases e1
  ·rw [List.getElem?_set_ne hij]; exact r.at_ i d q
 ·rcases zl q with ⟨_,_,e1⟩ | ⟨hij,q⟩
  ·cases e1
  ·rw [List.getElem?_set_ne hij]; exact r.ow i ds q
 ·rcases zl q1 with ⟨_,_,e1⟩ | ⟨h1,q1⟩
  ·cases e1
  rcases zl q2 with ⟨_,_,e1⟩ | ⟨h2,q2⟩
  ·cases e1
  rw [List.getElem?_set_ne h1,List.getElem?_set_ne h2]; exact r.ne i k ds es hik q1 q2
 ·rcases zl q with ⟨_,_,e1⟩ | ⟨hij,q⟩
  ·cases e1
  obtain ⟨⟨ys',g1,g2⟩,k1,k2⟩:=r.ar i c ds q
  refine ⟨⟨ys',by rw [List.getElem?_set_ne hij]; exact g1,g2⟩,fun k es' q'=>?_,fun k c' es' q'=>?_⟩
  ·rcases zl q' with ⟨_,_,e1⟩ | ⟨hik,q'⟩
   ·cases e1
   ·rw [List.getElem?_set_ne hik]; exact k1 k es' q'
  ·rcases zl q' with ⟨_,_,e1⟩ | ⟨hik,q'⟩
   ·cases e1
   exact k2 k c' es' q'
theorem At.unset {K:PySem.W.Frag} {W0 W:Vw} {G:Hp} {ρ:DS} {σ:L2.St} (a:At K Z W0 G W ρ σ) (j:Nat):At K Z W0 G W (ρ.set j .none) (σ.set j none):=⟨a.le,a.gs,a.rl.unset j⟩
section
variable {X:Cx} {e:Expr} {es:List Expr} {t:DTA} {n:Nat} {x y m:Str} {i j:Nat} {S:zV} {p pos py hpos epos tpos:Pos} {fr:Fr} {b₀:Stmt} {suite:List Stmt} {th:DTS} {c:Value}
theorem WQ {f:Addr} {fd:FuncData} {ps:List Str} {sp:Sp} {te:TA} (hN:X.N.Nodup) (hi:X.N[i]? = some m) (hx:Loc X.env.scope m) (F:FnOk X.prog X.w X.K X.mg X.base (CX1 X.prog X.w) n f fd ps sp) (hr:Room n X.A) (hg:Gl X x) (hm:X.mg x=some (.ref f)) (hk:PySem.W.keepIn X.K (.ref f)=true) (hb:Binds X.K fd ps []) (ha:PA X.nox (e::es) te)
  (hs:swapsWith (.Call (.Name x p) (e::es) [] pos) (some (.Name m py)) epos.line X.env=pure false:=by rfl) (hdb:(x == ("__debug__":Str))=false:=by decide)
  (he:starEach (e::es) X.env=(false,eval e X.env)::starEach es X.env:=by rfl) (hpl:(backTo pos (starEach es X.env)).any (·.1)=false:=by rfl) (hf:X.fn m=true∨X.env.scope.names.lookup m=some .local:=by first | exact .inl rfl | exact .inr rfl | assumption):
  PB X [.Assign [.Name m py] (.Call (.Name x p) (e::es) [] pos) epos] (fun nx E σ H=>te σ H fun vs H1=>sp vs H1 (fun v H2=>nx (σ.set i (some v)) H2) E):=by
 intro pins s σ H nx E I h
 refine wpAny_execs_cons (wpAny_Assign_Name (thn (cu F hr hg hm hk hb ha I h hdb he hpl) fun v s1 ⟨y,H1,I1,r1,q1⟩=>?_) hs)
 exact ue I1 hN hi hx r1 (fun s2 I2=>wpAny_execs_nil ⟨rfl,_,H1,I2,q1⟩) hf
def Xx (K:PySem.W.Frag) (c:Value) (i:Nat) (S:zV) (t:DTA) (th:DTS):DTS:=fun D ρ=>t ρ fun ds=>S ds (fun d=>D.nx (ρ.set i (.some d))) fun C=>PySem.W.exmOne K (.ref C) c=some true∧th D ρ
theorem ln {m2:Str} {pm:Pos} (hstk:X.stack=X.env::X.outer) (hf:X.env.frame=some X.env.locals) (hN:X.N.Nodup) (hi:X.N[i]? = some m) (hx:Loc X.env.scope m) (G:FOkX X.prog X.w X.K X.mg X.base n x S) (hr:Room n X.A) (hg:Gl X x) (ha:DA X.nox (e::es) t) (hh:∀ a,DSs (X.inH a) fr (b₀::suite) th) (hgy:Gl X y) (hmy:X.mg y=some c)
  (hs:swapsWith (.Call (.Name x p) (e::es) [] pos) (some (.Name m pm)) epos.line X.env=pure false:=by rfl) (hdb:(x == ("__debug__":Str))=false:=by decide) (hdy:(y == ("__debug__":Str))=false:=by decide)
  (he:starEach (e::es) X.env=(false,eval e X.env)::starEach es X.env:=by rfl) (hpl:(backTo pos (starEach es X.env)).any (·.1)=false:=by rfl) (hfm:X.fn m=true∨X.env.scope.names.lookup m=some .local:=by first | exact .inl rfl | exact .inr rfl | assumption):
  DSt X fr (.Try [.Assign [.Name m pm] (.Call (.Name x p) (e::es) [] pos) epos] [.ExceptHandler (some (.Name y py)) none (b₀::suite) hpos] [] [] tpos) (Xx X.K c i S t th):=by
 obtain ⟨f,fd,ps,hm,hk,hb,F⟩:=G.ex
 obtain ⟨te,p1,l1⟩:=ha
 refine ⟨_,iJ (th:=e9 X.K (Zx X) fr th) hstk hf (WQ hN hi hx F hr hg hm hk hb p1 hs hdb he hpl hfm) (fun a=>(hh a).up) hgy hmy hdy,fun W0 G ρ σ W D D' at_ s h=>?_⟩
 exact l1 ρ σ W _ at_.rl h _ fun ds vs W1 s1 i1 q1=>⟨W1,ds,_,_,rfl,i1,q1,fun es q xs W2 s2 h0 h1 h2 i2 q2=>s.nx _ _ (W2.frz q _ h1) (((at_.step s1).step (wT s2 h0 h1 h2)).set i (is_lst.mpr ⟨q,xs,rfl,zi,AllIs.mono0 (zC h2 _) i2⟩)) q2,fun C H' s' ⟨e1,e2⟩=>⟨e1,W0,G,ρ,W1.at H' s',D,rfl,(at_.step s1).step (X0 s'),s,e2⟩⟩
end
end OD
namespace OD
variable {Z:Hp}
open PySem PySem.Spec PyProof.Rows L2
def zA (X:Cx) (scope:Scope) (cl:List (Str × Addr)) (bs caps:List Str) (C:Addr) (s:Shared) (H:Hp) (fp:List Addr) (pins:List (Addr × Obj)):Cx where
 prog:=X.prog
 w:=X.w
 K:=X.K
 mg:=X.mg
 base:=X.base
 A:=X.A
 N:=bs++caps
 s₀:=s
 H₀:=H
 env:=compEnvC scope cl C X.env
 outer:=X.stack
 stack:=X.stack
 ex:=fp
 fn:=fun y=>bs.contains y
 calm:=X.calm
 pn:=X.pn++pins
 xe:=fun _ _=>False
structure sX (X:Cx) (scope:Scope) (cl:List (Str × Addr)) (bs caps:List Str) (js:List Nat):Prop where
 clos:closureFor scope X.env=pure cl
 sub:∀ y c,cl.lookup y=some c→X.env.cells.lookup y=some c
 has:∀ y,((relabel scope X.env).names.lookup y=some .cell∨(relabel scope X.env).names.lookup y=some .free)→∃ c,cl.lookup y=some c
 nox:∀ x∈bs,cl.lookup x=none
 cell:∀ y∈scope.names,y.2≠.cell
 kind:scope.kind=.function
 names:∀ y∈scope.names,y.2=.local→scope.names.lookup y.1=some .local
 loc:∀ x∈bs,scope.names.lookup x=some .local
 nd:(bs++caps).Nodup
 len:js.length=caps.length
 at_:∀ (k:Nat) y,caps[k]? = some y→∃ j,js[k]? = some j∧X.N[j]? = some y
 cap:∀ y∈caps,(relabel scope X.env).names.lookup y=some .cell∧X.env.scope.names.lookup y=some .cell
theorem vb {prog:Program} {w:World} {A:Around} {s:Shared} {elt target iter:Expr} {ifs:List Expr} {scope:Scope} {pos:Pos} {it acc:Value} {env:Env} {R:Result→Shared→Prop} (I:Nat→Shared→Prop)
  (turn:∀ n s,I n s→wpAny (model prog w) A (pyNext it) (fun r s₁=>match r with
   | none=>R (.ok .next) s₁
   | some v=>wpAny (model prog w) A (letOwnedTupleGo target it v) (fun _ s₁'=>wpAny (model prog w) A (assign target env v) (fun _ s₂=>
     wpAny (model prog w) A (forIn ifs true fun c r=>if r=true then do let ok ← isTrue c env (eval c env); pure (ForInStep.yield ok) else pure (ForInStep.yield r)) (fun ok s₃=>
      if ok=true then wpAny (model prog w) A (eval elt env) (fun x s₄=>
       wpAny (model prog w) A (call (.builtin "list.append") [acc,x]) (fun _ s₅=>∃ m,m<n∧I m s₅) (notedBy (model prog w) A env fun e s'=>R (.error e) s') s₄) (notedBy (model prog w) A env fun e s'=>R (.error e) s') s₃
      else ∃ m,m<n∧I m s₃) (notedBy (model prog w) A env fun e s'=>R (.error e) s') s₂)
     (notedBy (model prog w) A env fun e s'=>R (.error e) s') s₁') (notedBy (model prog w) A env fun e s'=>R (.error e) s') s₁) (notedBy (model prog w) A env fun e s'=>R (.error e) s') s)
  (n:Nat) (h:I n s):codeAny (model prog w) A (.compLoop (.ListComp elt [⟨target,iter,ifs,0⟩] scope pos) 0 it acc env) R s:=by
 refine codeAny_loop rfl I (fun n s hI=>?_) n h
 show wpAny _ A ((compTurn (.ListComp elt [⟨target,iter,ifs,0⟩] scope pos) 0 it acc env).onRaise (fun x=>do noteFrame x env; theTreesLotGoes x)) _ _ s
 refine wpAny_noted ?_
 rw [compTurn_list]
 refine wpAny_bind (wpAny_standAt (wpAny_bind (wpAny_mono (turn n s hI) (fun r s₁ h₁=>?_) fun _ _ h'=>h')))
 cases r with
 | none=>exact wpAny_pure h₁
 | some v=>
  refine wpAny_bind (wpAny_mono h₁ (fun _ s₁' h₁'=>?_) fun _ _ h'=>h')
  refine wpAny_bind (wpAny_mono h₁' (fun _ s₂ h₂=>wpAny_bind (wpAny_mono h₂ (fun ok s₃ h₃=>?_) fun _ _ h'=>h')) fun _ _ h'=>h')
  cases ok with
  | false=>exact wpAny_pure ⟨rfl,h₃⟩
  | true=>
   exact wpAny_bind (wpAny_bind (wpAny_mono h₃ (fun x s₄ h₄=>wpAny_bind (wpAny_mono h₄ (fun _ s₅ h₅=>wpAny_pure (wpAny_pure ⟨rfl,h₅⟩)) fun _ _ h'=>h')) fun _ _ h'=>h'))
def PC (X:Cx) (ifs:List Expr) (t:TT):Prop:=
 ∀ (pins:List (Addr × Obj)) (s:Shared) (σ:St) (H:Hp) (Q:Bool→Hp→Prop) (E:Value→Shared→Prop),(∀ v s,X.xe v s→E v s)→Inv X pins σ H s→t σ H Q→
  wpAny (model X.prog X.w) X.A (forIn ifs true fun c r=>if r=true then do let ok ← isTrue c X.env (eval c X.env); pure (ForInStep.yield ok) else pure (ForInStep.yield r)) (TP X pins σ Q) E s
theorem WO {X:Cx}:PC X [] (fun _ H Q=>Q true H):=fun _ _ _ H _ _ _ I h=>wpAny_tests_nil ⟨H,I,h⟩
section
variable {X:Cx} {pins:List (Addr × Obj)} {σ:St} {H:Hp} {s:Shared} {scope:Scope} {cl:List (Str × Addr)} {bs caps:List Str} {js:List Nat} {fp:List Addr}
theorem jP {h₁:Heap} {t:Nat} {m:Str→Option Value} (I:Inv X pins σ H s) (S:sX X scope cl bs caps js) (hfp:∀ b∈fp,vx X pins H b) (hob:∀ b∈fp,∃ o,s.heap.get? b=some o)
  (hn:h₁.Ns s.heap.objs.size m) (hk:∀ b o,s.heap.get? b=some o→h₁.get? b=some o):Inv (zA X scope cl bs caps s.heap.objs.size s H fp pins) [] (bs.map (fun _=>none)++sJ σ js) H { s with heap:=h₁,toks:=t }:=by
 refine ⟨⟨I.ok.mod,S.kind,I.ok.glob,I.ok.blt,Nat.le_refl _,fun y z c h1 h2=>?_,fun y hy=>?_,fun y c hf h=>?_,I.ok.hd,I.ok.frames,.inl rfl,fun b hb=>⟨?_,fun y c h=>?_⟩,I.bs,Nat.le_trans I.ok.bsz I.sz,fun b o e hb=>?_,fun b hb z=>?_,I.stack,I.stkFree⟩,
  rfl,I.bare,Un.kept hk,⟨_,hn,fun i y v h1 h2 h3=>?_⟩,fun y c h=>?_,I.hok.fresh (Nat.le_refl _),fun y c h=>?_,fun p hp=>?_,I.hok.kept hk,?_⟩
 ·exact I.ok.inj y z c (S.sub y c h1) (S.sub z c h2)
 ·exact S.has y hy
 ·have hf:y∈bs:=List.contains_iff_mem.mp hf
  have h:cl.lookup y=some c:=h
  rw [S.nox y hf] at h
  cases h
 ·obtain ⟨o,e⟩:=hob b hb
  exact Nat.ne_of_lt (Heap.lt_size e)
 ·exact (hfp b hb).2.2.2.2.1 y c (S.sub y c h)
 ·obtain ⟨_,_,_,h4,_⟩:=hfp b hb
  rcases h4 with h4 | h4
  ·exact I.ok.noex b o e h4
  ·exact absurd (Nat.lt_of_lt_of_le (Heap.lt_size e) (Nat.le_trans I.ok.bsz h4)) (Nat.lt_irrefl _)
 ·obtain ⟨_,h2,h3,_⟩:=hfp b hb
  rcases List.mem_cons.mp (I.stkSub b z) with q | q
  ·exact h2 q
  ·exact h3 q
 ·by_cases hi:i<bs.length
  ·rw [List.getElem?_append_left (by rw [List.length_map]; exact hi),List.getElem?_map] at h2
   obtain ⟨_,_,e⟩:=Option.map_eq_some_iff.mp h2
   cases e
  ·have hi:bs.length≤i:=Nat.le_of_not_lt hi
   have h1:(bs++caps)[i]? = some y:=h1
   rw [List.getElem?_append_right hi] at h1
   rw [List.getElem?_append_right (by rw [List.length_map]; exact hi),List.length_map] at h2
   obtain ⟨j,hj,hN⟩:=S.at_ _ y h1
   have hv:σ[j]? = some (some v):=by
    unfold sJ at h2
    rw [List.getElem?_map,hj] at h2
    have h2:(σ[j]?).getD none=some v:=Option.some.inj h2
    cases q:σ[j]? with
    | none=>rw [q] at h2; cases h2
    | some w=>rw [q] at h2; exact congrArg some h2
   obtain ⟨c1,c2⟩:=S.cap y (List.mem_of_getElem? h1)
   obtain ⟨m0,_,hl⟩:=I.loc
   obtain ⟨u,ru,lk⟩:=hl j y v hN hv (.inr (.inl c2))
   refine ⟨u,ru,.inr ⟨.inl c1,?_⟩⟩
   obtain ⟨c,hc⟩:=S.has y (.inl c1)
   rcases lk with ⟨lk,_⟩ | ⟨_,c',hc',hcell⟩
   ·have lk:X.env.scope.names.lookup y=some .local:=lk
    rw [c2] at lk
    cases lk
   ·have e:=S.sub y c hc
    rw [hc'] at e
    cases e
    obtain ⟨o,ho,hd⟩:=hcell
    exact ⟨_,hc,o,hk _ _ ho,hd⟩
 ·obtain ⟨v,o,ho,hd⟩:=I.cell y c (S.sub y c h)
  exact ⟨v,o,hk _ _ ho,hd⟩
 ·exact I.freeC y c (S.sub y c h)
 ·have hp:p∈X.pn++pins:=by
   rcases List.mem_append.mp hp with q | q
   ·exact q
   ·cases q
  obtain ⟨h1,h2,h3,h4,h5⟩:=I.pin p hp
  refine ⟨hk _ _ h1,h2,Nat.ne_of_lt (Heap.lt_size h1),fun z=>?_,h5⟩
  rcases List.mem_cons.mp (I.stkSub _ z) with q | q
  ·exact h3 q
  ·exact h4 q
 ·show (bs.map (fun _=>none)++sJ σ js).length=(bs++caps).length
  unfold sJ
  rw [List.length_append,List.length_append,List.length_map,List.length_map,S.len]
theorem jQ {C:Addr} {σ':St} {H':Hp} {s':Shared} (I:Inv X pins σ H s) (hfp:∀ b∈fp,vx X pins H b) (I':Inv (zA X scope cl bs caps C s H fp pins) [] σ' H' s'):Inv X pins σ H' s':=
 I.call' (ch:=fp) I'.os I'.base I'.hok I'.bare fun b hb=>by
  obtain ⟨_,h2,_,h4,h5,h6⟩:=hfp b hb
  exact ⟨h4,h2,h5,h6⟩
def mD (gt:TG) (tt:TT) (te:TE) (k:Nat) (τ:St) (Q:V→Hp→Prop):It→Hp→Prop:=fun J H1=>∃ n:Nat,n<sizeLine∧∀ D,H1 D=none→∃ (Pv:Nat→List V→Hp→Prop) (Nx:Nat→V→List V→Hp→Prop),
 Pv 0 [] (upd H1 D (.lst []))∧(∀ i ys H2,i≤n→Pv i ys H2→H2 D=some (.lst ys)∧ys.length≤i)∧
 (∀ i ys H2,i<n→Pv i ys H2→J.go i H2∧∀ v H3,J.yld i H2 v H3→Nx i v ys H3)∧(∀ ys H2,Pv n ys H2→J.stop n H2)∧
 (∀ i v ys H2 (σ0:St),i<n→Nx i v ys H2→σ0.length=k→gt v (σ0++τ) H2 fun σ1 H3=>(∃ σ2:St,σ1=σ2++τ∧σ2.length=k)∧tt σ1 H3 fun b H4=>
  if b=true then te σ1 H4 fun y H5=>H5 D=some (.lst ys)∧Pv (i+1) (ys++[y]) (upd H5 D (.lst (ys++[y]))) else Pv (i+1) ys H4)∧∀ ys H2,Pv n ys H2→Q (.ref D) H2
def iq (wi:TI) (gt:TG) (tt:TT) (te:TE) (k:Nat) (js:List Nat):TE:=fun σ H Q=>wi σ H (mD gt tt te k (sJ σ js) Q)
theorem n0 {elt tg iter:Expr} {ifs:List Expr} {pos:Pos} {it D:Addr} {n:Nat} {J:It} {Nx:Nat→V→List V→Hp→Prop} {τ:St} {tn:Nat→Heap→Prop} {gt:TG} {tt:TT} {te:TE} {R:Result→Shared→Prop} {s₄:Shared} {Pv:Nat→List V→Hp→Prop} {C:Addr} (hc:X.calm=true)
  (hg:PG (zA X scope cl bs caps C s H fp pins) tg gt) (ht':PC (zA X scope cl bs caps C s H fp pins) ifs tt)
  (he:PE (zA X scope cl bs caps C s H fp pins) elt te) {σ0:St} (hσ0:σ0.length=bs.length) (I:Inv (zA X scope cl bs caps C s H fp pins) [] (σ0++τ) H s₄) (T:lC X.prog X.w X.K tg J fp it tn) (t0:tn 0 s₄.heap)
  (hfp:∀ b∈fp,vx (zA X scope cl bs caps C s H fp pins) [] H b) (hn:n<sizeLine)
  (h0:Pv 0 [] H) (hl:∀ i ys H2,i≤n→Pv i ys H2→H2 D=some (.lst ys)∧ys.length≤i)
  (hgo:∀ i ys H2,i<n→Pv i ys H2→J.go i H2∧∀ v H3,J.yld i H2 v H3→Nx i v ys H3) (hst:∀ ys H2,Pv n ys H2→J.stop n H2)
  (ht:∀ i v ys H2 (σ0:St),i<n→Nx i v ys H2→σ0.length=bs.length→gt v (σ0++τ) H2 fun σ1 H3=>(∃ σ2:St,σ1=σ2++τ∧σ2.length=bs.length)∧tt σ1 H3 fun b H4=>
   if b=true then te σ1 H4 fun y H5=>H5 D=some (.lst ys)∧Pv (i+1) (ys++[y]) (upd H5 D (.lst (ys++[y]))) else Pv (i+1) ys H4)
  (hR:∀ σ' H' ys s',Inv (zA X scope cl bs caps C s H fp pins) [] σ' H' s'→Pv n ys H'→R (.ok .next) s'):
  codeAny (model X.prog X.w) X.A (.compStart (.ListComp elt [⟨tg,iter,ifs,0⟩] scope pos) 0 (.ref it) (.ref D) (compEnvC scope cl C X.env)) R s₄:=by
 have loop:codeAny (model X.prog X.w) X.A (.compLoop (.ListComp elt [⟨tg,iter,ifs,0⟩] scope pos) 0 (.ref it) (.ref D) (compEnvC scope cl C X.env)) R s₄:=by
  refine vb (fun k s'=>∃ i ys,∃ σ1:St,∃ H',k=n+1 - i∧i≤n∧σ1.length=bs.length∧Inv (zA X scope cl bs caps C s H fp pins) [] (σ1++τ) H' s'∧tn i s'.heap∧(∀ b∈fp,vx (zA X scope cl bs caps C s H fp pins) [] H' b)∧Pv i ys H') ?_ (n+1) ⟨0,[],σ0,H,rfl,Nat.zero_le _,hσ0,I,t0,hfp,h0⟩
  rintro k s' ⟨i,ys,σ1,H',rfl,hi,hσ1,I',tn',hfp',hp⟩
  obtain ⟨q2,q3⟩:=hl i ys H' hi hp
  by_cases hlt:i<n
  ·obtain ⟨g,gy⟩:=hgo i ys H' hlt hp
   refine wpAny_mono (T.item (zA X scope cl bs caps C s H fp pins) rfl rfl rfl hc i [] s' (σ1++τ) H' (notedBy (model X.prog X.w) X.A (compEnvC scope cl C X.env) fun e s'=>R (.error e) s') I' hfp' tn' g) (fun r s1 ⟨u,er,hq⟩=>?_) fun _ _ z=>z
   subst er
   refine wpAny_mono hq (fun _ s1' hq'=>?_) fun _ _ z=>z
   obtain ⟨v,H1,I1,rv,yv,tn1,fn1⟩:=hq'
   have hv:=gy v H1 yv
   have hfp1:∀ b∈fp,vx (zA X scope cl bs caps C s H fp pins) [] H1 b:=fun b hb=>⟨fn1 b hb,(hfp' b hb).2⟩
   have hpin:∀ b∈fp,∃ o,s1'.heap.get? b=some o∧∀ v,o.data≠.cell v:=T.obj (i+1) s1'.heap tn1
   have IP:Inv (zA X scope cl bs caps C s H fp pins) (xP fp s1'.heap) (σ1++τ) H1 s1':=by
    have:=I1.pinned hfp1 hpin
    rw [List.nil_append] at this
    exact this
   refine wpAny_mono (hg (xP fp s1'.heap) s1' (σ1++τ) H1 v u _ IP rv (ht i v ys H1 σ1 hlt hv hσ1)) (fun _ s2 h2=>?_) fun _ _ z=>z.elim
   obtain ⟨σ2',H2,I2,⟨σ2,e2,l2⟩,w2⟩:=h2
   subst e2
   refine wpAny_mono (ht' (xP fp s1'.heap) s2 (σ2++τ) H2 _ (fun _ _=>False) (fun _ _ z=>z) I2 w2) (fun b s3 h3=>?_) fun _ _ z=>z.elim
   obtain ⟨H3,I3,w3⟩:=h3
   have pinned:∀ {s4:Shared} {H4:Hp} {σ4:St},Inv (zA X scope cl bs caps C s H fp pins) (xP fp s1'.heap) σ4 H4 s4→∀ b∈fp,∀ o,s1'.heap.get? b=some o→s4.heap.get? b=some o∧H4 b=none:=fun I4 b hb o e=>
    have z:=I4.pin (b,o) (List.mem_append_right _ (vM hb e))
    ⟨z.1,z.2.1⟩
   cases b with
   | false=>
    have w3:Pv (i+1) ys H3:=w3
    show ∃ m,m<n+1 - i∧_
    refine ⟨n+1 - (i+1),by omega,i+1,ys,σ2,H3,rfl,hlt,l2,I3.pins_of (fun p z=>nomatch z),T.keep _ _ _ tn1 fun b hb o e=>(pinned I3 b hb o e).1,fun b hb=>⟨?_,(hfp' b hb).2⟩,w3⟩
    obtain ⟨o,e,_⟩:=hpin b hb
    exact (pinned I3 b hb o e).2
   | true=>
    show wpAny _ _ _ _ _ _
    refine wpAny_mono (he (xP fp s1'.heap) s3 (σ2++τ) H3 _ I3 w3) (fun y s4 h4=>?_) fun _ _ z=>z.elim
    obtain ⟨y',H4,I4,ry,hD,hp4⟩:=h4
    refine wpAny_mono (tF (X:=zA X scope cl bs caps C s H fp pins) (xP fp s1'.heap) s4 (σ2++τ) H4 (.ref D) [y'] (.ref D) [y] (fun _ H5=>H5=upd H4 D (.lst (ys++[y']))) I4 rfl (.cons ry .nil) ⟨D,ys,y',rfl,rfl,hD,by omega,rfl⟩) (fun _ s5 h5=>?_) fun _ _ z=>z.elim
    obtain ⟨_,H5,I5,_,e5⟩:=h5
    subst e5
    refine ⟨n+1 - (i+1),by omega,i+1,ys++[y'],σ2,_,rfl,hlt,l2,I5.pins_of (fun p z=>nomatch z),T.keep _ _ _ tn1 fun b hb o e=>(pinned I5 b hb o e).1,fun b hb=>⟨?_,(hfp' b hb).2⟩,hp4⟩
    obtain ⟨o,e,_⟩:=hpin b hb
    exact (pinned I5 b hb o e).2
  ·have e:i=n:=by omega
   subst e
   refine wpAny_mono (T.done (zA X scope cl bs caps C s H fp pins) rfl rfl rfl hc i [] s' (σ1++τ) H' (fun _ _=>False) I' hfp' tn' (hst ys H' hp)) (fun r s1 ⟨er,I1⟩=>?_) fun _ _ z=>z.elim
   subst er
   exact hR _ H' ys s1 I1 hp
 exact codeAny_compStart_list loop (T.self X.A 0 s₄ _ _ t0 loop)
theorem lz {elt tg iter:Expr} {ifs:List Expr} {pos:Pos} {gt:TG} {tt:TT} {te:TE} {Q:V→Hp→Prop} {s2:Shared} {it:Addr} {tn:Nat→Heap→Prop} {J:It} {H':Hp} {RR:Value→Addr→Result→Shared→Prop} {E:Value→Shared→Prop} (hc:X.calm=true) (S:sX X scope cl bs caps js)
  (hg:∀ C s H fp pins,PG (zA X scope cl bs caps C s H fp pins) tg gt) (ht':∀ C s H fp pins,PC (zA X scope cl bs caps C s H fp pins) ifs tt)
  (he:∀ C s H fp pins,PE (zA X scope cl bs caps C s H fp pins) elt te) (I2:Inv X pins σ H' s2) (T:lC X.prog X.w X.K tg J fp it tn) (t0:tn 0 s2.heap) (hfp:∀ b∈fp,vx X pins H' b) (hr:mD gt tt te bs.length (sJ σ js) Q J H')
  (hRR:∀ D C H3 s',Inv X pins σ H3 s'→(∃ m,s'.heap.Ns C m)→H3 C=none→C≠X.env.locals→X.s₀.heap.objs.size≤C→(∀ y c,X.env.cells.lookup y=some c→c≠C)→(∀ p∈X.pn++pins,p.1≠C)→Q (.ref D) H3→
   RR (.ref D) C (.ok .next) s'):
  wpAny (model X.prog X.w) X.A (newList []) (fun acc s₃=>wpAny (model X.prog X.w) X.A (newFunctionEnv scope X.env.globals cl [] X.env.qual none .none (some X.env)) (fun cenv s₄=>
   codeAny (model X.prog X.w) X.A (.compStart (.ListComp elt [⟨tg,iter,ifs,0⟩] scope pos) 0 (.ref it) acc { cenv with scope:=relabel scope X.env }) (RR acc cenv.locals) s₄) E s₃) E s2:=by
 obtain ⟨n,hn,hD⟩:=hr
 obtain ⟨Pv,Nx,h0,hl,hgo,hst,ht,hd⟩:=hD s2.heap.objs.size I2.fresh
 refine wpAny_newObj_type (wpAny_newFunctionEnv S.cell (by intro y hy; simp at hy) (fun h₁ hns₁ hsb₁=>?_) S.kind)
 dsimp only at hns₁ hsb₁ ⊢
 have I3:Inv X pins σ (upd H' s2.heap.objs.size (.lst [])) { s2 with heap:=s2.heap.push { cls:=.type "list",data:=.seq ([]:List Value).toArray } }:=I2.lnew (its:=[]) (t':=s2.toks) .nil (by show 0≤sizeLine; omega)
 have hob:=T.obj 0 s2.heap t0
 have keep:∀ b o,(s2.heap.push { cls:=.type "list",data:=.seq ([]:List Value).toArray }).get? b=some o→h₁.get? b=some o:=fun b o e=>
  hsb₁.extBut b o (Nat.ne_of_lt (Heap.lt_size e)) (Heap.get?_push_of_some _ e)
 have fp3:∀ b∈fp,vx X pins (upd H' s2.heap.objs.size (.lst [])) b:=fun b hb=>by
  obtain ⟨o,e,_⟩:=hob b hb
  exact ⟨(zo (Nat.ne_of_lt (Heap.lt_size e))).trans (hfp b hb).1,(hfp b hb).2⟩
 have IY:=jP (t:=s2.toks+([]:List (Str × Value)).length) I3 S fp3 (fun b hb=>by
  obtain ⟨o,e,_⟩:=hob b hb
  exact ⟨o,Heap.get?_push_of_some _ e⟩) hns₁ keep
 refine n0 (D:=s2.heap.objs.size) (n:=n) (Nx:=Nx) (Pv:=Pv) hc (hg _ _ _ _ _) (ht' _ _ _ _ _) (he _ _ _ _ _) (List.length_map _) IY T (T.keep _ _ _ t0 fun b hb o e=>keep b o (Heap.get?_push_of_some _ e)) (fun b hb=>?_) hn h0 hl hgo hst ht (fun σ' H3 ys s' I' hp=>?_)
 ·obtain ⟨f1,f2,f3,f4,f5,f6⟩:=fp3 b hb
  obtain ⟨o,e,_⟩:=hob b hb
  refine ⟨f1,Nat.ne_of_lt (Heap.lt_size (Heap.get?_push_of_some _ e)),fun z=>?_,.inl hb,fun y c h=>f5 y c (S.sub y c h),fun p hp=>?_⟩
  ·rcases List.mem_cons.mp (I3.stkSub b z) with q | q
   ·exact f2 q
   ·exact f3 q
  ·rcases List.mem_append.mp hp with q | q
   ·exact f6 p q
   ·cases q
 ·obtain ⟨m,hn,_⟩:=I'.loc
  refine hRR _ _ H3 s' (jQ I3 fp3 I') ⟨m,hn⟩ I'.free (Nat.ne_of_gt I3.lt) I3.sz (fun y c h z=>?_) (fun p hp z=>?_) (hd ys H3 hp)
  ·obtain ⟨v,q⟩:=I3.cell y c h
   exact absurd q.lt (by rw [z]; exact Nat.lt_irrefl _)
  ·exact absurd (Heap.lt_size (I3.pin p hp).1) (by rw [z]; exact Nat.lt_irrefl _)
theorem iT {elt tg iter:Expr} {ifs:List Expr} {pos:Pos} {wi:TI} {gt:TG} {tt:TT} {te:TE} (hc:X.calm=true) (S:sX X scope cl bs caps js) (hl:PI X tg iter wi) (hg:∀ C s H fp pins,PG (zA X scope cl bs caps C s H fp pins) tg gt)
  (ht':∀ C s H fp pins,PC (zA X scope cl bs caps C s H fp pins) ifs tt) (he:∀ C s H fp pins,PE (zA X scope cl bs caps C s H fp pins) elt te)
  (hs:∀ y,foldedSetIterable iter X.env y=pure y:=by intro _; rfl):PE X (.ListComp elt [⟨tg,iter,ifs,0⟩] scope pos) (iq wi gt tt te bs.length js):=by
 intro pins s σ H Q I h
 rw [eval_ListComp]
 refine wpAny_comprehension_free (use:=none) rfl hs S.clos S.kind S.names (thn (hl pins s σ H (mD gt tt te bs.length (sJ σ js) Q) I h) fun v s1 h1=>thn h1 fun itv s2 h2=>?_)
 obtain ⟨it,fp,tn,J,H',rfl,I2,T,t0,hfp,hr⟩:=h2
 refine lz (RR:=fun acc C=>compPost (model X.prog X.w) X.A X.xe none (EP X pins σ Q) acc C) hc S hg ht' he I2 T t0 hfp hr ?_
 intro D C H3 s' I' ⟨m,hn⟩ hC h1 h2 h3 h4 q
 exact ⟨m,hn,fun h' hs'=>⟨.ref D,H3,I'.turned (it:=C) (fun b o hb e=>hs'.extBut b o hb e) hC h1 (.inr h2) h3 h4,rfl,q⟩⟩
end
end OD
namespace OD
variable {Z:Hp}
open PySem PySem.Spec PyProof.Rows L2
def oJ (osc scope:Scope) (bs caps:List Str) (js:List Nat) (N:List Str):Bool:=
 scope.names.all (fun y=>y.2 != .cell && (y.2 != .local || scope.names.lookup y.1 == some .local) && (y.2 != .free || (osc.names.lookup y.1 == some .cell && !bs.contains y.1))) && (scope.kind == .function) && (osc.kind == .function) && bs.all (fun x=>scope.names.lookup x == some .local) &&
 decide (bs++caps).Nodup && (js.map (fun j=>N[j]?) == caps.map some) && caps.all (fun y=>scope.names.lookup y == some .free && osc.names.lookup y == some .cell)
theorem XC {X:Cx} {osc scope:Scope} {bs:List Str} {caps:List Str} {js:List Nat} {L:Addr} (h:oJ osc scope bs caps js X.N=true) (he:X.env.scope=osc) (hc:X.env.cells=cellsFrom (L+1) osc.names []):sX X scope (vS X.env.cells scope.names) bs caps js:=by
 unfold oJ at h
 simp only [Bool.and_eq_true] at h
 obtain ⟨⟨⟨⟨⟨⟨h1,h2⟩,h3⟩,h4⟩,h5⟩,h6⟩,h7⟩:=h
 rw [List.all_eq_true] at h1 h4 h7
 have hfree:∀ y,(y,NameKind.free)∈scope.names→osc.names.lookup y=some .cell∧bs.contains y=false:=fun y hy=>by
  have q:=h1 _ hy
  rw [Bool.and_eq_true,Bool.and_eq_true] at q
  have q:(osc.names.lookup y == some .cell && !bs.contains y)=true:=q.2
  rw [Bool.and_eq_true] at q
  exact ⟨eq_of_beq q.1,by cases z:bs.contains y with | false=>rfl | true=>rw [z] at q; cases q.2⟩
 have hcell:∀ y,osc.names.lookup y=some .cell→∃ c,X.env.cells.lookup y=some c:=fun y hy=>by rw [hc]; exact qp hy
 have hfc:∀ y,(y,NameKind.free)∈scope.names→∃ c,X.env.cells.lookup y=some c:=fun y hy=>hcell y (hfree y hy).1
 have hk:X.env.scope.kind=.function:=by rw [he]; exact eq_of_beq h3
 have hj:js.map (fun j=>X.N[j]?)=caps.map some:=eq_of_beq h6
 refine ⟨XD hfc,fun y c q=>(mem_clOf.mp (PySem.mem_of_lookup q)).2,fun y q=>?_,fun x hx=>?_,fun y hy e=>?_,eq_of_beq h2,fun y hy e=>?_,fun x hx=>eq_of_beq (h4 x hx),of_decide_eq_true h5,?_,fun k y q=>?_,fun y hy=>?_⟩
 ·have:(y,NameKind.free)∈scope.names:=by
   have mem:∃ k,(y,k)∈(relabel scope X.env).names∧(k=.cell∨k=.free):=by
    rcases q with q | q
    ·exact ⟨_,PySem.mem_of_lookup q,.inl rfl⟩
    ·exact ⟨_,PySem.mem_of_lookup q,.inr rfl⟩
   obtain ⟨k,hm,hk'⟩:=mem
   obtain ⟨⟨n,k0⟩,hn,e⟩:=List.mem_map.mp hm
   have ncell:k0≠.cell:=fun z=>by
    have q:=h1 _ hn
    rw [Bool.and_eq_true,Bool.and_eq_true] at q
    exact absurd z (bne_iff_ne.mp q.1.1)
   dsimp only at e
   split at e
   ·rename_i hz
    rw [Bool.and_eq_true,Bool.and_eq_true] at hz
    obtain rfl:=eq_of_beq hz.1.1
    cases e
    exact hn
   ·cases e
    rcases hk' with z | z
    ·exact absurd z ncell
    ·rw [z] at hn; exact hn
  obtain ⟨c,hc'⟩:=hfc y this
  exact rR (mem_clOf.mpr ⟨this,hc'⟩)
 ·cases q:(vS X.env.cells scope.names).lookup x with
  | none=>rfl
  | some c=>
   have z:=(hfree x (mem_clOf.mp (PySem.mem_of_lookup q)).1).2
   rw [List.contains_iff_mem.mpr hx] at z
   cases z
 ·have q:=h1 y hy
  rw [Bool.and_eq_true,Bool.and_eq_true] at q
  exact absurd e (bne_iff_ne.mp q.1.1)
 ·have q:=h1 y hy
  rw [Bool.and_eq_true,Bool.and_eq_true,e] at q
  exact eq_of_beq (show (scope.names.lookup y.1 == some .local)=true from q.1.2)
 ·have:=congrArg List.length hj
  rwa [List.length_map,List.length_map] at this
 ·have e:(js.map fun j=>X.N[j]?)[k]? = (caps.map some)[k]?:=by rw [hj]
  rw [List.getElem?_map,List.getElem?_map,q] at e
  obtain ⟨j,hj1,hj2⟩:=Option.map_eq_some_iff.mp e
  exact ⟨j,hj1,hj2⟩
 ·have q:=h7 y hy
  rw [Bool.and_eq_true] at q
  have q2:X.env.scope.names.lookup y=some .cell:=by rw [he]; exact eq_of_beq q.2
  exact ⟨yX hk (eq_of_beq q.1) q2,q2⟩
theorem lW {K:PySem.W.Frag} {F:Hp} {W W2:Vw} {ρ:DS} {σ:St} {js:List Nat} {ds:List Dt} {vs:List V} (r:Rl K Z F W ρ σ) (s2:Same W.g W2.g) (i:AllIs K W2.g ds vs):Rl K (fun _=>none) W2.h W2 (ds.map Sl.some++vU ρ js) (vs.map some++sJ σ js):=by
 have no:∀ (j:Nat) (es:List Dt),(ds.map Sl.some++vU ρ js)[j]? = some (.own es)→False:=fun j es q=>by
  have q:=List.mem_of_getElem? q
  rcases List.mem_append.mp q with q | q
  ·obtain ⟨_,_,e⟩:=List.mem_map.mp q
   cases e
  ·unfold vU at q
   obtain ⟨j,_,e⟩:=List.mem_map.mp q
   split at e <;> cases e
 have noO:∀ (j:Nat) (φ:ObP),(ds.map Sl.some++vU ρ js)[j]? = some (.obj φ)→False:=fun j φ q=>by
  have q:=List.mem_of_getElem? q
  rcases List.mem_append.mp q with q | q
  ·obtain ⟨_,_,e⟩:=List.mem_map.mp q
   cases e
  ·unfold vU at q
   obtain ⟨j,_,e⟩:=List.mem_map.mp q
   split at e <;> cases e
 have noA:∀ (j:Nat) (a:Addr) (es:List Dt),(ds.map Sl.some++vU ρ js)[j]? = some (.arg a es)→False:=fun j a es q=>by
  have q:=List.mem_of_getElem? q
  rcases List.mem_append.mp q with q | q
  ·obtain ⟨_,_,e⟩:=List.mem_map.mp q
   cases e
  ·unfold vU at q
   obtain ⟨j,_,e⟩:=List.mem_map.mp q
   split at e <;> cases e
 refine ⟨by unfold vU sJ; rw [List.length_append,List.length_append,List.length_map,List.length_map,List.length_map,List.length_map,i.length],fun j e q=>?_,fun j ds q=>(no j ds q).elim,fun j j' ds ds' _ q _=>(no j ds q).elim,Same.refl _,(fun _ _ q=>nomatch q),fun j a ds q=>(noA j a ds q).elim,fun j φ q=>(noO j φ q).elim⟩
 by_cases hj:j<ds.length
 ·rw [List.getElem?_append_left (by rw [List.length_map]; exact hj),List.getElem?_map] at q
  obtain ⟨d,hd,e1⟩:=Option.map_eq_some_iff.mp q
  cases e1
  obtain ⟨v,hv,iv⟩:=i.get hd
  exact ⟨v,by rw [List.getElem?_append_left (by rw [List.length_map,← i.length]; exact hj),List.getElem?_map,hv]; rfl,iv⟩
 ·have hj:ds.length≤j:=Nat.le_of_not_lt hj
  rw [List.getElem?_append_right (by rw [List.length_map]; exact hj),List.length_map] at q
  rw [List.getElem?_append_right (by rw [List.length_map,← i.length]; exact hj),List.length_map,← i.length]
  unfold vU at q
  rw [List.getElem?_map] at q
  obtain ⟨k,hk,e2⟩:=Option.map_eq_some_iff.mp q
  split at e2
  ·rename_i d' hd
   cases e2
   obtain ⟨u,hu,iu⟩:=r.at_ k e hd
   refine ⟨u,?_,Is.mono0 s2 iu⟩
   unfold sJ
   rw [List.getElem?_map,hk]
   show some ((σ[k]?).getD none)=_
   rw [hu]
   rfl
  ·cases e2
abbrev DTI:=DS→(Nat→(Nat→Dt→Prop)→Prop)→Prop
def LiI (K:PySem.W.Frag) (Z:Hp) (wi:TI) (di:DTI):Prop:=∀ {F:Hp} (ρ:DS) (σ:St) (W:Vw) (Q:Nat→(Nat→Dt→Prop)→Prop),Rl K Z F W ρ σ→di ρ Q→∀ R:It→Hp→Prop,
 (∀ (J:It) (n:Nat) (vals:Nat→Dt→Prop) (W1:Vw),Le W W1→n≤100000→(∀ W2:Vw,Same W1.g W2.g→(∀ i,i<n→J.go i W2.h∧∀ v H3,J.yld i W2.h v H3→∃ W3:Vw,Le W2 W3∧W3.h=H3∧∃ e,vals i e∧Is K W3.g e v)∧J.stop n W2.h)→Q n vals→R J W1.h)→wi σ W.h R
def DI (X:Cx) (tg iter:Expr) (di:DTI):Prop:=∃ wi,PI X tg iter wi∧LiI X.K (Zx X) wi di
def LiG (K:PySem.W.Frag) (k:Nat) (gt:TG) (dg:Dt→List Dt→Prop):Prop:=∀ (e:Dt) (v:V) (σ0 τ:St) (W:Vw) (as:List Dt),σ0.length=k→Is K W.g e v→dg e as→∀ Q:St→Hp→Prop,
 (∀ vs,AllIs K W.g as vs→vs.length=k→Q (vs.map some++τ) W.h)→gt v (σ0++τ) W.h Q
def jY:Dt→List Dt→Prop:=fun e as=>as=[e]
theorem l_ {K:PySem.W.Frag}:LiG K 1 (dG 0) jY:=by
 rintro e v σ0 τ W as hl i rfl Q q
 match σ0,hl with
 | [a],_=>exact q [v] (allIs_cons.mpr ⟨v,[],rfl,i,allIs_nil.mpr rfl⟩) rfl
def DC (X:Cx) (ifs:List Expr) (t:DTT):Prop:=∃ tt,PC X ifs tt∧LiT X.K (Zx X) tt t
def qo:DTT:=fun _ Q=>Q true
theorem cf {X:Cx}:DC X [] qo:=⟨_,WO,fun _ _ W _ _ h _ k=>k true W (Le.refl W) h⟩
def XY (K:PySem.W.Frag) (t:DTT):TT:=fun σ H R=>∃ (F:Hp) (ρ:DS) (W:Vw) (Q:Bool→Prop),W.h=H∧Rl K (fun _=>none) F W ρ σ∧t ρ Q∧∀ d W',Le W W'→Q d→R d W'.h
theorem DC.up {X:Cx} {ifs:List Expr} {t:DTT} (h:DC X ifs t) (hz:X.stack.length=X.outer.length:=by rfl):PC X ifs (XY X.K t):=by
 obtain ⟨te,p,l⟩:=h
 intro pins s σ H R E hE I q
 obtain ⟨F,ρ,W,Q,rfl,r,h,k⟩:=q
 have r':Rl X.K (Zx X) F W ρ σ:=by unfold Zx; rw [if_pos (Or.inl hz)]; exact r
 exact p pins s σ W.h R E hE I (l ρ σ W Q r' h R k)
theorem db {K:PySem.W.Frag} {t:DTT}:LiT K (fun _=>none) (XY K t) t:=fun ρ σ H Q r h R k=>⟨_,ρ,H,Q,rfl,r,h,k⟩
def tR (js:List Nat) (di:DTI) (dg:Dt→List Dt→Prop) (tt:DTT) (te:DTE):DTE:=fun ρ Q=>di ρ fun n vals=>∃ Pv:Nat→List Dt→Prop,Pv 0 []∧
 (∀ (i:Nat) e es,i<n→vals i e→Pv i es→∃ as,dg e as∧tt (as.map Sl.some++vU ρ js) fun b=>if b=true then te (as.map Sl.some++vU ρ js) fun y=>Pv (i+1) (es++[y]) else Pv (i+1) es)∧∀ es,Pv n es→Q (.lst es)
theorem df {K:PySem.W.Frag} {wi:TI} {gt:TG} {tt:TT} {te:TE} {di:DTI} {dg:Dt→List Dt→Prop} {dt:DTT} {u:DTE} {k:Nat} {js:List Nat} (h1:LiI K Z wi di) (hg:LiG K k gt dg) (ht':LiT K (fun _=>none) tt dt) (h2:LiE K (fun _=>none) te u):LiF K Z (iq wi gt tt te k js) (tR js di dg dt u):=by
 intro F ρ σ H Q r h R kk
 refine h1 ρ σ H _ r h _ fun J n vals W1 s1 hn hJ ⟨Pv,h0,ht,hd⟩=>?_
 have r1:=r.mono s1
 refine ⟨n,Nat.lt_of_le_of_lt hn (by decide),fun D hD=>?_⟩
 have gD:W1.g D=none:=W1.sub.free hD
 have stp:∀ {W2 W3:Vw} {ys:List V} {es:List Dt},Same W1.g W2.g∧Same W1.h (fun b=>if b=D then none else W2.h b)∧(∀ b,W1.h b≠none→W1.g b=none→W2.g b=none)∧W2.h D=some (.lst ys)∧W2.g D=none∧AllIs K W2.g es ys→Le W2 W3→
   Same W1.g W3.g∧Same W1.h (fun b=>if b=D then none else W3.h b)∧(∀ b,W1.h b≠none→W1.g b=none→W3.g b=none)∧W3.h D=some (.lst ys)∧W3.g D=none∧AllIs K W3.g es ys:=by
  rintro W2 W3 ys es ⟨s2,sh,sn,q1,q2,q3⟩ s3
  refine ⟨s2.trans s3.g,fun b o q=>?_,fun b z1 z2=>?_,s3.h _ _ q1,s3.n D (by rw [q1]; intro z; cases z) q2,q3.mono s3⟩
  ·have q':(if b=D then none else W2.h b)=some o:=sh b o q
   have hb:b≠D:=fun e=>by rw [e,hD] at q; cases q
   rw [if_neg hb] at q'
   show (if b=D then none else W3.h b)=some o
   rw [if_neg hb]
   exact s3.h _ _ q'
  ·have hb:b≠D:=fun e=>z1 (e ▸ hD)
   have z3:=sn b z1 z2
   refine s3.n b ?_ z3
   cases q:W1.h b with
   | none=>exact absurd q z1
   | some o=>
    have q':(if b=D then none else W2.h b)=some o:=sh b o q
    rw [if_neg hb] at q'
    rw [q']
    intro z; cases z
 refine ⟨fun i ys H2=>∃ (W2:Vw) (es:List Dt),W2.h=H2∧(Same W1.g W2.g∧Same W1.h (fun b=>if b=D then none else W2.h b)∧(∀ b,W1.h b≠none→W1.g b=none→W2.g b=none)∧W2.h D=some (.lst ys)∧W2.g D=none∧AllIs K W2.g es ys)∧ys.length≤i∧Pv i es,fun i v ys H2=>∃ (W2:Vw) (es:List Dt) (e:Dt),W2.h=H2∧(Same W1.g W2.g∧Same W1.h (fun b=>if b=D then none else W2.h b)∧(∀ b,W1.h b≠none→W1.g b=none→W2.g b=none)∧W2.h D=some (.lst ys)∧W2.g D=none∧AllIs K W2.g es ys)∧ys.length≤i∧Pv i es∧vals i e∧Is K W2.g e v,?_,?_,?_,?_,?_,?_⟩
 ·refine ⟨W1.mine D (.lst []) gD,[],rfl,⟨Same.refl _,fun b o q=>?_,fun b _ q=>q,zi,gD,allIs_nil.mpr rfl⟩,Nat.le_refl _,h0⟩
  have hb:b≠D:=fun e=>by rw [e,hD] at q; cases q
  show (if b=D then none else upd W1.h D (.lst []) b)=some o
  rw [if_neg hb,zo hb]
  exact q
 ·rintro i ys _ _ ⟨W2,es,rfl,⟨s2,_,_,q1,q2,_⟩,q4,_⟩
  exact ⟨q1,q4⟩
 ·rintro i ys _ hi ⟨W2,es,rfl,hW2,q4,q5⟩
  obtain ⟨g1,g2⟩:=(hJ W2 hW2.1).1 i hi
  refine ⟨g1,fun v H3 y=>?_⟩
  obtain ⟨W3,s3,e3,e,he,ie⟩:=g2 v H3 y
  exact ⟨W3,es,e,e3,stp hW2 s3,q4,q5,he,ie⟩
 ·rintro ys _ ⟨W2,es,rfl,⟨s2,_⟩,_⟩
  exact (hJ W2 s2).2
 ·rintro i v ys _ σ0 hi ⟨W2,es,e,rfl,hW2,q4,q5,he,ie⟩ hσ0
  obtain ⟨as,da,w⟩:=ht i e es hi he q5
  refine hg e v σ0 _ W2 as hσ0 ie da _ fun vs ivs lvs=>⟨⟨vs.map some,rfl,by rw [List.length_map]; exact lvs⟩,?_⟩
  refine ht' (F:=W2.h) (as.map Sl.some++vU ρ js) (vs.map some++sJ σ js) W2 _ (lW r1 hW2.1 ivs) w _ fun b W3 s3 w3=>?_
  have hW3:=stp hW2 s3
  cases b with
  | false=>exact ⟨W3,es,rfl,hW3,Nat.le_succ_of_le q4,w3⟩
  | true=>
   show te _ _ _
   refine h2 (F:=W3.h) (as.map Sl.some++vU ρ js) (vs.map some++sJ σ js) W3 _ (lW r1 hW3.1 (ivs.mono s3)) w3 _ fun y w W4 s4 i4 q6=>?_
   obtain ⟨a1,a2,a3,a4,a5,a6⟩:=stp hW3 s4
   refine ⟨a4,W4.mine D (.lst (ys++[w])) a5,es++[y],rfl,⟨a1,fun b o q=>?_,a3,zi,a5,a6.append (allIs_cons.mpr ⟨w,[],rfl,i4,allIs_nil.mpr rfl⟩)⟩,by rw [List.length_append]; exact Nat.succ_le_succ q4,q6⟩
   have q':(if b=D then none else W4.h b)=some o:=a2 b o q
   have hb:b≠D:=fun e=>by rw [e,hD] at q; cases q
   rw [if_neg hb] at q'
   show (if b=D then none else upd W4.h D (.lst (ys++[w])) b)=some o
   rw [if_neg hb,zo hb]
   exact q'
 ·rintro ys _ ⟨W2,es,rfl,⟨s2,sh,sn,q1,q2,q3⟩,_,q5⟩
  refine kk es D ys W2 (s1.trans ⟨s2,fun b o q=>?_,sn⟩) (s1.h.free hD) q1 q2 q3 (hd es q5)
  have q':(if b=D then none else W2.h b)=some o:=sh b o q
  have hb:b≠D:=fun e=>by rw [e,hD] at q; cases q
  rwa [if_neg hb] at q'
def cg (ta:DTE):DTI:=fun ρ Q=>ta ρ fun d=>∃ ds,wx d=some ds∧ds.length≤100000∧Q ds.length fun i e=>ds[i]? = some e
def TN (ta:DTE):DTI:=fun ρ Q=>ta ρ fun d=>∃ m:Int,d=.int m∧-(2 ^ 62)≤m∧m≤100000∧Q m.toNat fun i e=>e=.int i
section
variable {X:Cx} {fr:Fr} {osc scope:Scope} {bs caps:List Str} {js:List Nat} {N0:List Str} {L:Addr} {tg iter elt a:Expr} {ifs:List Expr} {ta te:DTE} {di:DTI} {tt:DTT} {dg:Dt→List Dt→Prop} {gt:TG} {px p0 pos pos1:Pos}
theorem Xp (h:DE X iter ta):DI X tg iter (cg ta):=by
 obtain ⟨te,p,l⟩:=h
 refine ⟨_,lX p,fun ρ σ W Q r h R k=>l ρ σ W _ r h _ fun d v W1 s1 i1 ⟨ds,el,hl,q⟩=>?_⟩
 obtain ⟨a,xs,rfl,hq,ha⟩:=e8 i1 el
 refine ⟨a,rfl,⟨xs,hq W1 (Same.refl _)⟩,k _ _ _ W1 s1 hl (fun W2 s2=>⟨fun i hi=>?_,?_⟩) q⟩
 ·rw [ha.length] at hi
  have hv:=List.getElem?_eq_getElem hi
  refine ⟨⟨xs,_,hq W2 s2,hv⟩,fun v' H3 ⟨e1,e2⟩=>⟨W2,Le.refl _,e1.symm,?_⟩⟩
  obtain ⟨e,he,ie⟩:=ha.get' (e2 xs (hq W2 s2))
  exact ⟨e,he,Is.mono0 s2 ie⟩
 ·exact ⟨xs,hq W2 s2,by rw [ha.length]; exact Nat.le_refl _⟩
theorem d6 (hg:Gl X "range") (hm:X.mg "range"=none) (h:DE X a ta) (hst:starEach [a] X.env=[(false,eval a X.env)]:=by rfl) (hst2:starEach [a] X.env=(false,eval a X.env)::starEach [] X.env:=by rfl):DI X tg (.Call (.Name "range" p0) [a] [] pos1) (TN ta):=by
 obtain ⟨te,p,l⟩:=h
 refine ⟨_,kW hg hm p hst hst2,fun ρ σ W Q r h R k=>l ρ σ W _ r h _ fun d v W1 s1 i1 ⟨m,ed,m1,m2,q⟩=>?_⟩
 subst ed
 refine ⟨m,is_int.mp i1,m1,by omega,k _ _ (fun i e=>e=.int i) W1 s1 (by omega) (fun W2 s2=>⟨fun i hi=>⟨hi,fun v H3 ⟨e1,e2⟩=>⟨W2,Le.refl _,e1.symm,.int i,rfl,?_⟩⟩,Nat.le_refl _⟩) q⟩
 rw [Int.zero_add] at e2
 exact is_int.mpr e2
theorem nW (hc:X.calm=true) (S:oJ osc scope bs caps js N0=true) (hN0:X.N=N0) (he':X.env.scope=osc) (hcs:X.env.cells=cellsFrom (L+1) osc.names []) (hl:DI X tg iter di)
  (hg:∀ C s H fp pins,PG (zA X scope (vS X.env.cells scope.names) bs caps C s H fp pins) tg gt) (lg:LiG X.K bs.length gt dg)
  (ht:∀ C s H fp pins,DC (zA X scope (vS X.env.cells scope.names) bs caps C s H fp pins) ifs tt)
  (he:∀ C s H fp pins,DE (zA X scope (vS X.env.cells scope.names) bs caps C s H fp pins) elt te) (hs:∀ y,foldedSetIterable iter X.env y=pure y:=by intro _; rfl):
  DF X (.ListComp elt [⟨tg,iter,ifs,0⟩] scope pos) (tR js di dg tt te):=by
 obtain ⟨wi,p,l⟩:=hl
 exact ⟨_,iT hc (XC (hN0 ▸ S) he' hcs) p hg (fun C s H fp pins=>(ht C s H fp pins).up) (fun C s H fp pins=>(he C s H fp pins).up) hs,df l lg db YT⟩
end
end OD
namespace OD
variable {Z:Hp}
open PySem PySem.Spec PyProof.Rows L2
section
variable {K:PySem.W.Frag} {F:Hp} {W W' W0:Vw}
theorem NewL.mono {d:Dt} {v:V} (h:NewL K F W d v) (s:Le W W'):NewL K F W' d v:=by
 obtain ⟨es,p,xs,h1,h2,h3,h4,h5,h6⟩:=h
 exact ⟨es,p,xs,h1,h2,h3,s.h _ _ h4,s.n p (by rw [h4]; intro z; cases z) h5,h6.mono s⟩
theorem Prt.mono {b:Bool} {d:Dt} {v:V} (h:Prt K F W b d v) (s:Le W W'):Prt K F W' b d v:=by
 cases b with
 | false=>exact Is.mono h s
 | true=>
  rcases h with h | ⟨h1,h2⟩
  ·exact .inl (h.mono s)
  ·exact .inr ⟨h1,Is.mono h2 s⟩
theorem Prt.frz {b:Bool} {d:Dt} {u:V} (le:Le W0 W) (h:Prt K W0.h W b d u):∃ W1:Vw,W1.h=W.h∧Same W.g W1.g∧Le W0 W1∧Is K W1.g d u∧
  ∀ b2 d2 u2,Prt K W0.h W b2 d2 u2→(∀ es fs,b=true→b2=true→d=.lst es→d2=.lst fs→u≠u2)→Prt K W0.h W1 b2 d2 u2:=by
 cases b with
 | false=>exact ⟨W,rfl,Same.refl _,le,h,fun _ _ _ k _=>k⟩
 | true=>
  rcases h with ⟨es,p,xs,rfl,rfl,h3,h4,h5,h6⟩ | ⟨_,h2⟩
  ·refine ⟨W.frz p _ h4,rfl,zC h5 _,wT le h3 h4 h5,is_lst.mpr ⟨p,xs,rfl,zi,AllIs.mono0 (zC h5 _) h6⟩,fun b2 d2 u2 k ne=>?_⟩
   cases b2 with
   | false=>exact Is.mono0 (zC h5 _) k
   | true=>
    rcases k with ⟨fs,q,ys,rfl,rfl,k3,k4,k5,k6⟩ | ⟨k1,k2⟩
    ·have hq:q≠p:=fun z=>ne es fs rfl rfl rfl rfl (by rw [z])
     exact .inl ⟨fs,q,ys,rfl,rfl,k3,k4,(zo hq).trans k5,AllIs.mono0 (zC h5 _) k6⟩
    ·exact .inr ⟨k1,Is.mono0 (zC h5 _) k2⟩
  ·exact ⟨W,rfl,Same.refl _,le,h2,fun _ _ _ k _=>k⟩
theorem Tld.frz {fr:Fr} {d:Dt} {v:V} (le:Le W0 W) (h:Tld K W0.h W fr d v):∃ W1:Vw,W1.h=W.h∧Le W0 W1∧Is K W1.g d v:=by
 match fr,h with
 | .d,h=>exact ⟨W,rfl,le,h⟩
 | .l,⟨es,p,xs,e1,e2,h3,h4,h5,h6⟩=>
  subst e1; subst e2
  exact ⟨W.frz p _ h4,rfl,wT le h3 h4 h5,is_lst.mpr ⟨p,xs,rfl,zi,AllIs.mono0 (zC h5 _) h6⟩⟩
 | .t a b,⟨d1,d2,q,u1,u2,e1,e2,hq,p1,p2,ne⟩=>
  subst e1; subst e2
  obtain ⟨W1,e1,s1,le1,i1,k1⟩:=p1.frz le
  obtain ⟨W2,e2,s2,le2,i2,_⟩:=(k1 b d2 u2 p2 ne).frz le1
  exact ⟨W2,e2.trans e1,le2,is_tup.mpr ⟨q,_,rfl,s2 _ _ (s1 _ _ hq),allIs_cons.mpr ⟨u1,_,rfl,Is.mono0 s2 i1,allIs_cons.mpr ⟨u2,_,rfl,i2,allIs_nil.mpr rfl⟩⟩⟩⟩
end
def kC (K:PySem.W.Frag) (fr:Fr) (S:DSp):Sp:=fun vs H Q _=>∃ (W:Vw) (ds:List Dt) (Qd:Dt→Prop),W.h=H∧AllIs K W.g ds vs∧S ds Qd∧∀ d v W',Le W W'→Tld K W.h W' fr d v→Qd d→Q v W'.h
def vW (K:PySem.W.Frag) (fr:Fr) (S:zV):Sp:=fun vs H Q E=>∃ (W:Vw) (ds:List Dt) (Qd:Dt→Prop) (Ed:Addr→Prop),W.h=H∧AllIs K W.g ds vs∧S ds Qd Ed∧
 (∀ d v W',Le W W'→Tld K W.h W' fr d v→Qd d→Q v W'.h)∧∀ C H',Same W.h H'→Ed C→E (.ref C) none H'
structure TOk (P:Program) (w:World) (K:PySem.W.Frag) (mg:Str→Option Value) (base:Heap) (n:Nat) (x:Str) (fr:Fr) (S:DSp):Prop where
 ex:∃ f fd ps,mg x=some (.ref f)∧PySem.W.keepIn K (.ref f)=true∧Binds K fd ps []∧FnOk P w K mg base CX0 n f fd ps (kC K fr S)
structure TOkX (P:Program) (w:World) (K:PySem.W.Frag) (mg:Str→Option Value) (base:Heap) (n:Nat) (x:Str) (fr:Fr) (S:zV):Prop where
 ex:∃ f fd ps,mg x=some (.ref f)∧PySem.W.keepIn K (.ref f)=true∧Binds K fd ps []∧FnOk P w K mg base (CX1 P w) n f fd ps (vW K fr S)
section
variable {P:Program} {w:World} {K:PySem.W.Frag} {mg:Str→Option Value} {base:Heap} {fr:Fr}
theorem TOk.dok {x:Str} {n:Nat} {S:DSp} (h:TOk P w K mg base n x fr S):DOk P w K mg base n x S:=
 let ⟨f,fd,ps,h1,h2,h3,h4⟩:=h.ex; ⟨f,fd,ps,h1,h2,h3,h4.imp fun vs H Q E ⟨W,ds,Qd,a,b,c,k⟩=>⟨W,ds,Qd,a,b,c,fun d v W' le t q=>by
  obtain ⟨W1,e1,le1,i1⟩:=t.frz le
  rw [← e1]
  exact k d v W1 le1 i1 q⟩⟩
theorem TOkX.dok {x:Str} {n:Nat} {S:zV} (h:TOkX P w K mg base n x fr S):DOkX P w K mg base n x S:=
 let ⟨f,fd,ps,h1,h2,h3,h4⟩:=h.ex; ⟨f,fd,ps,h1,h2,h3,h4.imp fun vs H Q E ⟨W,ds,Qd,Ed,a,b,c,k,ke⟩=>⟨W,ds,Qd,Ed,a,b,c,fun d v W' le t q=>by
  obtain ⟨W1,e1,le1,i1⟩:=t.frz le
  rw [← e1]
  exact k d v W1 le1 i1 q,ke⟩⟩
theorem okT {x qual:Str} {st:Stmt} {f:Addr} {fd:FuncData} {N ps:List Str} {k:Nat} {S:DSp} (F:Fun K x qual st f fd) (sc:zh N ps (defScope st)) (len:∀ ds Q,S ds Q→ds.length=ps.length)
  (hbody:∀ (cdv:Value) (A:Around) (outer:List Env) (s:Shared) (H:Hp) (E:XK),Room k (A.deeper (envOfC qual (defScope st) s.heap.objs.size f cdv))→∀ (ds:List Dt) (Q:Dt→Prop),S ds Q→
   ∃ t,DSs (yo CX0 P w K mg base N qual (defScope st) f cdv A outer s H E).nox fr (defBody st) t∧t { nx:=fun _=>False,rt:=Q } (z5 N.length ds)):FnOk P w K mg base CX0 (k+1) f fd ps (kC K fr S):=by
 refine F.ok sc (fun vs H Q E h=>?_) (fun cdv A outer s H vs Q E hr h=>?_)
 ·obtain ⟨W,ds,Qd,_,ia,hS,_⟩:=h
  rw [← ia.length]
  exact len ds Qd hS
 obtain ⟨W,ds,Qd,rfl,ia,hS,kk⟩:=h
 obtain ⟨t,⟨ts,p,l⟩,ht⟩:=hbody cdv A outer s W.h E hr ds Qd hS
 exact ⟨ts,p,l W W.g (z5 N.length ds) (start N vs) W { nx:=fun _=>False,rt:=Qd } _ (x9 ia (uN (Nat.succ_ne_self _))) ⟨fun ρ σ W' a q=>q.elim,kk,fun _ _ _ _ q=>q.elim,fun _ _ _ _ q=>q.elim⟩ ht⟩
theorem SJ {x qual:Str} {st:Stmt} {f:Addr} {fd:FuncData} {N ps:List Str} {k:Nat} {S:zV} (F:Fun K x qual st f fd) (sc:zh N ps (defScope st)) (len:∀ ds Q R,S ds Q R→ds.length=ps.length)
  (hbody:∀ (cdv:Value) (A:Around) (outer:List Env) (s:Shared) (H:Hp) (E:XK),Room k (A.deeper (envOfC qual (defScope st) s.heap.objs.size f cdv))→∀ (ds:List Dt) (Q:Dt→Prop) (R:Addr→Prop),S ds Q R→
   (∀ C,R C→Rz (yo (CX1 P w) P w K mg base N qual (defScope st) f cdv A outer s H E) C)→
   ∃ t,DSs (yo (CX1 P w) P w K mg base N qual (defScope st) f cdv A outer s H E) fr (defBody st) t∧t { nx:=fun _=>False,rt:=Q } (z5 N.length ds)):FnOk P w K mg base (CX1 P w) (k+1) f fd ps (vW K fr S):=by
 refine Fun.okX F sc (fun vs H Q E h=>?_) (fun cdv A outer s H vs Q E hr h=>?_)
 ·obtain ⟨W,ds,Qd,Ed,_,ia,hS,_⟩:=h
  rw [← ia.length]
  exact len ds Qd Ed hS
 obtain ⟨W,ds,Qd,Ed,rfl,ia,hS,kk,ke⟩:=h
 obtain ⟨t,⟨ts,p,l⟩,ht⟩:=hbody cdv A outer s W.h E hr ds Qd Ed hS fun C hC=>lV fun H' z=>ke C H' z hC
 exact ⟨ts,p,l W W.g (z5 N.length ds) (start N vs) W { nx:=fun _=>False,rt:=Qd } _ (x9 ia (uN (Nat.succ_ne_self _))) ⟨fun ρ σ W' a q=>q.elim,kk,fun _ _ _ _ q=>q.elim,fun _ _ _ _ q=>q.elim⟩ ht⟩
theorem TOk.mk' {x qual:Str} {st:Stmt} {f:Addr} {fd:FuncData} {ps:List Str} {n:Nat} {S:DSp} (F:Fun K x qual st f fd) (hm:mg x=some (.ref f)) (hb:Binds K fd ps []) (h:FnOk P w K mg base CX0 n f fd ps (kC K fr S)):TOk P w K mg base n x fr S:=
 ⟨f,fd,ps,hm,F.kp,hb,h⟩
theorem TOkX.mk' {x qual:Str} {st:Stmt} {f:Addr} {fd:FuncData} {ps:List Str} {n:Nat} {S:zV} (F:Fun K x qual st f fd) (hm:mg x=some (.ref f)) (hb:Binds K fd ps []) (h:FnOk P w K mg base (CX1 P w) n f fd ps (vW K fr S)):TOkX P w K mg base n x fr S:=
 ⟨f,fd,ps,hm,F.kp,hb,h⟩
end
def LiR (K:PySem.W.Frag) (Z:Hp) (fr:Fr) (te:TE) (t:DTE):Prop:=
 ∀ {F:Hp} (ρ:DS) (σ:St) (H:Vw) (Q:Dt→Prop),Rl K Z F H ρ σ→t ρ Q→∀ R:VK,(∀ d v H',Le H H'→Tld K H.h H' fr d v→Q d→R v H'.h)→te σ H.h R
def DR (X:Cx) (fr:Fr) (e:Expr) (t:DTE):Prop:=∃ te,PE X e te∧LiR X.K (Zx X) fr te t
def LiP (K:PySem.W.Frag) (Z:Hp) (b:Bool) (te:TE) (t:DTE):Prop:=
 ∀ {F:Hp} (ρ:DS) (σ:St) (H:Vw) (Q:Dt→Prop),Rl K Z F H ρ σ→t ρ Q→∀ R:VK,(∀ d v H',Le H H'→Prt K F H' b d v→Q d→R v H'.h)→te σ H.h R
def DP (X:Cx) (b:Bool) (e:Expr) (t:DTE):Prop:=∃ te,PE X e te∧LiP X.K (Zx X) b te t
theorem io {K:PySem.W.Frag} {F G:Hp} {W:Vw} {fr:Fr} {d:Dt} {v:V} (z:∀ p,F p=none→G p=none) (h:Tld K F W fr d v):Tld K G W fr d v:=by
 have pp:∀ {b:Bool} {d:Dt} {v:V},Prt K F W b d v→Prt K G W b d v:=fun {b d v} h=>by
  cases b with
  | false=>exact h
  | true=>exact h.imp (fun h=>h.le z) id
 match fr,h with
 | .d,h=>exact h
 | .l,h=>exact NewL.le h z
 | .t a b,⟨d1,d2,q,u1,u2,e1,e2,hq,p1,p2,ne⟩=>exact ⟨d1,d2,q,u1,u2,e1,e2,hq,pp p1,pp p2,ne⟩
section
variable {X:Cx} {fr:Fr} {a b:Bool} {e e1 e2:Expr} {es:List Expr} {t t1 t2:DTE} {ta:DTA} {n:Nat} {x y:Str} {S:DSp} {SX:zV} {p pos p0 p1 p2:Pos} {i j:Nat}
theorem dW (G:TOkX X.prog X.w X.K X.mg X.base n x fr SX) (hr:Room n X.A) (hg:Gl X x) (ha:DA X (e::es) ta) (hdb:(x == ("__debug__":Str))=false:=by decide)
  (he:starEach (e::es) X.env=(false,eval e X.env)::starEach es X.env:=by rfl) (hpl:(backTo pos (starEach es X.env)).any (·.1)=false:=by rfl):DR X fr (.Call (.Name x p) (e::es) [] pos) (lx X SX ta):=by
 obtain ⟨f,fd,ps,hm,hk,hb,F⟩:=G.ex
 obtain ⟨te,p1,l1⟩:=ha
 refine ⟨_,vh F hr hg hm hk hb .nil pass_can p1 hdb he hpl,fun ρ σ H Q r h R k=>l1 ρ σ H _ r h _ fun ds vs H1 s1 i1 q1=>?_⟩
 rw [List.append_nil]
 exact ⟨H1,ds,Q,Rz X,rfl,i1,q1,fun d v H2 s2 t2 q2=>k d v H2 (s1.trans s2) (io (fun _ z=>s1.h.free z) t2) q2,fun C H' s' hC=>⟨C,rfl,(hC H' (((qV r).trans s1.h).trans s')).2⟩⟩
def QY (t:DTE):DTE:=fun ρ Q=>t ρ fun d=>∃ d1 es,d=.tup [d1,.lst es]∧Q (.lst es)
theorem TF {jj} (h:DR X (.t a true) e t) (hs:vv (.Constant (.int 1) jj p0)):DF X (.Subscript e (.Constant (.int 1) jj p0) pos) (QY t):=by
 obtain ⟨te,p1,l1⟩:=h
 refine ⟨_,tU dr p1 rA hs,fun ρ σ H Q r h R k=>l1 ρ σ H _ r h _ fun d v H1 s1 ⟨d1,d2,q,u1,u2,e1,e2,hq,pt1,pt2,ne⟩ ⟨d1',es,ed,qq⟩=>?_⟩
 subst e2
 rw [ed] at e1
 cases e1
 rcases pt2 with ⟨fs,p,xs,e1,e2,h3,h4,h5,h6⟩ | ⟨z,_⟩
 ·cases e1; subst e2
  exact .inr (.inl ⟨q,_,1,_,rfl,rfl,.of (H1.sub _ _ hq),rfl,k es p xs H1 s1 h3 h4 h5 h6 qq⟩)
 ·cases z
theorem QS (h:DE X e t):DP X false e t:=let ⟨te,p,l⟩:=h; ⟨te,p,fun ρ σ H Q r h R k=>l ρ σ H Q r h R k⟩
def RF (i:Nat):DTE:=fun ρ Q=>∃ ds,ρ[i]? = some (.own ds)∧Q (.lst ds)
def RE (i:Nat):DTE:=fun ρ Q=>(∃ ds,ρ[i]? = some (.own ds)∧Q (.lst ds))∨∃ d,ρ[i]? = some (.some d)∧XR d=true∧Q d
theorem Ru (i:Nat) (hN:X.N[i]? = some x:=by rfl) (hv:Vis X.env.scope x:=by first | exact Or.inl rfl | exact Or.inr (Or.inl rfl) | exact Or.inr (Or.inr rfl)) (hd:(x == ("__debug__":Str))=false:=by decide)
  (hcd:(x == ("__classdict__":Str))=false:=by decide):DP X true (.Name x p0) (RE i):=by
 refine ⟨_,zQ hN hv hd hcd,fun ρ σ H Q r h R k=>?_⟩
 rcases h with ⟨ds,e,q⟩ | ⟨d,e,z,q⟩
 ·obtain ⟨b,xs,e1,e2,e3,e4,e5⟩:=r.ow i ds e
  exact ⟨.ref b,e1,k (.lst ds) _ H (Le.refl H) (.inl ⟨ds,b,xs,rfl,rfl,e4,e2,e3,e5⟩) q⟩
 ·obtain ⟨v,h1,h2⟩:=r.at_ i d e
  exact ⟨v,h1,k d v H (Le.refl H) (.inr ⟨z,h2⟩) q⟩
def Wa (t1 t2:DTE):DTS:=fun D ρ=>t1 ρ fun d1=>t2 ρ fun d2=>D.rt (.tup [d1,d2])
theorem Xg {x1} (h1:DP X a e1 t1) (h2:DP X b e2 t2) (hne:a=false∨b=false:=by first | exact .inl rfl | exact .inr rfl)
  (hst:starEach [e1,e2] X.env=(false,eval e1 X.env)::starEach [e2] X.env:=by rfl) (hst2:starEach [e2] X.env=(false,eval e2 X.env)::starEach [] X.env:=by rfl):
  DSt X (.t a b) (.Return (some (.Tuple [e1,e2] x1 p0)) pos) (Wa t1 t2):=by
 obtain ⟨te1,q1,l1⟩:=h1
 obtain ⟨te2,q2,l2⟩:=h2
 refine ⟨_,tm (pY (zH q1 (zH q2 ym hst2) hst)),fun W0 G ρ σ W D D' at_ s h=>?_⟩
 refine l1 ρ σ W _ at_.rl h _ fun d1 u1 W1 s1 pt1 h=>?_
 refine l2 ρ σ W1 _ (at_.rl.mono s1) h _ fun d2 u2 W2 s2 pt2 q=>?_
 refine ⟨by show 2≤_; decide,fun p hp=>?_⟩
 have s3:=wS hp (.tup [u1,u2])
 refine s.tl (.tup [d1,d2]) (.ref p) (W2.new p (.tup [u1,u2])) ((at_.le.trans s1).trans (s2.trans s3)) ⟨d1,d2,p,u1,u2,rfl,rfl,zi,(pt1.mono s2).mono s3,pt2.mono s3,fun _ _ z1 z2=>?_⟩ q
 rcases hne with z | z
 ·rw [z1] at z; cases z
 ·rw [z2] at z; cases z
theorem nS {x1} (i j:Nat) (hij:i≠j:=by decide) (hN:X.N[i]? = some x:=by rfl) (hN2:X.N[j]? = some y:=by rfl) (hv:Vis X.env.scope x:=by first | exact Or.inl rfl | exact Or.inr (Or.inl rfl) | exact Or.inr (Or.inr rfl)) (hv2:Vis X.env.scope y:=by first | exact Or.inl rfl | exact Or.inr (Or.inl rfl) | exact Or.inr (Or.inr rfl)) (hd:(x == ("__debug__":Str))=false:=by decide)
  (hcd:(x == ("__classdict__":Str))=false:=by decide) (hd2:(y == ("__debug__":Str))=false:=by decide) (hcd2:(y == ("__classdict__":Str))=false:=by decide)
  (hst:starEach [.Name x p1,.Name y p2] X.env=(false,eval (.Name x p1) X.env)::starEach [.Name y p2] X.env:=by rfl) (hst2:starEach [.Name y p2] X.env=(false,eval (.Name y p2) X.env)::starEach [] X.env:=by rfl):
  DSt X (.t true true) (.Return (some (.Tuple [.Name x p1,.Name y p2] x1 p0)) pos) (Wa (RF i) (RF j)):=by
 refine ⟨_,tm (pY (zH (zQ hN hv hd hcd) (zH (zQ hN2 hv2 hd2 hcd2) ym hst2) hst)),fun W0 G ρ σ W D D' at_ s h=>?_⟩
 obtain ⟨ds,e,es,e',h⟩:=h
 obtain ⟨c,xs,e1,k2,k3,k4,k5⟩:=at_.rl.ow i ds e
 obtain ⟨c',ys,e1',k2',k3',k4',k5'⟩:=at_.rl.ow j es e'
 refine ⟨.ref c,e1,.ref c',e1',by show 2≤_; decide,fun p hp=>?_⟩
 have s3:=wS hp (.tup [.ref c,.ref c'])
 have n1:NewL X.K W0.h W (.lst ds) (.ref c):=⟨ds,c,xs,rfl,rfl,k4,k2,k3,k5⟩
 have n2:NewL X.K W0.h W (.lst es) (.ref c'):=⟨es,c',ys,rfl,rfl,k4',k2',k3',k5'⟩
 refine s.tl _ (.ref p) (W.new p (.tup [.ref c,.ref c'])) (at_.le.trans s3) ⟨_,_,p,_,_,rfl,rfl,zi,.inl (n1.mono s3),.inl (n2.mono s3),fun _ _ _ _ _ _ z=>?_⟩ h
 exact at_.rl.ne i j ds es hij e e' (by rw [e1,e1',z])
def slP:Bool→Dt→Sl
 | true,.lst es=>.own es
 | _,d=>.some d
theorem Rl.ownN {K:PySem.W.Frag} {F:Hp} {W:Vw} {ρ:DS} {σ:St} (r:Rl K Z F W ρ σ) {p:Addr} {xs:List V} {ds:List Dt} (i:Nat) (nep:∀ (j:Nat) (es:List Dt),ρ[j]? = some (Sl.own es)→σ[j]?≠some (some (V.ref p))) (nea:∀ (j:Nat) (a:Addr) (es:List Dt),ρ[j]? = some (Sl.arg a es)→a≠p)
  (hF:F p=none) (h1:W.h p=some (.lst xs)) (h2:W.g p=none) (h3:AllIs K W.g ds xs):Rl K Z F W (ρ.set i (.own ds)) (σ.set i (some (.ref p))):=by
 refine ⟨by rw [List.length_set,List.length_set]; exact r.len,fun j e q=>?_,fun j es q=>?_,fun j k es es' hjk q1 q2=>?_,r.fr,r.z,fun j a fs q=>?_,r.ob.set i _ (fun φ z=>by cases z)⟩
 ·rcases zl q with ⟨_,_,e1⟩ | ⟨hij,q⟩
  ·cases e1
  ·rw [List.getElem?_set_ne hij]
   exact r.at_ j e q
 ·rcases zl q with ⟨rfl,hl,e1⟩ | ⟨hij,q⟩
  ·cases e1
   exact ⟨p,xs,by rw [List.getElem?_set_self (by rw [← r.len]; exact hl)],h1,h2,hF,h3⟩
  ·rw [List.getElem?_set_ne hij]
   exact r.ow j es q
 ·rcases zl q1 with ⟨rfl,hl,e1⟩ | ⟨hij,q1⟩
  ·rcases zl q2 with ⟨rfl,_,_⟩ | ⟨hik,q2⟩
   ·exact absurd rfl hjk
   ·rw [List.getElem?_set_self (by rw [← r.len]; exact hl),List.getElem?_set_ne hik]
    exact fun z=>nep k es' q2 z.symm
  ·rcases zl q2 with ⟨rfl,hl,_⟩ | ⟨hik,q2⟩
   ·rw [List.getElem?_set_self (by rw [← r.len]; exact hl),List.getElem?_set_ne hij]
    exact nep j es q1
   ·rw [List.getElem?_set_ne hij,List.getElem?_set_ne hik]
    exact r.ne j k es es' hjk q1 q2
 ·rcases zl q with ⟨_,_,e1⟩ | ⟨hij,q⟩
  ·cases e1
  obtain ⟨⟨ys,g1,g2⟩,k1,k2⟩:=r.ar j a fs q
  refine ⟨⟨ys,by rw [List.getElem?_set_ne hij]; exact g1,g2⟩,fun k es q'=>?_,fun k c es q'=>?_⟩
  ·rcases zl q' with ⟨rfl,hl,e1⟩ | ⟨hik,q'⟩
   ·rw [List.getElem?_set_self (by rw [← r.len]; exact hl)]
    intro z
    cases z
    exact nea j _ fs q rfl
   ·rw [List.getElem?_set_ne hik]
    exact k1 k es q'
  ·rcases zl q' with ⟨_,_,e1⟩ | ⟨hik,q'⟩
   ·cases e1
   exact k2 k c es q'
theorem Rl.part {K:PySem.W.Frag} {F F':Hp} {W:Vw} {ρ:DS} {σ:St} (r:Rl K Z F W ρ σ) {b:Bool} {d:Dt} {v:V} (i:Nat) (h:Prt K F' W b d v) (hF:∀ p,F' p=none→F p=none)
  (nep:∀ (p:Addr) (j:Nat) (es fs:List Dt),b=true→d=.lst fs→v=.ref p→F' p=none→ρ[j]? = some (Sl.own es)→σ[j]?≠some (some (V.ref p))) (nea:∀ (p:Addr) (j:Nat) (a:Addr) (es:List Dt),F' p=none→ρ[j]? = some (Sl.arg a es)→a≠p):
  Rl K Z F W (ρ.set i (slP b d)) (σ.set i (some v)):=by
 cases b with
 | false=>cases d <;> exact r.set i h
 | true=>
  rcases h with ⟨es,p,xs,rfl,rfl,h3,h4,h5,h6⟩ | ⟨z,h2⟩
  ·exact r.ownN i (fun j fs e=>nep p j fs es rfl rfl rfl h3 e) (fun j a fs e=>nea p j a fs h3 e) (hF p h3) h4 h5 h6
  ·cases d <;> first | exact r.set i h2 | cases z
end
end OD
namespace L2
open PySem PySem.Spec PyProof.Rows
def Cx.arg (X:Cx):Cx:={ X with fn:=fun y=>!(y == "") }
section
variable {X:Cx} {pins:List (Addr × Obj)} {σ:St} {H:Hp} {s:Shared}
theorem Inv.arg (I:Inv X pins σ H s) (hf:∀ y,X.fn y=true):Inv X.arg pins σ H s:=
 ⟨⟨I.ok.mod,I.ok.kind,I.ok.glob,I.ok.blt,I.ok.above,I.ok.inj,I.ok.has,fun x c _=>I.ok.cab x c (hf x),I.ok.hd,I.ok.frames,I.ok.stk,I.ok.exf,I.ok.bs,I.ok.bsz,I.ok.noex,I.ok.exfs,I.ok.funs,I.ok.frf⟩,I.os,I.bare,I.base,I.loc,I.cell,I.free,I.freeC,I.pin,I.hok,I.len⟩
end
end L2
namespace OD
variable {Z:Hp}
open PySem PySem.Spec PyProof.Rows L2
def Vw.del (W:Vw) (a:Addr) (hg:W.g a=none):Vw:=⟨W.g,fun b=>if b=a then none else W.h b,fun b o q=>by
 have:b≠a:=fun e=>by rw [e,hg] at q; cases q
 show (if b=a then none else W.h b)=some o
 rw [if_neg this]
 exact W.sub _ _ q⟩
abbrev ASp:=Dt→List Dt→List Dt→(List Dt→Prop)→Prop
def Wh (K:PySem.W.Frag) (S:ASp):Sp:=fun vs H Q _=>∃ (W:Vw) (d0:Dt) (es0 ds:List Dt) (Qd:List Dt→Prop) (v0:V) (a:Addr) (xs vs':List V) (hg:W.g a=none),W.h=H∧vs=v0::.ref a::vs'∧W.h a=some (.lst xs)∧Is K W.g d0 v0∧AllIs K W.g es0 xs∧AllIs K W.g ds vs'∧S d0 es0 ds Qd∧
 ∀ es ys W',Le (W.del a hg) W'→W'.h a=some (.lst ys)→W'.g a=none→AllIs K W'.g es ys→Qd es→Q .non W'.h
structure AOk (P:Program) (w:World) (K:PySem.W.Frag) (mg:Str→Option Value) (base:Heap) (n:Nat) (x:Str) (S:ASp):Prop where
 ex:∃ f fd ps,mg x=some (.ref f)∧PySem.W.keepIn K (.ref f)=true∧Binds K fd ps []∧FnOk P w K mg base CX0 n f fd ps (Wh K S)
section
variable {P:Program} {w:World} {K:PySem.W.Frag} {mg:Str→Option Value} {base:Heap}
theorem AOk.mk' {x qual:Str} {st:Stmt} {f:Addr} {fd:FuncData} {ps:List Str} {n:Nat} {S:ASp} (F:Fun K x qual st f fd) (hm:mg x=some (.ref f)) (hb:Binds K fd ps []) (h:FnOk P w K mg base CX0 n f fd ps (Wh K S)):AOk P w K mg base n x S:=
 ⟨f,fd,ps,hm,F.kp,hb,h⟩
end
section
variable {X:Cx} {fr:Fr} {e e0 k:Expr} {es:List Expr} {t te tk:DTE} {ta:DTA} {n:Nat} {x y:Str} {S:ASp} {p pos p0 p1 p2 p3:Pos} {i:Nat}
end
end OD
namespace OD
variable {Z:Hp}
open PySem PySem.Spec PyProof.Rows L2
section
variable {X:Cx} {tg:Expr}
variable {a b c:Expr} {ta:DTA} {p0 pos1:Pos}
end
end OD
namespace L2
open PySem PySem.Spec PyProof.Rows
section
variable {X:Cx}
end
end L2
namespace OD
variable {Z:Hp}
open PySem PySem.Spec PyProof.Rows L2
abbrev DTB:=Prop→(Addr→Prop)→DS→Prop
section
variable {X:Cx} {e:Expr} {es:List Expr} {t:DTA} {n:Nat} {x y m:Str} {j:Nat} {S:zV} {p pos py hpos epos tpos:Pos} {fr:Fr} {th:DTS} {c:Value} {b₀:Stmt} {suite body:List Stmt} {d:DTB}
end
end OD
namespace OD
open PySem L2
variable {X:Cx} {e:Expr} {t:DTE}
end OD
namespace OD
open PySem L2 PyProof.Rows
section
variable {Z F:Hp} {K:PySem.W.Frag} {W W' W0:Vw} {G:Hp} {ρ:DS} {σ:L2.St}
theorem iA {α:Type} {l:List α} {x y:α} {i:Nat} (q:(l++[x])[i]? = some y):l[i]? = some y∨(i=l.length∧x=y):=by
 rcases Nat.lt_trichotomy i l.length with h | h | h
 ·rw [List.getElem?_append_left h] at q; exact .inl q
 ·subst h
  rw [List.getElem?_append_right (Nat.le_refl _),Nat.sub_self] at q
  exact .inr ⟨rfl,Option.some.inj q⟩
 ·rw [List.getElem?_eq_none (by rw [List.length_append]; show l.length+1≤i; omega)] at q
  cases q
theorem dE {α:Type} {l:List α} {y:α} {i:Nat} (q:l[i]? = some y):i<l.length:=by
 rcases Nat.lt_or_ge i l.length with h | h
 ·exact h
 ·rw [List.getElem?_eq_none h] at q; cases q
theorem c3 {α:Type} {l:List α} {x:α} {i:Nat} (h:i<l.length):(l++[x])[i]? = l[i]?:=List.getElem?_append_left h
theorem Rl.push (r:Rl K Z F W ρ σ):Rl K Z F W (ρ++[Sl.none]) (σ++[none]):=by
 have hs:∀ i y,ρ[i]? = some y→(σ++[none])[i]? = σ[i]?:=fun i y q=>c3 (by rw [← r.len]; exact dE q)
 have cl:∀ i y,(ρ++[Sl.none])[i]? = some y→y≠Sl.none→ρ[i]? = some y:=fun i y q hy=>by
  rcases iA q with q | ⟨_,e⟩
  ·exact q
  ·exact absurd e.symm hy
 refine ⟨by rw [List.length_append,List.length_append,r.len]; rfl,fun i d q=>?_,fun i ds q=>?_,fun i k ds es hik q1 q2=>?_,r.fr,r.z,fun i c ds q=>?_,fun i φ q=>?_⟩
 ·have q:=cl i _ q (fun z=>nomatch z)
  rw [hs i _ q]; exact r.at_ i d q
 ·have q:=cl i _ q (fun z=>nomatch z)
  rw [hs i _ q]; exact r.ow i ds q
 ·have q1:=cl i _ q1 (fun z=>nomatch z)
  have q2:=cl k _ q2 (fun z=>nomatch z)
  rw [hs i _ q1,hs k _ q2]; exact r.ne i k ds es hik q1 q2
 ·have q:=cl i _ q (fun z=>nomatch z)
  obtain ⟨⟨xs,h1,h2⟩,k1,k2⟩:=r.ar i c ds q
  refine ⟨⟨xs,by rw [hs i _ q]; exact h1,h2⟩,fun k es q'=>?_,fun k b es q'=>k2 k b es (cl k _ q' (fun z=>nomatch z))⟩
  have q':=cl k _ q' (fun z=>nomatch z)
  rw [hs k _ q']; exact k1 k es q'
 ·have q:=cl i _ q (fun z=>nomatch z)
  obtain ⟨⟨a,o,h1,h2⟩,k⟩:=r.ob i φ q
  exact ⟨⟨a,o,by rw [hs i _ q]; exact h1,h2⟩,fun l ψ q'=>k l ψ (cl l _ q' (fun z=>nomatch z))⟩
structure TAt (K:PySem.W.Frag) (Z:Hp) (W0:Vw) (G:Hp) (W:Vw) (ρ:DS) (σ:L2.St) (i:Nat) (es:List Dt) (d:Dt):Prop where
 ex:∃ p q v,At K Z W0 G W (ρ++[.own es]) (σ++[some (.ref p)])∧σ[i]? = some (some (.ref q))∧W.g q=some (.tup [.ref p,v])∧Is K W.g d v
variable {i:Nat} {es:List Dt} {d:Dt}
theorem TAt.step (t:TAt K Z W0 G W ρ σ i es d) (s:Le W W'):TAt K Z W0 G W' ρ σ i es d:=
 let ⟨p,q,v,a,h1,h2,h3⟩:=t.ex; ⟨p,q,v,a.step s,h1,s.g _ _ h2,h3.mono s⟩
abbrev DTG:=List Dt→Dt→DTS
end
section
variable {X:Cx} {fr:Fr} {st:Stmt} {yU:List Stmt} {t:DTE} {u:DTS} {ug:DTG} {e:Expr} {te:DTE} {pos p0 p1 p2 p3 pos':Pos} {i j:Nat} {x y:Str}
end
end OD
namespace OD
open PySem L2
section
variable {js:List Nat} {ta te:DTE} {X:Cx} {e:Expr} {fr:Fr} {st:Stmt} {i:Nat}
theorem each_t {s:DS} {P R:Prop}:(qo s fun b=>if b=true then P else R)=P:=by show (if true=true then P else R)=P; rw [if_pos rfl]
theorem XV {e:Dt} {s:List Dt→DS} {P R:List Dt→Prop} (h:∃ as,jY e as∧qo (s as) fun b=>if b=true then P as else R as):P [e]:=by
 obtain ⟨as,z,h⟩:=h
 cases z
 exact each_t.mp h
theorem cp:cj js ta te=tR js (TN ta) jY qo te:=funext fun ρ=>funext fun Q=>congrArg (ta ρ) (funext fun d=>propext
 ⟨fun ⟨m,Pv,h1,h2,h3,h4,h5,h6⟩=>⟨m,h1,h2,h3,Pv,h4,fun i e es hi he hp=>⟨_,rfl,each_t.mpr (he ▸ h5 i es hi hp)⟩,h6⟩,
  fun ⟨m,h1,h2,h3,Pv,h4,h5,h6⟩=>⟨m,Pv,h1,h2,h3,h4,fun i es hi hp=>XV (h5 i _ es hi rfl hp),h6⟩⟩)
theorem cq:ky js ta te=tR js (cg ta) jY qo te:=funext fun ρ=>funext fun Q=>congrArg (ta ρ) (funext fun d=>propext
 ⟨fun ⟨ds,Pv,h1,h3,h4,h5,h6⟩=>⟨ds,h1,h3,Pv,h4,fun i e es _ he hp=>⟨_,rfl,each_t.mpr (h5 i e es he hp)⟩,h6⟩,
  fun ⟨ds,h1,h3,Pv,h4,h5,h6⟩=>⟨ds,Pv,h1,h3,h4,fun i e es he hp=>XV (h5 i e es (dE he) he hp),h6⟩⟩)
theorem R4 (h:DF X e (tR js (TN ta) jY qo te)):DF X e (cj js ta te):=cp ▸ h
theorem R5 (h:DF X e (tR js (cg ta) jY qo te)):DF X e (ky js ta te):=cq ▸ h
end
end OD
namespace L2
open PySem PySem.Spec PyProof.Rows
section
variable {X:Cx} {o e:Expr} {es:List Expr} {n:Nat} {m x:Str} {pos p apos py epos:Pos} {i:Nat}
end
end L2
namespace OD
variable {Z:Hp}
open PySem PySem.Spec PyProof.Rows L2
structure MOkX (P:Program) (w:World) (K:PySem.W.Frag) (mg:Str→Option Value) (base:Heap) (n:Nat) (C:Addr) (m:Str) (S:zV):Prop where
 cl:Cls K C
 ex:∃ f fd ps,lJ K C m f∧Binds K fd ps []∧FnOk P w K mg base (CX1 P w) n f fd ps (vt K S)
theorem MOkX.mono {P:Program} {w:World} {K:PySem.W.Frag} {mg:Str→Option Value} {base:Heap} {C:Addr} {x:Str} {m n:Nat} {S:zV} (h:MOkX P w K mg base m C x S) (hl:m≤n):MOkX P w K mg base n C x S:=
 let ⟨f,fd,ps,a,b,c⟩:=h.ex; ⟨h.cl,f,fd,ps,a,b,c.mono hl⟩
abbrev DTC:=(DS→Prop)→(Addr→Prop)→DS→Prop
section
variable {X:Cx} {o e:Expr} {es:List Expr} {t:DTA} {ta:DTE} {n:Nat} {x y m z:Str} {i j:Nat} {S:zV} {p pos py hpos epos tpos apos:Pos} {fr:Fr} {th:DTS} {c:Value} {b₀:Stmt} {suite body:List Stmt} {d:DTC}
end
end OD
namespace OD
variable {Z:Hp}
open PySem PySem.Spec PyProof.Rows L2
section
variable {X:Cx} {a b:Expr} {ta:DTA} {te:DTE} {p0 pos pos1 tpos:Pos} {elts:List Expr} {x1:Nat}
end
end OD
namespace OD
open PySem L2 PyProof.Rows
def R9 (K:PySem.W.Frag) (S:DSp):Sp:=fun vs H Q _=>∃ (W:Vw) (d0:Dt) (es0 ds:List Dt) (Qd:Dt→Prop) (v0:V) (a:Addr) (xs vs':List V) (hg:W.g a=none),W.h=H∧vs=v0::.ref a::vs'∧W.h a=some (.lst xs)∧Is K W.g d0 v0∧AllIs K W.g es0 xs∧AllIs K W.g ds vs'∧S (d0::.lst es0::ds) Qd∧
 ∀ es p ys W',Le (W.del a hg) W'→(W.del a hg).h p=none→W'.h p=some (.lst ys)→W'.g p=none→AllIs K W'.g es ys→Qd (.lst es)→Q (.ref p) W'.h
structure VOk (P:Program) (w:World) (K:PySem.W.Frag) (mg:Str→Option Value) (base:Heap) (n:Nat) (x:Str) (S:DSp):Prop where
 ex:∃ f fd ps,mg x=some (.ref f)∧PySem.W.keepIn K (.ref f)=true∧Binds K fd ps []∧FnOk P w K mg base CX0 n f fd ps (R9 K S)
section
variable {P:Program} {w:World} {K:PySem.W.Frag} {mg:Str→Option Value} {base:Heap}
theorem VOk.mk' {x qual:Str} {st:Stmt} {f:Addr} {fd:FuncData} {ps:List Str} {n:Nat} {S:DSp} (F:Fun K x qual st f fd) (hm:mg x=some (.ref f)) (hb:Binds K fd ps []) (h:FnOk P w K mg base CX0 n f fd ps (R9 K S)):VOk P w K mg base n x S:=
 ⟨f,fd,ps,hm,F.kp,hb,h⟩
end
section
variable {X:Cx} {e0 e1:Expr} {es:List Expr} {t tf:DTE} {ta:DTA} {n:Nat} {x:Str} {S:DSp} {p pos:Pos}
end
end OD
namespace L2
open PySem PySem.Spec PyProof.Rows
section
variable {X:Cx} {a b:Expr} {ta tb:TE} {x1 x2:Str} {p1 p2 p3 p4 pos:Pos}
end
end L2
namespace OD
open PySem PySem.Spec PyProof.Rows L2
section
variable {X:Cx} {a b:Expr} {ta tb:DTE} {x1 x2:Str} {p1 p2 p3 p4 pos:Pos}
end
section
variable {X:Cx} {e:Expr} {es:List Expr} {t:DTA} {n:Nat} {x:Str} {p pos:Pos}
end
section
variable {P:Program} {w:World} {K:PySem.W.Frag} {mg:Str→Option Value} {base:Heap}
end
end OD
namespace OD
variable {Z:Hp}
open PySem PySem.Spec PyProof.Rows L2
section
variable {X:Cx} {tg:Expr}
variable {a b c:Expr} {ta:DTA} {p0 pos1:Pos}
end
end OD
namespace L2
open PySem PySem.Spec PyProof.Rows
section
variable {prog:Program} {w:World} {A:Around} {E:Value→Shared→Prop} {s:Shared}
end
section
variable {X:Cx} {pos:Pos}
end
end L2
namespace OD
open PySem PySem.Spec PyProof.Rows L2
section
variable {X:Cx} {fr:Fr} {e:Expr} {te:DTE} {pos:Pos}
end
end OD
namespace L2
open PySem PySem.Spec PyProof.Rows
section
variable {X:Cx}
end
end L2
namespace OD
open PySem PySem.Spec PyProof.Rows L2
section
variable {X:Cx} {a b e:Expr} {ta tb t:DTE} {p pos p0:Pos} {x:Str}
variable {apos cpos:Pos}
end
end OD
namespace L2
open PySem PySem.Spec PyProof.Rows
section
variable {X:Cx} {tg:Expr}
end
end L2
namespace OD
open PySem PySem.Spec PyProof.Rows L2
section
variable {X:Cx} {fr:Fr} {te:DTE} {pos:Pos}
end
end OD
namespace OD
open PySem
local macro_rules | `(tactic| walk_at "ws") => `(tactic| any_goals (first | assumption | wp_step))
def Tr (c:Nat):Prop:=48≤c∧c≤57
def Numl (l:List Nat):Prop:=l=[48]∨∃ c r,49≤c∧c≤57∧(∀ x∈r,Tr x)∧(l=c::r∨l=45::c::r)
theorem Numl.mem {l:List Nat} (h:Numl l):∀ c∈l,45≤c∧c≤57:=by
 rcases h with rfl | ⟨c,r,c1,c2,hr,rfl | rfl⟩
 ·intro c hc
  rw [List.mem_singleton.mp hc]; decide
 ·intro x hx
  rcases List.mem_cons.mp hx with rfl | hx
  ·omega
  ·have:=hr x hx
   unfold Tr at this; omega
 ·intro x hx
  rcases List.mem_cons.mp hx with rfl | hx
  ·decide
  rcases List.mem_cons.mp hx with rfl | hx
  ·omega
  ·have:=hr x hx
   unfold Tr at this; omega
end OD
namespace L2
open PySem PySem.Spec PyProof.Rows
section
variable {X:Cx}
end
end L2
namespace OD
open PySem PySem.Spec PyProof.Rows L2
section
variable {X:Cx} {a b e:Expr} {ta tb t:DTE} {p pos p0:Pos} {x:Str}
variable {apos cpos:Pos}
end
end OD
namespace PySem
open Sem (wp)
section
variable {A:Around} {R:Result→Shared→Prop} {s:Shared} {w:World} {prog:Program}
end
end PySem
namespace PySem
open Sem (wp)
section
variable {A:Around} {R:Result→Shared→Prop} {s:Shared} {w:World} {prog:Program}
end
end PySem
namespace L2
open PySem PySem.Spec PyProof.Rows
section
variable {X:Cx} {a:Expr} {p0 p1 pos pos1:Pos}
end
end L2
namespace OD
open PySem PySem.Spec PyProof.Rows L2
section
variable {X:Cx} {a:Expr} {ta:DTE} {p0 p1 pos pos1:Pos}
end
end OD
namespace PySem
open Sem (wp)
section
variable {A:Around} {R:Result→Shared→Prop} {s:Shared} {w:World} {prog:Program}
end
end PySem
namespace L2
open PySem PySem.Spec PyProof.Rows
section
variable {X:Cx}
end
end L2
namespace OD
open PySem PySem.Spec PyProof.Rows L2
section
variable {X:Cx}
end
end OD
namespace L2
open PySem PySem.Spec PyProof.Rows
theorem K2.sameBut {h h':Heap} {C:Addr} (hC:∃ m,h.Ns C m) (sb:Heap.SameBut C h h'):K2 h h':=fun b o vs hb hd=>by
 obtain ⟨m,oC,es,ep,hoC,hdC,_⟩:=hC
 refine ⟨o,vs,(sb.2 b fun z=>?_).trans hb,hd,rfl⟩
 rw [z,hoC] at hb
 cases hb
 rw [hdC] at hd
 cases hd
section
variable {P:Program} {w:World} {stack:List Env} {H H':Hp} {h0 h:Heap} {e L:Addr} {cls:Value}
end
section
variable {X:Cx} {pins:List (Addr × Obj)} {σ:St} {H H':Hp} {s s':Shared} {M:Model} {E:Value→Shared→Prop} {e:Addr} {cls:Value}
end
end L2
namespace OD
open PySem PySem.Spec PyProof.Rows L2
section
variable {X:Cx} {pins pins1:List (Addr × Obj)} {σ σ1:L2.St} {H3 H1 H':Hp} {s3 s1 s':Shared} {scope:Scope} {x:Str} {fp:List Addr} {C a:Addr} {cls:Value}
end
section
variable {P:Program} {w:World} {K:PySem.W.Frag} {mg:Str→Option Value} {base:Heap} {N:List Str} {qual:Str} {scope:Scope} {f C:Addr} {cd:Value} {A:Around} {outer:List Env} {s:Shared} {H H1:Hp} {E:XK}
end
section
variable {X:Cx} {pins:List (Addr × Obj)} {σ:L2.St} {H:Hp} {s:Shared} {scope:Scope} {x:Str} {fp:List Addr}
end
section
variable {Z:Hp} {X:Cx} {fr:Fr} {scope:Scope} {x g:Str} {iter:Expr} {px pv pf pos cpos:Pos} {tl:DTE} {S:zV} {n:Nat}
end
section
variable {P:Program} {w:World} {K:PySem.W.Frag} {mg:Str→Option Value} {base:Heap}
end
section
variable {X:Cx} {fr:Fr} {a e:Expr} {tg:Expr} {ta:DTA} {te:DTE} {p0 pos pos1 rpos tpos:Pos} {h₀:ExceptHandler} {hs:List ExceptHandler}
end
end OD
namespace L2
open PySem PySem.Spec PyProof.Rows
section
variable {X:Cx}
end
end L2
namespace OD
open PySem PySem.Spec PyProof.Rows L2
section
variable {X:Cx} {a:Expr} {ta:DTE} {p0 pos:Pos}
end
end OD
namespace L2
open PySem PySem.Spec PyProof.Rows
section
variable {prog:Program} {w:World} {A:Around} {s:Shared} {h0:Heap} {e:Addr} {R:Result→Shared→Prop}
end
section
variable {X:Cx} {pins:List (Addr × Obj)} {σ:St} {H H':Hp} {s s':Shared} {M:Model} {A:Around} {E:Value→Shared→Prop} {e:Addr} {cls:Value}
end
end L2
namespace OD
open PySem PySem.Spec PyProof.Rows L2
section
variable {X:Cx} {k n:Nat} {f Cz:Addr} {fd:FuncData} {ps:List Str} {sp:Sp} {x y z m:Str} {p pos rpos py hpos np cpos mpos npos zpos tpos:Pos} {j j':Nat} {e:Expr} {es:List Expr} {t:TA} {c:Value}
end
section
variable {P:Program} {w:World} {K:PySem.W.Frag} {mg:Str→Option Value} {base:Heap}
end
end OD
namespace L2
open PySem PySem.Spec PyProof.Rows
end L2
namespace OD
open PySem PySem.Spec PyProof.Rows L2
section
variable {X:Cx} {fr:Fr} {e:Expr} {te:DTE} {pos:Pos}
end
end OD
namespace OD
open PySem PySem.Spec PyProof.Rows L2
end OD
namespace OD
open PySem PySem.Spec PyProof.Rows L2
section
variable {X:Cx} {K:PySem.W.Frag} {y:Str} {a:Expr} {ta:DTE} {p0 p' pos:Pos} {D:Addr}
end
end OD
namespace L2
open PySem PySem.Spec PyProof.Rows
section
variable {prog:Program} {w:World} {A:Around} {E:Value→Shared→Prop} {s:Shared}
def IsNest (prog:Program) (w:World) (h:Heap) (k:List Int × Int) (a:Addr):Prop:=
 ∃ o items n b tk,h.get? a=some o∧o.cls=.type "tuple"∧o.data=.seq items n∧items.toList=[.ref b,.int k.2 tk]∧IsTupleKey (intKind prog w) h k.1 b
theorem IsNest.ty {k:List Int × Int} {a:Addr} (x:IsNest prog w s.heap k a):s.TypeIs (.ref a) "tuple":=let ⟨o,_,_,_,_,ho,hc,_⟩:=x; ⟨o,ho,hc⟩
def rN (prog:Program) (w:World) (k:List Int × Int):Int:=reduceHash (Builtin.Tuple.tupleHashOf [tupleKeyHash (intKind prog w) k.1,hashInt k.2])
theorem jI {k:List Int × Int} {a:Addr} {Q:Int→Shared→Prop} (hu:A.units+4<cLine) (hk:IsNest prog w s.heap k a) (h:Q (rN prog w k) { s with toks:=s.toks+(k.1.length+3) }):
  wpAny (model prog w) A (pyHash (.ref a)) Q E s:=by
 have hT:=hk.ty
 obtain ⟨o,items,n,b,tk,ho,_,hd,hi,hb⟩:=hk
 unfold pyHash
 first | unfold pyHashByItsType | skip
 first | refine wpAny_bind (wpAny_cRoomFor_or (.inr (show A.units<cLine by omega)) ?_) | skip
 refine wpAny_bind (wpAny_specialOf hT PySem.F.slot_tuple_hash.lookup ?_)
 rw [if_neg (by rw [beq_builtin_none]; exact Bool.false_ne_true)]
 refine wpAny_bind (wpAny_specialOf hT PySem.F.slot_tuple_hash.lookup (wpAny_bind ?_))
 refine wpAny_callSpecialIfBoundUnlessNone?_slot hT PySem.F.slot_tuple_hash (wpAny_call_entry PySem.F.slot_tuple_hash hT PySem.F.entry_tuple_hash ?_ (PySem.F.args_tuple_hash_1 _))
 refine wpAny_bind (m:=Builtin.Tuple.tupleItemsOf (.ref a)) (wpAny_tupleItemsOf ho hd (wpAny_bind ?_))
 rw [← Array.forIn_toList,hi,List.forIn_cons]
 refine wpAny_bind (wpAny_bind (PySem.wpAny_pyHash_tuple (show A.units+1<cLine by omega) hb (wpAny_pure ?_)))
 dsimp only
 rw [List.forIn_cons]
 refine wpAny_bind (wpAny_bind ((intKind prog w).pyHash (k:=k.2) (by simp [intKind,Value.isInt]) (wpAny_pure ?_)))
 dsimp only
 rw [List.forIn_nil]
 refine wpAny_pure (wpAny_ret_mkInt ?_)
 unfold rN reduceHash at h
 show wpAny _ _ (pyHashByItsType.reduced (Builtin.Tuple.tupleHashOf [tupleKeyHash (intKind prog w) k.1,hashInt k.2])) Q E _
 unfold pyHashByItsType.reduced
 have et:s.toks+(k.1.length+3)=s.toks+(k.1.length+1)+1+1:=by omega
 rw [et] at h
 generalize Builtin.Tuple.tupleHashOf [tupleKeyHash (intKind prog w) k.1,hashInt k.2]=V at *
 split
 ·rename_i c
  rw [if_pos c] at h
  exact wpAny_pure h
 ·rename_i c
  rw [if_neg c] at h
  exact wpAny_bind (wpAny_rule (wpAny_pure h))
theorem IsNest.one {h:Heap} {a:Addr} {x y:List Int × Int} (hx:IsNest prog w h x a) (hy:IsNest prog w h y a):x=y:=by
 obtain ⟨o,items,n,b,tk,ho,_,hd,hi,hb⟩:=hx
 obtain ⟨o',items',n',b',tk',ho',_,hd',hi',hb'⟩:=hy
 rw [ho] at ho'
 cases ho'
 rw [hd] at hd'
 cases hd'
 rw [hi] at hi'
 have e1:b=b':=by have:=(List.cons.inj hi').1; cases this; rfl
 have e2:x.2=y.2:=by have:=(List.cons.inj (List.cons.inj hi').2).1; injection this
 subst e1
 exact Prod.ext (hb.inj hb') e2
theorem IsNest.keep {h h':Heap} {k:List Int × Int} {a d:Addr} {o:Obj} {es ep} (x:IsNest prog w h k a) (ho:h.get? d=some o) (hd:o.data=.dict es ep) (hs:Heap.SameBut d h h'):IsNest prog w h' k a:=by
 obtain ⟨o',items,n,b,tk,ho',hc,hd',hi,hb⟩:=x
 refine ⟨o',items,n,b,tk,(hs.2 a fun e=>?_).trans ho',hc,hd',hi,hb.keeps ho hd hs⟩
 rw [e,ho] at ho'
 cases ho'
 rw [hd] at hd'
 cases hd'
theorem oj {x y:List Int × Int} {a b:Addr} {P:PySem.Fin→Shared→Prop} (hu:A.units+2<cLine) (hx:IsNest prog w s.heap x a) (hy:IsNest prog w s.heap y b) (h:P (.done (.ret (.bool (decide (x=y))))) s):
  wpAny (model prog w) A (Builtin.«tuple.__eq__» ⟨[.ref a,.ref b],[]⟩) P E s:=by
 have hTb:=hy.ty
 obtain ⟨oa,xs,na,ca,ta,hoa,_,hda,hia,ka⟩:=hx
 obtain ⟨ob,ys,nb,cb,tb,hob,_,hdb,hib,kb⟩:=hy
 refine wpAny_bind (m:=isInstance (.ref b) (.type "tuple")) (wpAny_isInstance hTb isSubtype_tuple_tuple ?_)
 rw [if_neg (by decide)]
 refine wpAny_bind (wpAny_tupleItemsOf hoa hda (wpAny_bind (wpAny_tupleItemsOf hob hdb (wpAny_bind ?_))))
 rw [hia,hib]
 show wpAny _ _ (forIn [(Value.ref ca,Value.ref cb),(Value.int x.2 ta,Value.int y.2 tb)] _ _) _ _ _
 rw [List.forIn_cons]
 refine wpAny_bind (wpAny_bind (PySem.wpAny_eqBool_tuple (show A.units<cLine by omega) ka kb ?_))
 have szx:xs.size=2:=by rw [← Array.length_toList,hia]; rfl
 have szy:ys.size=2:=by rw [← Array.length_toList,hib]; rfl
 by_cases h1:x.1=y.1
 ·rw [decide_eq_true h1,if_neg (by decide)]
  refine wpAny_pure ?_
  dsimp only
  rw [List.forIn_cons]
  refine wpAny_bind (wpAny_bind ((intKind prog w).eqBool (a:=x.2) (b:=y.2) (by simp [intKind,Value.isInt]) (by simp [intKind,Value.isInt]) ?_))
  by_cases h2:x.2=y.2
  ·rw [decide_eq_true h2,if_neg (by decide)]
   refine wpAny_pure ?_
   dsimp only
   rw [List.forIn_nil]
   refine wpAny_pure ?_
   have e:decide (x=y)=true:=decide_eq_true (Prod.ext h1 h2)
   rw [e] at h
   dsimp only
   rw [szx,szy]
   exact wpAny_pure h
  ·have e:decide (x=y)=false:=decide_eq_false fun z=>h2 (by rw [z])
   rw [e] at h
   rw [decide_eq_false h2,if_pos (by decide)]
   exact wpAny_bind (wpAny_pure (wpAny_pure (wpAny_pure (wpAny_pure h))))
 ·have e:decide (x=y)=false:=decide_eq_false fun z=>h1 (by rw [z])
  rw [e] at h
  rw [decide_eq_false h1,if_pos (by decide)]
  exact wpAny_bind (wpAny_pure (wpAny_pure (wpAny_pure (wpAny_pure h))))
theorem YQ {x y:List Int × Int} {a b:Addr} {Q:Bool→Shared→Prop} (hu:A.units+4<cLine) (hx:IsNest prog w s.heap x a) (hy:IsNest prog w s.heap y b) (h:Q (decide (x=y)) s):
  wpAny (model prog w) A (eqBool (.ref a) (.ref b)) Q E s:=by
 unfold eqBool
 try with_reducible refine wpAny_holding ?_
 by_cases hab:(Value.ref a == Value.ref b)=true
 ·rw [if_pos hab]
  obtain rfl:a=b:=by have:=eq_of_beq hab; injection this
  rw [decide_eq_true (hx.one hy)] at h
  exact wpAny_bind (wpAny_rule (wpAny_pure h))
 ·rw [if_neg hab]
  exact wpAny_bind (wpAny_richCompare_same_room (op:=.Eq) hx.ty hy.ty PySem.F.slot_tuple_eq
   (wpAny_call_entry PySem.F.slot_tuple_eq hx.ty PySem.F.entry_tuple_eq (oj (show A.units+1+2<cLine by omega) hx hy ⟨_,rfl,(fun e=>nomatch e),wpAny_truthy_bool h⟩) (PySem.F.args_tuple_eq_2 _ _)) (show A.units<cLine by omega))
theorem lc {ks:List Int} {a:Addr} {n:Nat} {Q:Bool→Shared→Prop} (hk:IsTupleKey (intKind prog w) s.heap ks a) (h:Q true s):wpAny (model prog w) A (eqIsQuiet (n+1) (.ref a)) Q E s:=by
 have hT:=hk.typeIs
 obtain ⟨o,items,m,ho,_,hd,hi⟩:=hk
 unfold eqIsQuiet
 refine wpAny_bind (wpAny_specialOf hT PySem.F.slot_tuple_eq.lookup ?_)
 refine wpAny_bind (m:=isInstance (.ref a) (.type "tuple")) (wpAny_isInstance hT isSubtype_tuple_tuple ?_)
 rw [if_neg (by decide)]
 refine wpAny_bind (wpAny_seqItems ho hd (wpAny_bind ?_))
 show wpAny _ _ (forIn items _ _) _ _ s
 rw [← Array.forIn_toList]
 have key:∀ (l:List Value),(∀ v∈l,carriedByValue v=true)→wpAny (model prog w) A (forIn l (none,()) fun y (_:Option Bool × Unit)=>do
   if (!(← eqIsQuiet n y))=true then pure (ForInStep.done (some false,())) else pure (ForInStep.yield (none,()))) (fun r s'=>r=(none,())∧s'=s) E s:=fun l=>by
  induction l with
  | nil=>intro _; exact wpAny_pure ⟨rfl,rfl⟩
  | cons v l ih=>
   intro hall
   rw [List.forIn_cons,eqIsQuiet_byValue _ (hall v List.mem_cons_self)]
   exact ih fun u hu'=>hall u (List.mem_cons_of_mem _ hu')
 refine wpAny_mono (key _ hi.byValue) (fun r s' ⟨e1,e2⟩=>?_) fun _ _ z=>z
 subst e1
 subst e2
 exact wpAny_pure h
theorem mM {k:List Int × Int} {a:Addr} {Q:Bool→Shared→Prop} (hk:IsNest prog w s.heap k a) (h:Q true s):wpAny (model prog w) A (eqIsQuiet 8 (.ref a)) Q E s:=by
 have hT:=hk.ty
 obtain ⟨o,items,m,b,tk,ho,_,hd,hi,hb⟩:=hk
 unfold eqIsQuiet
 refine wpAny_bind (wpAny_specialOf hT PySem.F.slot_tuple_eq.lookup ?_)
 refine wpAny_bind (m:=isInstance (.ref a) (.type "tuple")) (wpAny_isInstance hT isSubtype_tuple_tuple ?_)
 rw [if_neg (by decide)]
 refine wpAny_bind (wpAny_seqItems ho hd (wpAny_bind ?_))
 show wpAny _ _ (forIn items _ _) _ _ s
 rw [← Array.forIn_toList,hi,List.forIn_cons]
 refine wpAny_bind (wpAny_bind (lc hb ?_))
 rw [if_neg (by decide)]
 refine wpAny_pure ?_
 dsimp only
 rw [List.forIn_cons]
 refine wpAny_bind (wpAny_bind (wpAny_pure ?_))
 rw [if_neg (by decide)]
 refine wpAny_pure ?_
 dsimp only
 rw [List.forIn_nil]
 exact wpAny_pure (wpAny_pure h)
end
def zL (prog:Program) (w:World):HeapKind prog w (List Int × Int) where
 is:=IsNest prog w
 hash:=rN prog w
 draws:=fun k=>k.1.length+3
 room:=fun A=>A.units+4<cLine
 inj:=fun hx hy=>hx.one hy
 keeps:=fun x ho hd hs=>x.keep ho hd hs
 pyHash:=fun hu hk h=>jI hu hk h
 eqBool:=fun hu hx hy h=>YQ hu hx hy h
 quiet:=fun hk h=>mM hk h
end L2
namespace L2
open PySem PySem.Spec PyProof.Rows
def yR (P:Program) (w:World) (a:Addr) (ks:List (Int × Value)):Heap→Prop:=fun h=>(a == sysModules)=false∧ks.length≤sizeLine∧h.DictOf (intKind P w) a ks
def zK {P:Program} {w:World} {K:Type} [DecidableEq K] (knd:HeapKind P w K) (a:Addr) (xs:List (K × Addr × Value)):Heap→Prop:=fun h=>(a == sysModules)=false∧xs.length≤sizeLine∧
 ∃ o es ep,h.get? a=some o∧o.ExactDict∧o.data=.dict es ep∧es.toList=xs.map (entryOfKey knd)∧(xs.map (·.1)).Nodup
theorem qg {P:Program} {w:World} {a:Addr} {ks:List (Int × Value)} {H:Hp} {h:Heap} (x:yR P w a ks h):ObjOk P w H h a (.ext (yR P w a ks)):=by
 refine ⟨x,?_,fun h1 h2 ⟨y1,y2,o,es,ep,z1,z2⟩ k=>⟨y1,y2,o,es,ep,k o z1,z2⟩⟩
 obtain ⟨_,_,o,_,_,e,_⟩:=x
 exact ⟨o,e⟩
theorem w8 {P:Program} {w:World} {K:Type} [DecidableEq K] {knd:HeapKind P w K} {a:Addr} {xs:List (K × Addr × Value)} {H:Hp} {h:Heap} (x:zK knd a xs h):ObjOk P w H h a (.ext (zK knd a xs)):=by
 refine ⟨x,?_,fun h1 h2 ⟨y1,y2,o,es,ep,z1,z2⟩ k=>⟨y1,y2,o,es,ep,k o z1,z2⟩⟩
 obtain ⟨_,_,o,_,_,e,_⟩:=x
 exact ⟨o,e⟩
def FK (H:Hp) (l:List Int) (b:Addr):Prop:=H b=some (.tup (l.map V.int))
def NK (H:Hp) (k:List Int × Int) (b:Addr):Prop:=∃ c,H b=some (.tup [.ref c,.int k.2])∧FK H k.1 c
section
variable {P:Program} {w:World} {H:Hp} {h:Heap}
theorem items_int:∀ {l:List Int} {its:List Value},Vals (l.map V.int) its→ItemsAre (intKind P w) l its
 | [],_,.nil=>.nil
 | n::l,_,.cons ⟨t,e⟩ r=>by
  subst e
  exact .cons (by simp [intKind,Value.isInt]) (items_int r)
theorem FK.is {l:List Int} {b:Addr} (ok:HOk P w H h) (x:FK H l b):(tupleKind (intKind P w)).is h l b:=by
 obtain ⟨_,its,r,o,h1,h2,n,h3⟩:=(show ObjOk P w H h b (.tup (l.map V.int)) from ok b _ x)
 exact ⟨o,its.toArray,n,h1,h2,h3,items_int r⟩
theorem NK.is {k:List Int × Int} {b:Addr} (ok:HOk P w H h) (x:NK H k b):(zL P w).is h k b:=by
 obtain ⟨c,hb,hc⟩:=x
 obtain ⟨_,its,r,o,h1,h2,n,h3⟩:=(show ObjOk P w H h b (.tup [.ref c,.int k.2]) from ok b _ hb)
 cases r with
 | cons r1 r=>
  cases r with
  | cons r2 r=>
   cases r
   obtain ⟨t,e2⟩:=r2
   obtain rfl:=r1
   subst e2
   exact ⟨o,_,n,c,t,h1,h2,h3,rfl,FK.is ok hc⟩
def DIn (P:Program) (w:World) (H:Hp) (a:Addr) (y:V) (r:Bool):Prop:=
 (∃ ks n,H a=some (.ext (yR P w a ks))∧y=.int n∧r=(valueAt ks n).isSome)∨
 (∃ xs b l,H a=some (.ext (zK (tupleKind (intKind P w)) a xs))∧y=.ref b∧FK H l b∧(∀ x∈xs,FK H x.1 x.2.1)∧r=(atKey xs l).isSome)∨
 ∃ xs b k,H a=some (.ext (zK (zL P w) a xs))∧y=.ref b∧NK H k b∧(∀ x∈xs,NK H x.1 x.2.1)∧r=(atKey xs k).isSome
def DGt (P:Program) (w:World) (H:Hp) (a:Addr) (y:V) (R:Value→Prop):Prop:=
 (∃ xs b l,H a=some (.ext (zK (tupleKind (intKind P w)) a xs))∧y=.ref b∧FK H l b∧(∀ x∈xs,FK H x.1 x.2.1)∧R (((atKey xs l).map (·.2)).getD .none))∨
 ∃ xs b k,H a=some (.ext (zK (zL P w) a xs))∧y=.ref b∧NK H k b∧(∀ x∈xs,NK H x.1 x.2.1)∧R (((atKey xs k).map (·.2)).getD .none)
def DPt (P:Program) (w:World) (H:Hp) (a:Addr) (y v:V) (R:HO→Prop):Prop:=
 (∃ ks n,H a=some (.ext (yR P w a ks))∧y=.int n∧valueAt ks n=none∧ks.length<sizeLine∧∀ r,RelV v r→R (.ext (yR P w a (ks++[(n,r)]))))∨
 (∃ xs b l,H a=some (.ext (zK (tupleKind (intKind P w)) a xs))∧y=.ref b∧FK H l b∧(∀ x∈xs,FK H x.1 x.2.1)∧atKey xs l=none∧xs.length<sizeLine∧∀ r,RelV v r→R (.ext (zK (tupleKind (intKind P w)) a (xs++[(l,b,r)]))))∨
 ∃ xs b k,H a=some (.ext (zK (zL P w) a xs))∧y=.ref b∧NK H k b∧(∀ x∈xs,NK H x.1 x.2.1)∧atKey xs k=none∧xs.length<sizeLine∧∀ r,RelV v r→R (.ext (zK (zL P w) a (xs++[(k,b,r)])))
end
section
variable {X:Cx} {pins:List (Addr × Obj)} {σ:St} {H:Hp} {s:Shared} {a:Addr} {y v:V} {u r:Value} {A:Around} {E:Value→Shared→Prop}
theorem yF {K:Type} [DecidableEq K] {knd:HeapKind X.prog X.w K} {xs:List (K × Addr × Value)} (I:Inv X pins σ H s) (e:H a=some (.ext (zK knd a xs))) (hk:∀ x∈xs,knd.is s.heap x.1 x.2.1):
  (a == sysModules)=false∧xs.length≤sizeLine∧s.heap.DictOfH knd a xs:=by
 obtain ⟨⟨z1,z2,o,es,ep,h1,h2,h3,h4,h5⟩,_,_⟩:=(show ObjOk X.prog X.w H s.heap a (.ext (zK knd a xs)) from I.hok a _ e)
 exact ⟨z1,z2,o,es,ep,h1,h2,h3,h4,hk,h5⟩
theorem qh {ks:List (Int × Value)} (I:Inv X pins σ H s) (e:H a=some (.ext (yR X.prog X.w a ks))):yR X.prog X.w a ks s.heap:=
 (show ObjOk X.prog X.w H s.heap a (.ext (yR X.prog X.w a ks)) from I.hok a _ e).1
theorem d7 {b:Bool} {Q:Value→Shared→Prop} (hu:A.units+9<cLine) (I:Inv X pins σ H s) (g:DIn X.prog X.w H a y b) (ry:RelV y u) (h:∀ s',Inv X pins σ H s'→Q (.bool (!b)) s'):
  wpAny (model X.prog X.w) A (compareOp .NotIn u (.ref a)) Q E s:=by
 rcases g with ⟨ks,n,e,ey,l⟩ | ⟨xs,c,k,e,ey,hk,hx,l⟩ | ⟨xs,c,k,e,ey,hk,hx,l⟩
 ·subst ey
  obtain ⟨t,e2⟩:=ry
  subst e2
  obtain ⟨z1,z2,dd⟩:=qh I e
  refine wpAny_notIn_of (knd:=intKind X.prog X.w) (k:=n) (by simp [intKind,Value.isInt]) z1 dd.mapOf ?_
  rw [← l]
  exact h _ (I.tok _)
 ·subst ey
  cases (show u=Value.ref c from ry)
  obtain ⟨z1,z2,dd⟩:=yF I e fun x q=>(hx x q).is I.hok
  refine PyProof.Rows.wpAny_notIn_heap (show A.units+1<cLine by omega) (hk.is I.hok) z1 dd ?_
  rw [← l]
  exact h _ (I.tok _)
 ·subst ey
  cases (show u=Value.ref c from ry)
  obtain ⟨z1,z2,dd⟩:=yF I e fun x q=>(hx x q).is I.hok
  refine PyProof.Rows.wpAny_notIn_heap (knd:=zL X.prog X.w) (show A.units+1+4<cLine by omega) (hk.is I.hok) z1 dd ?_
  rw [← l]
  exact h _ (I.tok _)
theorem TD {R:Value→Prop} {Q:Value→Shared→Prop} (hu:A.units+9<cLine) (I:Inv X pins σ H s) (g:DGt X.prog X.w H a y R) (ry:RelV y u) (h:∀ w s',Inv X pins σ H s'→R w→Q w s'):
  wpAny (model X.prog X.w) A (call (.builtin "dict.get") [.ref a,u]) Q E s:=by
 rcases g with ⟨xs,c,k,e,ey,hk,hx,l⟩ | ⟨xs,c,k,e,ey,hk,hx,l⟩
 ·subst ey
  cases (show u=Value.ref c from ry)
  obtain ⟨z1,z2,dd⟩:=yF I e fun x q=>(hx x q).is I.hok
  exact call_meetsIn PySem.F.slot_dict_get dd.typeIs PySem.F.entry_dict_get (PySem.F.args_dict_get_2 _ _) (meetsH_dict_get (tupleKind (intKind X.prog X.w)) a c z1) ⟨show A.units+1<cLine by omega,k,xs,hk.is I.hok,dd,h _ _ (I.tok _) l⟩
 ·subst ey
  cases (show u=Value.ref c from ry)
  obtain ⟨z1,z2,dd⟩:=yF I e fun x q=>(hx x q).is I.hok
  exact call_meetsIn PySem.F.slot_dict_get dd.typeIs PySem.F.entry_dict_get (PySem.F.args_dict_get_2 _ _) (meetsH_dict_get (zL X.prog X.w) a c z1) ⟨show A.units+1+4<cLine by omega,k,xs,hk.is I.hok,dd,h _ _ (I.tok _) l⟩
theorem TC {R:HO→Prop} {Q:Unit→Shared→Prop} (hu:A.units+9<cLine) (I:Inv X pins σ H s) (g:DPt X.prog X.w H a y v R) (ry:RelV y u) (rv:RelV v r) (h:∀ o s',R o→Inv X pins σ (upd H a o) s'→Q () s'):
  wpAny (model X.prog X.w) A (setItem (.ref a) u r) Q E s:=by
 rcases g with ⟨ks,n,e,ey,l,hl,hR⟩ | ⟨xs,c,k,e,ey,hk,hx,l,hl,hR⟩ | ⟨xs,c,k,e,ey,hk,hx,l,hl,hR⟩
 ·subst ey
  obtain ⟨t,e2⟩:=ry
  subst e2
  obtain ⟨z1,z2,dd⟩:=qh I e
  refine wpAny_setItem_pairs (knd:=intKind X.prog X.w) (k:=n) (hsz:=z2) (by simp [intKind,Value.isInt]) dd fun h' dd' hs=>h _ _ (hR r rv) ?_
  have es:stored ks n r=ks++[(n,r)]:=by
   unfold stored
   rw [if_neg]
   intro z
   obtain ⟨kv,h1,h2⟩:=List.any_eq_true.mp z
   unfold valueAt at l
   rw [Option.map_eq_none_iff,List.find?_eq_none] at l
   exact l kv h1 h2
  rw [es] at dd'
  have he:∃ q,h'.get? a=some q:=let ⟨q,_,_,hq,_⟩:=dd'; ⟨q,hq⟩
  exact I.write (x:=a) (e:=a) (by rw [e]; exact True.intro) (.inl rfl) (fun b q hb z=>(hs.2 b hb).trans z) he (qg ⟨z1,by rw [List.length_append]; show _+1≤_; omega,dd'⟩)
 ·subst ey
  cases (show u=Value.ref c from ry)
  obtain ⟨z1,z2,dd⟩:=yF I e fun x q=>(hx x q).is I.hok
  refine PySem.wpAny_setItem_heap (hsz:=z2) (show A.units+1<cLine by omega) (hk.is I.hok) dd fun h' dd' hs=>h _ _ (hR r rv) ?_
  rw [storedH_new l] at dd'
  obtain ⟨q,es,ep,hq,h2,h3,h4,_,h5⟩:=dd'
  exact I.write (x:=a) (e:=a) (by rw [e]; exact True.intro) (.inl rfl) (fun b q hb z=>(hs.2 b hb).trans z) ⟨q,hq⟩ (w8 ⟨z1,by rw [List.length_append]; show _+1≤_; omega,q,es,ep,hq,h2,h3,h4,h5⟩)
 ·subst ey
  cases (show u=Value.ref c from ry)
  obtain ⟨z1,z2,dd⟩:=yF I e fun x q=>(hx x q).is I.hok
  refine PySem.wpAny_setItem_heap (knd:=zL X.prog X.w) (hsz:=z2) (show A.units+1+4<cLine by omega) (hk.is I.hok) dd fun h' dd' hs=>h _ _ (hR r rv) ?_
  rw [storedH_new l] at dd'
  obtain ⟨q,es,ep,hq,h2,h3,h4,_,h5⟩:=dd'
  exact I.write (x:=a) (e:=a) (by rw [e]; exact True.intro) (.inl rfl) (fun b q hb z=>(hs.2 b hb).trans z) ⟨q,hq⟩ (w8 ⟨z1,by rw [List.length_append]; show _+1≤_; omega,q,es,ep,hq,h2,h3,h4,h5⟩)
end
end L2
namespace L2
open PySem PySem.Spec PyProof.Rows
def Qj (P:Program) (w:World) (ty td:TE):TE:=fun σ H Q=>ty σ H fun y H1=>td σ H1 fun x H2=>∃ a r,x=.ref a∧DIn P w H2 a y r∧Q (.bl (!r)) H2
def Qs (P:Program) (w:World) (td ty tv:TE):TS:=fun D σ H=>tv σ H fun v H1=>td σ H1 fun x H2=>ty σ H2 fun y H3=>∃ a,x=.ref a∧DPt P w H3 a y v fun o=>D.nx σ (upd H3 a o)
section
variable {X:Cx} {i o e value:Expr} {pos pos':Pos} {td ty tv:TE}
theorem WP (hu:X.A.units+9<cLine) (hi:PE X i ty) (ho:PE X o td):PC X .NotIn i o (Qj X.prog X.w ty td):=by
 intro pins s σ H Q I h
 refine thn (hi pins s σ H _ I h) fun iv s1 ⟨y,H1,I1,ry,q1⟩=>thn (ho pins s1 σ H1 _ I1 q1) fun u s2 ⟨x,H2,I2,rx,a,r,ex,g,q2⟩=>?_
 subst ex
 cases (show u=Value.ref a from rx)
 exact d7 hu I2 g ry fun s3 I3=>⟨.bl (!r),H2,I3,rfl,q2⟩
theorem WE (hu:X.A.units+9<cLine) (ho:PE X o td) (hi:PE X i ty) (hv:PE X value tv) (hs:swapsWith value (some (.Subscript o i pos')) pos.line X.env=pure false):
  PS X (.Assign [.Subscript o i pos'] value pos) (Qs X.prog X.w td ty tv):=by
 intro pins s σ H D I h
 refine wpAny_Assign_Subscript (thn (hv pins s σ H _ I h) fun r s1 ⟨v,H1,I1,rv,q1⟩=>thn (ho pins s1 σ H1 _ I1 q1) fun u s2 ⟨x,H2,I2,rx,q2⟩=>thn (hi pins s2 σ H2 _ I2 q2) fun iv s3 ⟨y,H3,I3,ry,a,ex,g⟩=>?_) hs
 subst ex
 cases (show u=Value.ref a from rx)
 exact TC hu I3 g ry rv fun o s4 hR I4=>⟨σ,_,I4,hR⟩
def Ql (P:Program) (w:World) (mk:Addr→HO):TE:=fun _ H Q=>∀ p,H p=none→Q (.ref p) (upd H p (mk p))
theorem iS {K:Type} [DecidableEq K] {knd:HeapKind X.prog X.w K}:PE X (.Dict [] [] pos) (Ql X.prog X.w fun p=>.ext (zK knd p [])):=fun pins s σ H Q I h=>by
 have hb:sysModules<s.heap.objs.size:=Nat.lt_trans (by decide) (I.mod.glob.keeps I.bk).lt
 refine wpAny_Dict_empty ⟨.ref s.heap.objs.size,_,I.laid (a:=s.heap.objs.size) (o:=.ext (zK knd s.heap.objs.size [])) (t':=s.toks) (fun _ _ q=>Heap.get?_push_of_some _ q) (Nat.le_refl _) (w8 ⟨beq_eq_false_iff_ne.mpr (Ne.symm (Nat.ne_of_lt hb)),Nat.zero_le _,?_⟩),rfl,h _ (I.hok.fresh (Nat.le_refl _))⟩
 exact ⟨_,#[],0,Heap.get?_push_size _ rfl,⟨rfl,rfl,rfl⟩,rfl,rfl,List.nodup_nil⟩
def Qk (P:Program) (w:World) (tk tv:TE):TE:=fun σ H Q=>∀ p,H p=none→
 (tk σ (upd H p (.ext (yR P w p []))) fun y H1=>tv σ H1 fun v H2=>∃ n,H2 p=some (.ext (yR P w p []))∧y=.int n∧∀ r,RelV v r→Q (.ref p) (upd H2 p (.ext (yR P w p [(n,r)]))))∨
 (tk σ (upd H p (.ext (zK (tupleKind (intKind P w)) p []))) fun y H1=>tv σ H1 fun v H2=>∃ b l,H2 p=some (.ext (zK (tupleKind (intKind P w)) p []))∧y=.ref b∧FK H2 l b∧∀ r,RelV v r→Q (.ref p) (upd H2 p (.ext (zK (tupleKind (intKind P w)) p [(l,b,r)]))))
theorem WL {k v:Expr} {tk tv:TE} (hu:X.A.units+9<cLine) (hk:PE X k tk) (hv:PE X v tv):PE X (.Dict [some k] [v] pos) (Qk X.prog X.w tk tv):=by
 intro pins s σ H Q I h
 have hb:sysModules<s.heap.objs.size:=Nat.lt_trans (by decide) (I.mod.glob.keeps I.bk).lt
 have hm:(s.heap.objs.size == sysModules)=false:=beq_eq_false_iff_ne.mpr (Ne.symm (Nat.ne_of_lt hb))
 rcases h _ (I.hok.fresh (Nat.le_refl s.heap.objs.size)) with h | h
 ·have I1:=I.laid (a:=s.heap.objs.size) (o:=.ext (yR X.prog X.w s.heap.objs.size [])) (h':=s.heap.push { cls:=.type "dict",data:=.dict #[] }) (t':=s.toks) (fun _ _ q=>Heap.get?_push_of_some _ q) (Nat.le_refl _) (qg ⟨hm,Nat.zero_le _,Heap.DictOf.new s.heap⟩)
  refine wpAny_Dict_any rfl rfl (fun z=>nomatch z) (by show 1≤15; decide) (pairTrees_cons_walk (thn (hk pins _ σ _ _ I1 h) fun ku s1 ⟨y,H1,J1,ry,q1⟩=>thn (hv pins s1 σ H1 _ J1 q1) fun vu s2 ⟨x,H2,J2,rx,n,e,ey,q2⟩=>pairTrees_nil_walk ?_))
  subst ey
  obtain ⟨t,e2⟩:=ry
  subst e2
  obtain ⟨z1,z2,dd⟩:=qh J2 e
  refine wpAny_bind (wpAny_bind (wpAny_dictSet_pairs (knd:=intKind X.prog X.w) (k:=n) (hsz:=z2) (by simp [intKind,Value.isInt]) dd fun h' dd' hs=>wpAny_pure (wpAny_pure ⟨.ref s.heap.objs.size,_,?_,rfl,q2 vu rx⟩)))
  have he:∃ q,h'.get? s.heap.objs.size=some q:=let ⟨q,_,_,hq,_⟩:=dd'; ⟨q,hq⟩
  exact J2.write (x:=s.heap.objs.size) (e:=s.heap.objs.size) (by rw [e]; exact True.intro) (.inl rfl) (fun b q hb z=>(hs.2 b hb).trans z) he (qg ⟨z1,by show 1≤sizeLine; decide,dd'⟩)
 ·have I1:=I.laid (a:=s.heap.objs.size) (o:=.ext (zK (tupleKind (intKind X.prog X.w)) s.heap.objs.size [])) (h':=s.heap.push { cls:=.type "dict",data:=.dict #[] }) (t':=s.toks) (fun _ _ q=>Heap.get?_push_of_some _ q) (Nat.le_refl _)
   (w8 ⟨hm,Nat.zero_le _,_,#[],0,Heap.get?_push_size _ rfl,⟨rfl,rfl,rfl⟩,rfl,rfl,List.nodup_nil⟩)
  refine wpAny_Dict_any rfl rfl (fun z=>nomatch z) (by show 1≤15; decide) (pairTrees_cons_walk (thn (hk pins _ σ _ _ I1 h) fun ku s1 ⟨y,H1,J1,ry,q1⟩=>thn (hv pins s1 σ H1 _ J1 q1) fun vu s2 ⟨x,H2,J2,rx,b,l,e,ey,hf,q2⟩=>pairTrees_nil_walk ?_))
  subst ey
  cases (show ku=Value.ref b from ry)
  obtain ⟨z1,z2,dd⟩:=yF J2 e (fun x q=>nomatch q)
  refine wpAny_bind (wpAny_bind (PySem.wpAny_dictSet_heap (hsz:=z2) (show X.A.units<cLine by omega) (hf.is J2.hok) dd fun h' dd' hs=>wpAny_pure (wpAny_pure ⟨.ref s.heap.objs.size,_,?_,rfl,q2 vu rx⟩)))
  obtain ⟨q,es,ep,hq,h2,h3,h4,_,h5⟩:=dd'
  exact J2.write (x:=s.heap.objs.size) (e:=s.heap.objs.size) (by rw [e]; exact True.intro) (.inl rfl) (fun b q hb z=>(hs.2 b hb).trans z) ⟨q,hq⟩ (w8 ⟨z1,by show 1≤sizeLine; decide,q,es,ep,hq,h2,h3,h4,h5⟩)
end
end L2
namespace OD
open PySem PySem.Spec PyProof.Rows L2
inductive KD where | ki (n:Int) | kp (l:List Int) | kn (l:List Int) (t:Int)
deriving DecidableEq
inductive KM where | mi | mp | mn
def KD.md:KD→KM
 | .ki _=>.mi | .kp _=>.mp | .kn _ _=>.mn
def KD.dt:KD→Dt
 | .ki n=>.int n | .kp l=>.tup (l.map Dt.int) | .kn l t=>.tup [.tup (l.map Dt.int),.int t]
abbrev DKV:=List (KD × Dt)
def zR (kvs:DKV) (k:KD):Option Dt:=(kvs.find? fun x=>decide (x.1=k)).map (·.2)
def VIs (K:PySem.W.Frag) (g:Hp) (e:Dt) (u:Value):Prop:=∃ v,RelV v u∧Is K g e v
section
variable {P:Program} {w:World} {K:PySem.W.Frag} {g g':Hp}
def dictIs (P:Program) (w:World) (K:PySem.W.Frag) (kvs:DKV) (g:Hp) (a:Addr) (o:HO):KM→Prop
 | .mi=>∃ ks,o=.ext (yR P w a ks)∧Paired (fun (x:KD × Dt) (q:Int × Value)=>x.1=.ki q.1∧VIs K g x.2 q.2) kvs ks
 | .mp=>∃ xs,o=.ext (zK (tupleKind (intKind P w)) a xs)∧Paired (fun (x:KD × Dt) (q:List Int × Addr × Value)=>x.1=.kp q.1∧FK g q.1 q.2.1∧VIs K g x.2 q.2.2) kvs xs
 | .mn=>∃ xs,o=.ext (zK (zL P w) a xs)∧Paired (fun (x:KD × Dt) (q:(List Int × Int) × Addr × Value)=>x.1=.kn q.1.1 q.1.2∧NK g q.1 q.2.1∧VIs K g x.2 q.2.2) kvs xs
theorem VIs.mono {e:Dt} {u:Value} (s:Same g g') (h:VIs K g e u):VIs K g' e u:=let ⟨v,h1,h2⟩:=h; ⟨v,h1,Is.mono0 s h2⟩
theorem FK.mono {l:List Int} {b:Addr} (s:Same g g') (h:FK g l b):FK g' l b:=s _ _ h
theorem NK.mono {k:List Int × Int} {b:Addr} (s:Same g g') (h:NK g k b):NK g' k b:=let ⟨c,h1,h2⟩:=h; ⟨c,s _ _ h1,FK.mono s h2⟩
theorem dictIs.mono {m:KM} {kvs:DKV} {a:Addr} {o:HO} (s:Same g g') (h:dictIs P w K kvs g a o m):dictIs P w K kvs g' a o m:=by
 cases m with
 | mi=>obtain ⟨ks,e,r⟩:=h; exact ⟨ks,e,Paired.mapP r fun x q z=>⟨z.1,z.2.mono s⟩⟩
 | mp=>obtain ⟨ks,e,r⟩:=h; exact ⟨ks,e,Paired.mapP r fun x q z=>⟨z.1,FK.mono s z.2.1,z.2.2.mono s⟩⟩
 | mn=>obtain ⟨ks,e,r⟩:=h; exact ⟨ks,e,Paired.mapP r fun x q z=>⟨z.1,NK.mono s z.2.1,z.2.2.mono s⟩⟩
def xz (P:Program) (w:World) (K:PySem.W.Frag) (m:KM) (kvs:DKV):ObP:=⟨fun g a o=>dictIs P w K kvs g a o m,fun s h=>dictIs.mono s h⟩
theorem uH {m:KM} {kvs:DKV} {a:Addr} {o:HO} (h:dictIs P w K kvs g a o m):∀ xs,o≠.lst xs:=by
 intro xs e
 cases m with
 | mi=>obtain ⟨ks,e',_⟩:=h; rw [e'] at e; cases e
 | mp=>obtain ⟨ks,e',_⟩:=h; rw [e'] at e; cases e
 | mn=>obtain ⟨ks,e',_⟩:=h; rw [e'] at e; cases e
theorem kj:∀ {l:List Int} {xs:List V},AllIs K g (l.map Dt.int) xs→xs=l.map V.int
 | [],_,h=>allIs_nil.mp h
 | n::l,_,h=>by
  obtain ⟨x,r,rfl,h1,h2⟩:=allIs_cons.mp h
  rw [is_int.mp h1,kj h2]; rfl
theorem dq {n:Int} {y:V} (h:Is K g (KD.dt (.ki n)) y):y=.int n:=is_int.mp h
theorem q9 {l:List Int} {y:V} (h:Is K g (KD.dt (.kp l)) y):∃ b,y=.ref b∧FK g l b:=by
 obtain ⟨a,xs,rfl,h1,h2⟩:=is_tup.mp h
 rw [kj h2] at h1
 exact ⟨a,rfl,h1⟩
theorem kg {l:List Int} {t:Int} {y:V} (h:Is K g (KD.dt (.kn l t)) y):∃ b,y=.ref b∧NK g (l,t) b:=by
 obtain ⟨a,xs,rfl,h1,h2⟩:=is_tup.mp h
 obtain ⟨x,r,rfl,h3,h4⟩:=allIs_cons.mp h2
 obtain ⟨x',r',rfl,h5,h6⟩:=allIs_cons.mp h4
 obtain ⟨c,e,hc⟩:=q9 (l:=l) h3
 rw [e,is_int.mp h5,allIs_nil.mp h6] at h1
 exact ⟨a,rfl,c,h1,hc⟩
theorem eZ {kvs:DKV} {ks:List (Int × Value)} (r:Paired (fun (x:KD × Dt) (q:Int × Value)=>x.1=.ki q.1∧VIs K g x.2 q.2) kvs ks) (n:Int):(valueAt ks n).isSome=(zR kvs (.ki n)).isSome:=by
 unfold valueAt zR
 rw [Option.isSome_map,Option.isSome_map]
 induction r with
 | nil=>rfl
 | @cons x q xs qs h t ih=>
  rw [List.find?_cons,List.find?_cons,h.1]
  by_cases e:q.1=n
  ·rw [decide_eq_true e,decide_eq_true (by rw [e])]; rfl
  ·rw [decide_eq_false e,decide_eq_false (fun z=>e (KD.ki.inj z))]; exact ih
def VOp (K:PySem.W.Frag) (g:Hp):Option Dt→Option (Addr × Value)→Prop
 | none,none=>True
 | some e,some (_,u)=>VIs K g e u
 | _,_=>False
theorem oq {kvs:DKV} {xs:List (List Int × Addr × Value)} (r:Paired (fun (x:KD × Dt) (q:List Int × Addr × Value)=>x.1=.kp q.1∧FK g q.1 q.2.1∧VIs K g x.2 q.2.2) kvs xs) (l:List Int):VOp K g (zR kvs (.kp l)) (atKey xs l):=by
 unfold atKey zR
 induction r with
 | nil=>trivial
 | @cons x q xs qs h t ih=>
  rw [List.find?_cons,List.find?_cons,h.1]
  by_cases e:q.1=l
  ·rw [decide_eq_true e,decide_eq_true (show KD.kp q.1=KD.kp l by rw [e])]; exact h.2.2
  ·rw [decide_eq_false e,decide_eq_false (show ¬ KD.kp q.1=KD.kp l from fun z=>e (KD.kp.inj z))]; exact ih
theorem ot {kvs:DKV} {xs:List ((List Int × Int) × Addr × Value)} (r:Paired (fun (x:KD × Dt) (q:(List Int × Int) × Addr × Value)=>x.1=.kn q.1.1 q.1.2∧NK g q.1 q.2.1∧VIs K g x.2 q.2.2) kvs xs) (l:List Int) (m:Int):VOp K g (zR kvs (.kn l m)) (atKey xs (l,m)):=by
 unfold atKey zR
 induction r with
 | nil=>trivial
 | @cons x q xs qs h t ih=>
  rw [List.find?_cons,List.find?_cons,h.1]
  by_cases e:q.1=(l,m)
  ·rw [decide_eq_true e,decide_eq_true (show KD.kn q.1.1 q.1.2=KD.kn l m by rw [e])]; exact h.2.2
  ·rw [decide_eq_false e,decide_eq_false (show ¬ KD.kn q.1.1 q.1.2=KD.kn l m from fun z=>e (Prod.ext (KD.kn.inj z).1 (KD.kn.inj z).2))]; exact ih
theorem VOp.some_ {a:Option Dt} {b:Option (Addr × Value)} (h:VOp K g a b):b.isSome=a.isSome:=by
 cases a <;> cases b <;> first | rfl | exact h.elim
theorem yf {α β:Type} {F:α→β→Prop} {xs:List α} {ys:List β} (r:Paired F xs ys):∀ y∈ys,∃ x,F x y:=by
 induction r with
 | nil=>intro y hy; exact nomatch hy
 | cons h t ih=>
  intro y hy
  rcases List.mem_cons.mp hy with rfl | hy
  ·exact ⟨_,h⟩
  ·exact ih y hy
theorem wO {α β:Type} {F:α→β→Prop} {xs:List α} {ys:List β} {x:α} {y:β} (r:Paired F xs ys) (h:F x y):Paired F (xs++[x]) (ys++[y]):=by
 induction r with
 | nil=>exact .cons h .nil
 | cons h' _ ih=>exact .cons h' ih
theorem vJ {α β:Type} {F:α→β→Prop} {xs:List α} {ys:List β} (r:Paired F xs ys):xs.length=ys.length:=by
 induction r with
 | nil=>rfl
 | cons _ _ ih=>rw [List.length_cons,List.length_cons,ih]
theorem Xn {W:Vw} {m:KM} {kvs:DKV} {a:Addr} {o:HO} {k:KD} {y:V} (h:dictIs P w K kvs W.g a o m) (ho:W.h a=some o) (hk:k.md=m) (hy:Is K W.g k.dt y):DIn P w W.h a y (zR kvs k).isSome:=by
 subst hk
 cases k with
 | ki n=>
  obtain ⟨ks,rfl,r⟩:=h
  exact .inl ⟨ks,n,ho,dq hy,(eZ r n).symm⟩
 | kp l=>
  obtain ⟨xs,rfl,r⟩:=h
  obtain ⟨b,rfl,hb⟩:=q9 hy
  exact .inr (.inl ⟨xs,b,l,ho,rfl,FK.mono W.sub hb,fun q hq=>let ⟨_,z⟩:=yf r q hq; FK.mono W.sub z.2.1,(oq r l).some_.symm⟩)
 | kn l t=>
  obtain ⟨xs,rfl,r⟩:=h
  obtain ⟨b,rfl,hb⟩:=kg hy
  exact .inr (.inr ⟨xs,b,(l,t),ho,rfl,NK.mono W.sub hb,fun q hq=>let ⟨_,z⟩:=yf r q hq; NK.mono W.sub z.2.1,(ot r l t).some_.symm⟩)
theorem dZ {W:Vw} {m:KM} {kvs:DKV} {a:Addr} {o:HO} {k:KD} {e:Dt} {y v:V} {R:HO→Prop} (h:dictIs P w K kvs W.g a o m) (ho:W.h a=some o) (hk:k.md=m) (hy:Is K W.g k.dt y) (hv:Is K W.g e v) (hn:zR kvs k=none) (hl:kvs.length<16777216)
  (hR:∀ o',dictIs P w K (kvs++[(k,e)]) W.g a o' m→R o'):DPt P w W.h a y v R:=by
 subst hk
 cases k with
 | ki n=>
  obtain ⟨ks,rfl,r⟩:=h
  refine .inl ⟨ks,n,ho,dq hy,?_,by rw [← vJ r,sizeLine_eq]; exact hl,fun u hu=>hR _ ⟨_,rfl,wO r ⟨rfl,v,hu,hv⟩⟩⟩
  have:=eZ r n
  rw [hn] at this
  exact Option.not_isSome_iff_eq_none.mp (by rw [this]; decide)
 | kp l=>
  obtain ⟨xs,rfl,r⟩:=h
  obtain ⟨b,rfl,hb⟩:=q9 hy
  have z:=(oq r l).some_
  rw [hn] at z
  exact .inr (.inl ⟨xs,b,l,ho,rfl,FK.mono W.sub hb,fun q hq=>let ⟨_,z⟩:=yf r q hq; FK.mono W.sub z.2.1,Option.not_isSome_iff_eq_none.mp (by rw [z]; decide),by rw [← vJ r,sizeLine_eq]; exact hl,fun u hu=>hR _ ⟨_,rfl,wO r ⟨rfl,hb,v,hu,hv⟩⟩⟩)
 | kn l t=>
  obtain ⟨xs,rfl,r⟩:=h
  obtain ⟨b,rfl,hb⟩:=kg hy
  have z:=(ot r l t).some_
  rw [hn] at z
  exact .inr (.inr ⟨xs,b,(l,t),ho,rfl,NK.mono W.sub hb,fun q hq=>let ⟨_,z⟩:=yf r q hq; NK.mono W.sub z.2.1,Option.not_isSome_iff_eq_none.mp (by rw [z]; decide),by rw [← vJ r,sizeLine_eq]; exact hl,fun u hu=>hR _ ⟨_,rfl,wO r ⟨rfl,hb,v,hu,hv⟩⟩⟩)
end
end OD
namespace OD
open PySem PySem.Spec PyProof.Rows L2
def l8 (ρ:DS):Bool:=ρ.all fun s=>match s with | .obj _=>false | _=>true
theorem nB {ρ:DS} {j:Nat} {ψ:ObP} (h:l8 ρ=true) (q:ρ[j]? = some (.obj ψ)):False:=by
 have:=List.all_eq_true.mp h _ (List.mem_of_getElem? q)
 cases this
section
variable {K:PySem.W.Frag} {Z F:Hp} {W W':Vw} {ρ:DS} {σ:L2.St}
theorem Rl.obj (r:Rl K Z F W ρ σ) (s:Le W W') {p:Addr} {o:HO} {φ:ObP} (i:Nat) (hone:l8 (ρ.set i .none)=true) (h0:W.h p=none) (h1:W'.h p=some o) (nl:∀ xs,o≠.lst xs) (h2:W'.g p=none) (h3:φ.is W'.g p o):
  Rl K Z F W' (ρ.set i (.obj φ)) (σ.set i (some (.ref p))):=by
 have u:=(r.unset i).mono s
 have hs:∀ j,j≠i→(σ.set i (some (V.ref p)))[j]? = (σ.set i none)[j]?:=fun j hj=>by rw [List.getElem?_set_ne (fun z=>hj z.symm),List.getElem?_set_ne (fun z=>hj z.symm)]
 have cl:∀ (j:Nat) (y:Sl),(ρ.set i (.obj φ))[j]? = some y→(∀ ψ,y≠Sl.obj ψ)→j≠i∧(ρ.set i Sl.none)[j]? = some y:=fun j y q hy=>by
  rcases zl q with ⟨_,_,e1⟩ | ⟨hij,q⟩
  ·exact absurd e1.symm (hy φ)
  ·exact ⟨fun z=>hij z.symm,by rw [List.getElem?_set_ne hij]; exact q⟩
 refine ⟨by rw [List.length_set,List.length_set]; exact r.len,fun j d q=>?_,fun j ds q=>?_,fun j k ds es hjk q1 q2=>?_,u.fr,r.z,fun j c ds q=>?_,fun j ψ q=>?_⟩
 ·obtain ⟨hj,q⟩:=cl j _ q (fun ψ z=>nomatch z)
  rw [hs j hj]; exact u.at_ j d q
 ·obtain ⟨hj,q⟩:=cl j _ q (fun ψ z=>nomatch z)
  rw [hs j hj]; exact u.ow j ds q
 ·obtain ⟨hj,q1⟩:=cl j _ q1 (fun ψ z=>nomatch z)
  obtain ⟨hk,q2⟩:=cl k _ q2 (fun ψ z=>nomatch z)
  rw [hs j hj,hs k hk]; exact u.ne j k ds es hjk q1 q2
 ·obtain ⟨hj,q⟩:=cl j _ q (fun ψ z=>nomatch z)
  obtain ⟨⟨xs,g1,g2⟩,k1,k2⟩:=u.ar j c ds q
  refine ⟨⟨xs,by rw [hs j hj]; exact g1,g2⟩,fun k es q'=>?_,fun k b es q'=>k2 k b es (cl k _ q' (fun ψ z=>nomatch z)).2⟩
  obtain ⟨hk,q'⟩:=cl k _ q' (fun ψ z=>nomatch z)
  rw [hs k hk]; exact k1 k es q'
 ·rcases zl q with ⟨rfl,hl,e1⟩ | ⟨hij,q⟩
  ·cases e1
   refine ⟨⟨p,o,by rw [List.getElem?_set_self (by rw [← r.len]; exact hl)],h1,nl,h2,r.fr.free h0,h3⟩,fun k ψ' q'=>?_⟩
   rcases zl q' with ⟨e,_,_⟩ | ⟨hik,q'⟩
   ·exact e.symm
   ·exact (nB hone (by rw [List.getElem?_set_ne hik]; exact q')).elim
  ·exact (nB hone (by rw [List.getElem?_set_ne hij]; exact q)).elim
theorem Rl.objPut (r:Rl K Z F W ρ σ) {i:Nat} {φ ψ:ObP} {a:Addr} {o o':HO} (hi:ρ[i]? = some (.obj φ)) (ha:σ[i]? = some (some (.ref a))) (ho:W.h a=some o) (nl:∀ xs,o≠.lst xs) (hg:W.g a=none) (hF:F a=none) (nl':∀ xs,o'≠.lst xs) (h3:ψ.is W.g a o'):
  Rl K Z F (W.mine a o' hg) (ρ.set i (.obj ψ)) σ:=by
 have ne:∀ b xs,W.h b=some (.lst xs)→b≠a:=fun b xs q e=>by rw [e,ho] at q; exact nl xs (Option.some.inj q)
 have cl:∀ (j:Nat) (y:Sl),(ρ.set i (.obj ψ))[j]? = some y→(∀ χ,y≠Sl.obj χ)→ρ[j]? = some y:=fun j y q hy=>by
  rcases zl q with ⟨_,_,e1⟩ | ⟨_,q⟩
  ·exact absurd e1.symm (hy ψ)
  ·exact q
 refine ⟨by rw [List.length_set]; exact r.len,fun j d q=>r.at_ j d (cl j _ q (fun ψ z=>nomatch z)),fun j ds q=>?_,fun j k ds es hjk q1 q2=>r.ne j k ds es hjk (cl j _ q1 (fun ψ z=>nomatch z)) (cl k _ q2 (fun ψ z=>nomatch z)),fun p u q=>?_,r.z,fun j c ds q=>?_,fun j χ q=>?_⟩
 ·obtain ⟨b,xs,e1,e2,e3⟩:=r.ow j ds (cl j _ q (fun ψ z=>nomatch z))
  exact ⟨b,xs,e1,(zo (ne b xs e2)).trans e2,e3⟩
 ·have e:p≠a:=fun e=>by rw [e,hF] at q; cases q
  exact (zo (H:=W.h) (o:=o') e).trans (r.fr p u q)
 ·obtain ⟨⟨xs,g1,g2,g3⟩,k1,k2⟩:=r.ar j c ds (cl j _ q (fun ψ z=>nomatch z))
  exact ⟨⟨xs,g1,(zo (ne c xs g2)).trans g2,g3⟩,fun k es q'=>k1 k es (cl k _ q' (fun ψ z=>nomatch z)),fun k b es q'=>k2 k b es (cl k _ q' (fun ψ z=>nomatch z))⟩
 ·have one:=(r.ob i φ hi).2
  rcases zl q with ⟨rfl,hl,e1⟩ | ⟨hij,q⟩
  ·cases e1
   refine ⟨⟨a,o',ha,zi,nl',hg,hF,h3⟩,fun k ψ' q'=>?_⟩
   rcases zl q' with ⟨e,_,_⟩ | ⟨_,q'⟩
   ·exact e.symm
   ·exact one k ψ' q'
  ·exact absurd (one j χ q).symm hij
end
section
variable {X:Cx} {fr:Fr} {e k:Expr} {te tk:DTE} {x:Str} {p0 p1 pos pos' dpos:Pos}
def TV (P:Program) (w:World) (K:PySem.W.Frag) (i:Nat) (tk:DTE):DTT:=fun ρ Q=>tk ρ fun d=>∃ m kvs k,ρ[i]? = some (.obj (xz P w K m kvs))∧d=KD.dt k∧k.md=m∧Q (!(zR kvs k).isSome)
theorem dS (i:Nat) (hu:X.A.units+9<cLine) (h:DE X k tk) (hN:X.N[i]? = some x:=by rfl) (hv:Vis X.env.scope x:=by first | exact Or.inl rfl | exact Or.inr (Or.inl rfl) | exact Or.inr (Or.inr rfl)) (hd:(x == ("__debug__":Str))=false:=by decide)
  (hcd:(x == ("__classdict__":Str))=false:=by decide) (hm:behindInMarks .NotIn (.Name x p0)=false:=by rfl):DT X (.Compare k [.NotIn] [.Name x p0] pos) (TV X.prog X.w X.K i tk):=by
 obtain ⟨tt,p,l⟩:=h
 refine ⟨_,iH (WP hu p (zQ hN hv hd hcd)) hm,fun ρ σ W Q r h R kk=>l ρ σ W _ r h _ fun d v W1 s1 i1 ⟨m,kvs,kd,ei,ed,em,q⟩=>?_⟩
 subst ed
 obtain ⟨⟨a,o,e1,e2,e3,e4,e5,e6⟩,_⟩:=(r.mono s1).ob i _ ei
 exact ⟨.ref a,e1,a,_,rfl,Xn e6 e2 em i1,_,rfl,kk _ W1 s1 q⟩
def RV (P:Program) (w:World) (K:PySem.W.Frag) (i:Nat) (tk te:DTE):DTS:=fun D ρ=>∃ m kvs,ρ[i]? = some (.obj (xz P w K m kvs))∧te ρ fun d=>tk ρ fun z=>∃ k,z=KD.dt k∧k.md=m∧zR kvs k=none∧kvs.length<16777216∧
 D.nx (ρ.set i (.obj (xz P w K m (kvs++[(k,d)]))))
theorem oH (i:Nat) (hu:X.A.units+9<cLine) (hk:DE X k tk) (h:DE X e te) (hN:X.N[i]? = some x:=by rfl) (hv:Vis X.env.scope x:=by first | exact Or.inl rfl | exact Or.inr (Or.inl rfl) | exact Or.inr (Or.inr rfl)) (hd:(x == ("__debug__":Str))=false:=by decide)
  (hcd:(x == ("__classdict__":Str))=false:=by decide) (hs:swapsWith e (some (.Subscript (.Name x p0) k p1)) pos.line X.env=pure false:=by rfl):DSt X fr (.Assign [.Subscript (.Name x p0) k p1] e pos) (RV X.prog X.w X.K i tk te):=by
 obtain ⟨tt,p,l⟩:=h
 obtain ⟨tu,pk,lk⟩:=hk
 refine ⟨_,WE hu (zQ hN hv hd hcd) pk p hs,fun W0 G ρ σ W D D' at_ s h=>?_⟩
 obtain ⟨m,kvs,ei,h⟩:=h
 refine l ρ σ W _ at_.rl h _ fun d v W1 s1 i1 q1=>?_
 have a1:=at_.step s1
 obtain ⟨⟨a,o,e1,e2,e3,e4,e5,e6⟩,_⟩:=a1.rl.ob i _ ei
 refine ⟨.ref a,e1,lk ρ σ W1 _ a1.rl q1 _ fun z u W2 s2 i2 ⟨kd,ez,em,hn,hl,q2⟩=>?_⟩
 subst ez
 have a2:=a1.step s2
 have hg2:W2.g a=none:=s2.n a (by rw [e2]; intro z; cases z) e4
 refine ⟨a,rfl,dZ (dictIs.mono s2.g e6) (s2.h _ _ e2) em i2 (i1.mono s2) hn hl fun o' ho'=>?_⟩
 have b:=a2.le
 refine s.nx _ _ (W2.mine a o' hg2) ⟨⟨b.g,fun c o q=>?_,b.n⟩,a2.gs,a2.rl.objPut ei e1 (s2.h _ _ e2) e3 hg2 e5 (uH ho') ho'⟩ q2
 have:c≠a:=fun z=>by rw [z,e5] at q; cases q
 show upd W2.h a o' c=some o
 rw [zo this]; exact b.h _ _ q
theorem oy {W W2:Vw} {p:Addr} {o o':HO} (h0:W.h p=none) (s:Le (W.mine p o (W.sub.free h0)) W2) (hg:W2.g p=none):Le W (W2.mine p o' hg):=by
 have s0:=(yc h0 o).trans s
 refine ⟨s0.g,fun b u q=>?_,s0.n⟩
 have:b≠p:=fun z=>by rw [z,h0] at q; cases q
 show upd W2.h p o' b=some u
 rw [zo this]; exact s0.h _ _ q
def Q9 (P:Program) (w:World) (K:PySem.W.Frag) (i:Nat) (tk te:DTE):DTS:=fun D ρ=>l8 (ρ.set i .none)=true∧∃ b:Bool,tk ρ fun z=>te ρ fun d=>∃ k,z=KD.dt k∧k.md=(if b=true then .mi else .mp)∧D.nx (ρ.set i (.obj (xz P w K (if b=true then .mi else .mp) [(k,d)])))
theorem Tx {i:Nat} (hu:X.A.units+9<cLine) (hN:X.N.Nodup) (hi:X.N[i]? = some x) (hx:Loc X.env.scope x) (hk:DE X k tk) (h:DE X e te) (hs:swapsWith (.Dict [some k] [e] dpos) (some (.Name x pos')) pos.line X.env=pure false:=by rfl)
  (hf:X.fn x=true∨X.env.scope.names.lookup x=some .local:=by first | exact .inl rfl | exact .inr rfl | assumption):DSt X fr (.Assign [.Name x pos'] (.Dict [some k] [e] dpos) pos) (Q9 X.prog X.w X.K i tk te):=by
 obtain ⟨tt,p,l⟩:=h
 obtain ⟨tu,pk,lk⟩:=hk
 refine ⟨_,pW hN hi hx (WL hu pk p) hs hf,fun W0 G ρ σ W D D' at_ s ⟨h1,b,h⟩ q hq=>?_⟩
 have g0:=W.sub.free hq
 cases b with
 | true=>
  refine .inl (lk ρ σ (W.mine q (.ext (yR X.prog X.w q [])) g0) _ (at_.rl.mono (yc hq _)) h _ fun z y W1 s1 i1 q1=>l ρ σ W1 _ ((at_.rl.mono (yc hq _)).mono s1) q1 _ fun d v W2 s2 i2 ⟨kd,ez,em,q2⟩=>?_)
  subst ez
  cases kd with
  | ki n=>
   have s3:=s1.trans s2
   have hp:W2.h q=some (.ext (yR X.prog X.w q [])):=s3.h _ _ zi
   have hg:W2.g q=none:=s3.n q (by show upd _ _ _ q≠none; rw [zi]; intro z; cases z) g0
   refine ⟨n,hp,dq i1,fun r hr=>?_⟩
   have le:=oy (o':=.ext (yR X.prog X.w q [(n,r)])) hq s3 hg
   have hd:dictIs X.prog X.w X.K [(KD.ki n,d)] W2.g q (.ext (yR X.prog X.w q [(n,r)])) .mi:=⟨_,rfl,.cons ⟨rfl,v,hr,i2⟩ .nil⟩
   exact s.nx _ _ (W2.mine q _ hg) ⟨at_.le.trans le,at_.gs.trans le.g,at_.rl.obj le i h1 hq zi (uH hd) hg hd⟩ q2
  | kp _=>cases em
  | kn _ _=>cases em
 | false=>
  refine .inr (lk ρ σ (W.mine q (.ext (zK (tupleKind (intKind X.prog X.w)) q [])) g0) _ (at_.rl.mono (yc hq _)) h _ fun z y W1 s1 i1 q1=>l ρ σ W1 _ ((at_.rl.mono (yc hq _)).mono s1) q1 _ fun d v W2 s2 i2 ⟨kd,ez,em,q2⟩=>?_)
  subst ez
  cases kd with
  | kp n=>
   have s3:=s1.trans s2
   have hp:W2.h q=some (.ext (zK (tupleKind (intKind X.prog X.w)) q [])):=s3.h _ _ zi
   have hg:W2.g q=none:=s3.n q (by show upd _ _ _ q≠none; rw [zi]; intro z; cases z) g0
   obtain ⟨b,ey,hb⟩:=q9 (i1.mono s2)
   refine ⟨b,n,hp,ey,FK.mono W2.sub hb,fun r hr=>?_⟩
   have le:=oy (o':=.ext (zK (tupleKind (intKind X.prog X.w)) q [(n,b,r)])) hq s3 hg
   have hd:dictIs X.prog X.w X.K [(KD.kp n,d)] W2.g q (.ext (zK (tupleKind (intKind X.prog X.w)) q [(n,b,r)])) .mp:=⟨_,rfl,.cons ⟨rfl,hb,v,hr,i2⟩ .nil⟩
   exact s.nx _ _ (W2.mine q _ hg) ⟨at_.le.trans le,at_.gs.trans le.g,at_.rl.obj le i h1 hq zi (uH hd) hg hd⟩ q2
  | ki _=>cases em
  | kn _ _=>cases em
end
end OD
namespace OD
open PySem PySem.Spec PyProof.Rows L2
def bf (p:Addr):DtP:=⟨fun _ v=>v=.ref p,fun _ h=>h,fun h=>⟨p,h⟩⟩
def jV (φ:ObP):DtP:=⟨fun g v=>∃ a o,v=.ref a∧g a=some o∧φ.is g a o,fun s ⟨a,o,h1,h2,h3⟩=>⟨a,o,h1,s a o h2,φ.mono (fun a o q=>s a o q) h3⟩,fun ⟨a,_,h,_⟩=>⟨a,h⟩⟩
def rH (K:PySem.W.Frag) (C:Addr) (f1 f2 f3:Str) (d1 d2 d3:Dt):DtP:=
 ⟨fun g v=>∃ a dx x1 x2 x3,v=.ref a∧g a=some (.ins C dx [(f1,x1),(f2,x2),(f3,x3)])∧Is K g d1 x1∧Is K g d2 x2∧Is K g d3 x3,
  fun s ⟨a,dx,x1,x2,x3,h1,h2,h3,h4,h5⟩=>⟨a,dx,x1,x2,x3,h1,s a _ h2,Is.mono0 (fun a o q=>s a o q) h3,Is.mono0 (fun a o q=>s a o q) h4,Is.mono0 (fun a o q=>s a o q) h5⟩,fun ⟨a,_,_,_,_,h,_⟩=>⟨a,h⟩⟩
def iz (K:PySem.W.Frag) (C:Addr) (f1 f2 f3:Str) (S:zV):Sp:=fun vs H Q E=>∃ (W:Vw) (p dx:Addr) (ds:List Dt) (Qd:Dt→Prop) (Ed:Addr→Prop) (vs':List V),vs=.ref p::vs'∧W.h=H∧W.g p=none∧H p=some (.ins C dx [])∧AllIs K W.g ds vs'∧S ds Qd Ed∧
 (∀ (d1 d2 d3:Dt) (x1 x2 x3:V) (W':Vw),Same W.g W'.g→(∀ b o,W.h b=some o→b≠p→W'.h b=some o)→(∀ a,W.h a≠none→W.g a=none→W'.g a=none)→W'.h p=some (.ins C dx [(f1,x1),(f2,x2),(f3,x3)])→Is K W'.g d1 x1→Is K W'.g d2 x2→Is K W'.g d3 x3→Qd (.tup [d1,d2,d3])→Q .non W'.h)∧
 ∀ D H',Same W.h H'→Ed D→E (.ref D) none H'
structure XH (P:Program) (w:World) (K:PySem.W.Frag) (mg:Str→Option Value) (base:Heap) (n:Nat) (x:Str) (C:Addr) (f1 f2 f3:Str) (S:zV):Prop where
 ex:∃ g fd ps,mg x=some (.ref C)∧Mk K C g∧Binds K fd ps []∧FnOk P w K mg base (CX1 P w) n g fd ps (iz K C f1 f2 f3 S)
section
variable {X:Cx} {e:Expr} {es:List Expr} {t:DTA} {n:Nat} {x:Str} {p pos:Pos}
def TZ (X:Cx) (C:Addr) (f1 f2 f3:Str) (S:zV) (t:DTA):DTE:=fun ρ Q=>t ρ fun ds=>S ds (fun d=>∃ d1 d2 d3,d=.tup [d1,d2,d3]∧Q (.opq (rH X.K C f1 f2 f3 d1 d2 d3))) (Rz X)
theorem nX {C:Addr} {f1 f2 f3:Str} {S:zV} (G:XH X.prog X.w X.K X.mg X.base n x C f1 f2 f3 S) (hr:Room (n+1) X.A) (hg:Gl X x) (ha:DA X (e::es) t) (hdb:(x == ("__debug__":Str))=false:=by decide)
  (he:starEach (e::es) X.env=(false,eval e X.env)::starEach es X.env:=by rfl) (hpl:(backTo pos (starEach es X.env)).any (·.1)=false:=by rfl):DE X (.Call (.Name x p) (e::es) [] pos) (TZ X C f1 f2 f3 S t):=by
 obtain ⟨g,fd,ps,hm,M,hb,F⟩:=G.ex
 obtain ⟨te,p1,l1⟩:=ha
 refine ⟨_,lZ M F hr hg hm hb .nil pass_can p1 hdb he hpl,fun ρ σ H Q r h R k=>l1 ρ σ H _ r h _ fun ds vs H1 s1 i1 hS y dy ny ndy ne=>?_⟩
 rw [List.append_nil]
 have gy:H1.g y=none:=H1.sub.free ny
 have keep0:Same H1.h (upd (upd H1.h dy (.own y)) y (.ins C dy [])):=fun b o hb=>by rw [zo (zD hb ny),zo (zD hb ndy)]; exact hb
 refine ⟨⟨H1.g,upd (upd H1.h dy (.own y)) y (.ins C dy []),H1.sub.trans keep0⟩,y,dy,ds,_,_,vs,rfl,rfl,gy,zi,i1,hS,fun d1 d2 d3 x1 x2 x3 W' sg sh sn hp j1 j2 j3 ⟨d1',d2',d3',ed,q⟩=>⟨rfl,?_⟩,fun D H' s' hD=>⟨D,rfl,(hD H' ?_).2⟩⟩
 ·cases ed
  have gy':W'.g y=none:=sn y (by show upd _ _ _ y≠none; rw [zi]; intro z; cases z) gy
  have keep:Same H1.h W'.h:=fun b o hb=>sh b o (keep0 b o hb) (zD hb ny)
  have sgy:Same W'.g (upd W'.g y (.ins C dy [(f1,x1),(f2,x2),(f3,x3)])):=zC gy' _
  refine k (.opq (rH X.K C f1 f2 f3 d1 d2 d3)) (.ref y) (W'.frz y _ hp) (s1.trans ⟨sg.trans sgy,keep,fun a z1 z2=>?_⟩) (is_opq.mpr ⟨y,dy,x1,x2,x3,rfl,zi,Is.mono0 sgy j1,Is.mono0 sgy j2,Is.mono0 sgy j3⟩) q
  have hay:a≠y:=fun e=>z1 (e ▸ ny)
  show upd W'.g y _ a=none
  rw [zo hay]
  exact sn a (fun z=>z1 (keep0.free z)) z2
 ·exact ((qV r).trans s1.h).trans fun b o hb=>s' b o (keep0 b o hb)
def RT (K:PySem.W.Frag) (C:Addr) (f1 f2 f3:Str) (j:Nat) (f:Str) (ta:DTE):DTE:=fun ρ Q=>ta ρ fun d=>∃ d1 d2 d3,d=.opq (rH K C f1 f2 f3 d1 d2 d3)∧Cls K C∧NoAttr K C f∧∃ e,[d1,d2,d3][j]? = some e∧[f1,f2,f3][j]? = some f∧f1≠f2∧f1≠f3∧f2≠f3∧Q e
end
section
variable {X:Cx} {o:Expr} {ta:DTE} {f f1 f2 f3:Str} {pos:Pos} {C:Addr} {j:Nat}
theorem oI (ha:DE X o ta) (hbase:attributeBase o f X.env (eval o X.env)=eval o X.env:=by rfl):DE X (.Attribute o f pos) (RT X.K C f1 f2 f3 j f ta):=by
 obtain ⟨tt,p,l⟩:=ha
 refine ⟨_,iR p hbase,fun ρ σ W Q r h R k=>l ρ σ W _ r h _ fun d v W1 s1 i1 ⟨d1,d2,d3,ed,hc,hn,e,he,hf,n1,n2,n3,q⟩=>?_⟩
 subst ed
 obtain ⟨a,dx,x1,x2,x3,rfl,h1,h2,h3,h4⟩:=is_opq.mp i1
 have h1':=W1.sub _ _ h1
 match j,he,hf with
 | 0,he,hf=>
  cases he
  cases hf
  exact ⟨a,C,dx,_,x1,rfl,h1',hc,hn,by rw [List.lookup_cons_self],k _ _ W1 s1 h2 q⟩
 | 1,he,hf=>
  cases he
  cases hf
  exact ⟨a,C,dx,_,x2,rfl,h1',hc,hn,by simp [List.lookup,beq_eq_false_iff_ne.mpr (Ne.symm n1)],k _ _ W1 s1 h3 q⟩
 | 2,he,hf=>
  cases he
  cases hf
  exact ⟨a,C,dx,_,x3,rfl,h1',hc,hn,by simp [List.lookup,beq_eq_false_iff_ne.mpr (Ne.symm n2),beq_eq_false_iff_ne.mpr (Ne.symm n3)],k _ _ W1 s1 h4 q⟩
end
section
variable {P:Program} {w:World} {K:PySem.W.Frag} {mg:Str→Option Value} {base:Heap}
theorem bc {W:Vw} {N:List Str} {p:Addr} {ds:List Dt} {vs:List V} (ia:AllIs K W.g ds vs):Rl K W.h W.h W (z5 N.length (.opq (bf p)::ds)) (L2.start N (.ref p::vs)):=
 Rl.start (allIs_cons.mpr ⟨_,_,rfl,is_opq.mpr rfl,ia⟩) (Same.refl _)
theorem cT {W:Vw} {d1 d2:Dt} {v:V} (h:Is K W.g (.tup [d1,d2]) v):∃ t x1 x2,v=.ref t∧W.g t=some (.tup [x1,x2])∧Is K W.g d1 x1∧Is K W.g d2 x2:=by
 obtain ⟨t,xs,rfl,h1,h2⟩:=is_tup.mp h
 obtain ⟨x1,x2,rfl,j1,j2⟩:=h2.two
 exact ⟨t,x1,x2,rfl,h1,j1,j2⟩
theorem Rj {qual lf n1 n2 n3 m f1 f2 f3:Str} {st s1 s2 s3:Stmt} {g C:Addr} {fd:FuncData} {k nl:Nat} {S:zV} {Sl:DSp} {q1 q2 q3 q4 q5 q6 r1 r2 r3 r4 r5 r6 u1 u2 u3 u4 u5 u6 u7 u8:Pos} {j0 j1 j2:Nat} (F:Fun K "__init__" qual st g fd) (sc:zh ["self",n1,n2,n3,m] ["self",n1,n2,n3] (defScope st)) (cl:Cls K C) (a1:NoAttr K C f1) (a2:NoAttr K C f2) (a3:NoAttr K C f3)
  (h12:f1≠f2) (h13:f1≠f3) (h23:f2≠f3)
  (len:∀ ds Q R,S ds Q R→ds.length=3) (G:DOk P w K mg base nl lf Sl) (hnl:nl≤k) (v0:Vis (defScope st) "self") (vm:Vis (defScope st) m) (hm1:(m == ("__debug__":Str))=false) (hm2:(m == ("__classdict__":Str))=false) (hlf:(lf == ("__debug__":Str))=false)
  (hgl:∀ (cdv:Value) (A:Around) (outer:List Env) (s:Shared) (H:Hp) (E:XK),Gl (yo (CX1 P w) P w K mg base ["self",n1,n2,n3,m] qual (defScope st) g cdv A outer s H E) lf)
  (hst:defBody st=[s1,s2,s3,.Assign [.Attribute (.Name "self" q1) f1 q2] (.Subscript (.Name m q3) (.Constant (.int 0) j0 q4) q5) q6,.Assign [.Attribute (.Name "self" r1) f2 r2] (.Subscript (.Name m r3) (.Constant (.int 1) j1 r4) r5) r6,
   .Assign [.Attribute (.Name "self" u1) f3 u2] (.Call (.Name lf u3) [.Subscript (.Name m u4) (.Constant (.int 1) j2 u5) u6] [] u7) u8])
  (hbody:∀ (cdv:Value) (A:Around) (outer:List Env) (s:Shared) (H:Hp) (E:XK),Room k (A.deeper (envOfC qual (defScope st) s.heap.objs.size g cdv))→∀ (p:Addr) (ds:List Dt) (Q:Dt→Prop) (R:Addr→Prop),S ds Q R→
   (∀ D,R D→Rz (yo (CX1 P w) P w K mg base ["self",n1,n2,n3,m] qual (defScope st) g cdv A outer s H E) D)→
   ∃ t1 t2 t3,DSt (yo (CX1 P w) P w K mg base ["self",n1,n2,n3,m] qual (defScope st) g cdv A outer s H E) .d s1 t1∧DSt (yo (CX1 P w) P w K mg base ["self",n1,n2,n3,m] qual (defScope st) g cdv A outer s H E) .d s2 t2∧DSt (yo (CX1 P w) P w K mg base ["self",n1,n2,n3,m] qual (defScope st) g cdv A outer s H E) .d s3 t3∧
    Xy t1 (Xy t2 t3) { nx:=fun ρ=>∃ d1 d2,ρ[0]? = some (.some (.opq (bf p)))∧ρ[4]? = some (.some (.tup [d1,d2]))∧Sl [d2] fun d3=>Q (.tup [d1,d2,d3]),rt:=fun _=>False } (z5 5 (.opq (bf p)::ds))):
  FnOk P w K mg base (CX1 P w) (k+1) g fd ["self",n1,n2,n3] (iz K C f1 f2 f3 S):=by
 refine Fun.okX F sc (fun vs H Q E h=>?_) (fun cdv A outer s H vs Q E hr h=>?_)
 ·obtain ⟨W,p,dx,ds,Qd,Ed,vs',rfl,_,_,_,ia,hS,_⟩:=h
  rw [List.length_cons,← ia.length,len ds Qd Ed hS]; rfl
 obtain ⟨W,p,dx,ds,Qd,Ed,vs',rfl,rfl,hg,hp,ia,hS,kk,ke⟩:=h
 obtain ⟨t1,t2,t3,⟨v1,p1,l1⟩,⟨v2,p2,l2⟩,⟨v3,p3,l3⟩,ht⟩:=hbody cdv A outer s W.h E hr p ds Qd Ed hS fun D hD=>lV fun H' z=>ke D H' z hD
 rw [n9] at l1 l2 l3
 rw [hst]
 obtain ⟨fl,fdl,pl,hml,hkl,hbl,Fl⟩:=G.ex
 refine ⟨_,xp p1 (xp p2 (xp p3 (xp (vI (zQ (i:=0) rfl v0) (tU ix_tup (zQ (i:=4) rfl vm hm1 hm2) rA (fun _ _=>rfl)) rfl)
  (xp (vI (zQ (i:=0) rfl v0) (tU ix_tup (zQ (i:=4) rfl vm hm1 hm2) rA (fun _ _=>rfl)) rfl)
   (vg (vI (zQ (i:=0) rfl v0) (vh Fl (hr.mono hnl) (hgl cdv A outer s W.h E) hml hkl hbl .nil qZ (zH (tU ix_tup (zQ (i:=4) rfl vm hm1 hm2) rA (fun _ _=>rfl)) ym rfl) hlf rfl rfl) rfl)))))),?_⟩
 refine l1 W W.g _ _ W { nx:=Xy t2 t3 _,rt:=fun _=>False } _ ⟨Le.refl W,Same.refl _,bc (N:=["self",n1,n2,n3,m]) ia⟩ ⟨fun ρ σ W1 at1 q=>?_,fun _ _ _ _ _ z=>z.elim,fun _ _ _ _ z=>z.elim,fun _ _ _ _ z=>z.elim⟩ ht
 refine l2 W W.g ρ σ W1 { nx:=t3 _,rt:=fun _=>False } _ at1 ⟨fun ρ σ W2 at2 q=>?_,fun _ _ _ _ _ z=>z.elim,fun _ _ _ _ z=>z.elim,fun _ _ _ _ z=>z.elim⟩ q
 refine l3 W W.g ρ σ W2 { nx:=fun ρ=>∃ d1 d2,ρ[0]? = some (.some (.opq (bf p)))∧ρ[4]? = some (.some (.tup [d1,d2]))∧Sl [d2] fun d3=>Qd (.tup [d1,d2,d3]),rt:=fun _=>False } _ at2 ⟨fun ρ σ W3 at3 q=>?_,fun _ _ _ _ _ z=>z.elim,fun _ _ _ _ z=>z.elim,fun _ _ _ _ z=>z.elim⟩ q
 obtain ⟨d1,d2,e0,e4,hS2⟩:=q
 obtain ⟨v,e0',iv⟩:=at3.rl.at_ 0 _ e0
 obtain rfl:v=.ref p:=is_opq.mp iv
 obtain ⟨v4,e4',i4⟩:=at3.rl.at_ 4 _ e4
 obtain ⟨t,x1,x2,rfl,hT,j1,j2⟩:=cT i4
 have hp3:W3.h p=some (.ins C dx []):=at3.le.h _ _ hp
 have hg3:W3.g p=none:=at3.le.n p (by rw [hp]; intro z; cases z) hg
 have hT3:W3.h t=some (.tup [x1,x2]):=W3.sub _ _ hT
 have ntp:t≠p:=fun z=>by rw [z,hp3] at hT3; cases hT3
 have pf:xW f2 x2 (xW f1 x1 [])=[(f1,x1),(f2,x2)]:=by show (if f1=f2 then _ else _)=_; rw [if_neg h12]; rfl
 have pf3:∀ x3,xW f3 x3 [(f1,x1),(f2,x2)]=[(f1,x1),(f2,x2),(f3,x3)]:=fun x3=>by show (if f1=f3 then _ else _::(if f2=f3 then _ else _))=_; rw [if_neg h13,if_neg h23]; rfl
 refine ⟨.ref t,e4',t,[x1,x2],0,x1,rfl,rfl,.of hT3,rfl,.ref p,e0',p,C,dx,[],rfl,hp3,cl,a1,(by show 0<1000; decide),?_⟩
 refine ⟨.ref t,e4',t,[x1,x2],1,x2,rfl,rfl,.of ((zo ntp).trans hT3),rfl,.ref p,e0',p,C,dx,_,rfl,zi,cl,a2,(by show 1<1000; decide),?_⟩
 rw [pf]
 let W5:Vw:=(W3.mine p (.ins C dx (xW f1 x1 [])) hg3).mine p (.ins C dx [(f1,x1),(f2,x2)]) hg3
 refine ⟨.ref t,e4',t,[x1,x2],1,x2,rfl,rfl,.of ((zo ntp).trans ((zo ntp).trans hT3)),rfl,W5,[d2],_,rfl,allIs_cons.mpr ⟨x2,[],rfl,j2,allIs_nil.mpr rfl⟩,hS2,fun d3 v3 W6 s6 i6 q6=>?_⟩
 have hp6:W6.h p=some (.ins C dx [(f1,x1),(f2,x2)]):=s6.h _ _ zi
 have hg6:W6.g p=none:=s6.n p (by show upd _ _ _ p≠none; rw [zi]; intro z; cases z) hg3
 refine ⟨.ref p,e0',p,C,dx,_,rfl,hp6,cl,a3,(by show 2<1000; decide),?_⟩
 rw [pf3]
 refine kk d1 d2 d3 x1 x2 v3 (W6.mine p _ hg6) (at3.le.g.trans s6.g) (fun b o hb hne=>?_) (fun a z1 z2=>?_) zi (Is.mono0 s6.g j1) (Is.mono0 s6.g j2) i6 q6
 ·show upd W6.h p _ b=some o
  rw [zo hne]
  exact s6.h _ _ ((zo hne).trans ((zo hne).trans (at3.le.h _ _ hb)))
 ·refine s6.n a (fun z=>?_) (at3.le.n a z1 z2)
  by_cases hap:a=p
  ·subst hap
   have z:upd _ a _ a=none:=z
   rw [zi] at z
   cases z
  ·have z:upd _ p _ a=none:=z
   rw [zo hap] at z
   have z:upd W3.h p _ a=none:=z
   rw [zo hap] at z
   exact z1 (at3.le.h.free z)
end
end OD
namespace OD
open PySem PySem.Spec PyProof.Rows L2
section
variable {X:Cx} {fr:Fr} {pos p0 p1:Pos}
theorem j6:CallR X (.builtin "isinstance") (fun xs H Q=>∃ a C dx fs tp D1 D2 b,xs=[.ref a,.ref tp]∧H a=some (.ins C dx fs)∧vc X.K C∧H tp=some (.tup [.ref D1,.ref D2])∧PySem.W.kitAny X.K (.ref C) [.ref D1,.ref D2]=some b∧Q (.bl b) H):=by
 intro pins s σ H xs us Q I r h
 obtain ⟨a,C,dx,fs,tp,D1,D2,b,rfl,ha,ok,htp,hk,q⟩:=h
 cases r with
 | cons r1 r2=>
  cases r2 with
  | cons r3 r4=>
   cases r4
   cases (show _=Value.ref a from r1)
   cases (show _=Value.ref tp from r3)
   obtain ⟨_,its,rv,⟨oc,od,odat,osl⟩,h1,h2,n,h3⟩:=(show ObjOk X.prog X.w H s.heap tp (.tup [.ref D1,.ref D2]) from I.hok tp _ htp)
   cases rv with
   | cons g1 rv=>
    cases rv with
    | cons g2 rv=>
     cases rv
     cases g1
     cases g2
     obtain rfl:oc=.type "tuple":=h2
     obtain rfl:odat=.seq _ n:=h3
     obtain ⟨mA,O,_⟩:=uy I.hok ha
     obtain ⟨od',J,_⟩:=O.look
     exact PySem.W.kia_tup (PySem.W.kitx_own (ok.cl.get _) ok.cl.hd ok.ha ok.hn ok.htk ok.hm) I.kIn J h1 hk (fun z=>nomatch z) fun tk=>⟨.bl b,H,I.tok _,rfl,q⟩
def RM (K:PySem.W.Frag) (D1 D2:Addr) (ta:DTE):DTE:=fun ρ Q=>ta ρ fun d=>∃ C f n b1 b2,d=.way C f n∧vc K C∧PySem.W.kitOne K (.ref C) (.ref D1)=some b1∧PySem.W.kitOne K (.ref C) (.ref D2)=some b2∧Q (.bl (b1 || b2))
theorem Xv {a:Expr} {t:DTE} {y z:Str} {py pz pt:Pos} {kt:Nat} {D1 D2:Addr} (hm:X.mg "isinstance"=none) (hm1:X.mg y=some (.ref D1)) (hm2:X.mg z=some (.ref D2)) (ha:DE X a t)
  (hg:Gl X "isinstance":=by rfl) (hg1:Gl X y:=by rfl) (hg2:Gl X z:=by rfl) (hd1:(y == ("__debug__":Str))=false:=by decide) (hd2:(z == ("__debug__":Str))=false:=by decide)
  (hs:starEach [a,.Tuple [.Name y py,.Name z pz] kt pt] X.env=(false,eval a X.env)::starEach [.Tuple [.Name y py,.Name z pz] kt pt] X.env:=by rfl) (hs2:starEach [.Tuple [.Name y py,.Name z pz] kt pt] X.env=(false,eval (.Tuple [.Name y py,.Name z pz] kt pt) X.env)::starEach [] X.env:=by rfl)
  (hs3:starEach [.Name y py,.Name z pz] X.env=(false,eval (.Name y py) X.env)::starEach [.Name z pz] X.env:=by rfl) (hs4:starEach [.Name z pz] X.env=(false,eval (.Name z pz) X.env)::starEach [] X.env:=by rfl)
  (hpl:(backTo pos (starEach [.Tuple [.Name y py,.Name z pz] kt pt] X.env)).any (·.1)=false:=by rfl):
  DE X (.Call (.Name "isinstance" p0) [a,.Tuple [.Name y py,.Name z pz] kt pt] [] pos) (RM X.K D1 D2 t):=by
 obtain ⟨te,p1,l1⟩:=ha
 have c1:PE X (.Name y py) (tC (.ref D1)):=p7 hg1 hm1 rfl hd1
 have c2:PE X (.Name z pz) (tC (.ref D2)):=p7 hg2 hm2 rfl hd2
 refine ⟨_,xq j6 hg hm boot_isinstance (zH p1 (zH (pY (zH c1 (zH c2 ym hs4) hs3)) ym hs2) hs) (by decide) (by decide) hs hpl,fun ρ σ H Q r h R k=>l1 ρ σ H _ r h _ fun d v H1 s1 i1 ⟨C,f,n,b1,b2,ed,ok,e1,e2,q⟩=>?_⟩
 subst ed
 obtain ⟨p,dx,rfl,hp⟩:=is_way.mp i1
 refine ⟨by show 2≤sizeLine; decide,fun tp htp=>⟨p,C,dx,[(f,.int n)],tp,D1,D2,b1 || b2,rfl,?_,ok,zi,?_,?_⟩⟩
 ·have hp':=H1.sub _ _ hp
  rw [zo (zD hp' htp)]
  exact hp'
 ·unfold PySem.W.kitAny PySem.W.kitAny PySem.W.kitAny
  rw [e1,e2]
  cases b1 <;> cases b2 <;> rfl
 ·exact k _ _ (H1.new tp (.tup [.ref D1,.ref D2])) (s1.trans (wS htp _)) (is_bl.mpr rfl) q
end
section
variable {X:Cx} {fr:Fr} {x:Str} {p0 pos pos' dpos:Pos}
def Q_ (P:Program) (w:World) (K:PySem.W.Frag) (i:Nat):DTS:=fun D ρ=>l8 (ρ.set i .none)=true∧∃ b:Bool,D.nx (ρ.set i (.obj (xz P w K (if b=true then .mp else .mn) [])))
def Sn (P:Program) (w:World):TE:=fun _ H Q=>(∀ p,H p=none→Q (.ref p) (upd H p (.ext (zK (tupleKind (intKind P w)) p []))))∨∀ p,H p=none→Q (.ref p) (upd H p (.ext (zK (zL P w) p [])))
theorem bw:PE X (.Dict [] [] pos) (Sn X.prog X.w):=fun pins s σ H Q I h=>by
 rcases h with h | h
 ·exact iS (knd:=tupleKind (intKind X.prog X.w)) pins s σ H Q I h
 ·exact iS (knd:=zL X.prog X.w) pins s σ H Q I h
theorem dU {i:Nat} (hN:X.N.Nodup) (hi:X.N[i]? = some x) (hx:Loc X.env.scope x) (hs:swapsWith (.Dict [] [] dpos) (some (.Name x pos')) pos.line X.env=pure false:=by rfl)
  (hf:X.fn x=true∨X.env.scope.names.lookup x=some .local:=by first | exact .inl rfl | exact .inr rfl | assumption):DSt X fr (.Assign [.Name x pos'] (.Dict [] [] dpos) pos) (Q_ X.prog X.w X.K i):=by
 refine ⟨_,pW hN hi hx bw hs hf,fun W0 G ρ σ W D D' at_ s ⟨h1,b,h⟩=>?_⟩
 cases b with
 | true=>
  refine .inl fun q hq=>?_
  have g0:=W.sub.free hq
  have hd:dictIs X.prog X.w X.K [] W.g q (.ext (zK (tupleKind (intKind X.prog X.w)) q [])) .mp:=⟨_,rfl,.nil⟩
  exact s.nx _ _ (W.mine q _ g0) ⟨at_.le.trans (yc hq _),at_.gs,at_.rl.obj (yc hq _) i h1 hq zi (uH hd) g0 hd⟩ h
 | false=>
  refine .inr fun q hq=>?_
  have g0:=W.sub.free hq
  have hd:dictIs X.prog X.w X.K [] W.g q (.ext (zK (zL X.prog X.w) q [])) .mn:=⟨_,rfl,.nil⟩
  exact s.nx _ _ (W.mine q _ g0) ⟨at_.le.trans (yc hq _),at_.gs,at_.rl.obj (yc hq _) i h1 hq zi (uH hd) g0 hd⟩ h
def RB (i:Nat):DTS:=fun D ρ=>∃ φ,ρ[i]? = some (.obj φ)∧D.rt (.opq (jV φ))
theorem Xh (i:Nat) (hN:X.N[i]? = some x:=by rfl) (hv:Vis X.env.scope x:=by first | exact Or.inl rfl | exact Or.inr (Or.inl rfl) | exact Or.inr (Or.inr rfl)) (hd:(x == ("__debug__":Str))=false:=by decide)
  (hcd:(x == ("__classdict__":Str))=false:=by decide):DSt X .d (.Return (some (.Name x p0)) pos) (RB i):=by
 refine ⟨_,tm (zQ hN hv hd hcd),fun W0 G ρ σ W D D' a s h=>?_⟩
 obtain ⟨φ,e,q⟩:=h
 obtain ⟨⟨b,o,e1,e2,e3,e4,e5,e6⟩,_⟩:=a.rl.ob i φ e
 exact ⟨.ref b,e1,s.tl (.opq (jV φ)) (.ref b) (W.frz b o e2) (wT a.le e5 e2 e4) (is_opq (K:=X.K).mpr ⟨b,o,rfl,zi,φ.mono (zC e4 o) e6⟩) q⟩
end
end OD
namespace OD
open PySem PySem.Spec PyProof.Rows L2
section
variable {X:Cx} {o:Expr} {ta:DTE} {pos apos:Pos} {n:Nat} {m:Str}
def XB (X:Cx) (n:Nat) (m:Str) (ta:DTE):DTE:=fun ρ Q=>ta ρ fun d=>∃ C f1 f2 f3 d1 d2 d3 S,d=.opq (rH X.K C f1 f2 f3 d1 d2 d3)∧((m == f1)=false∧(m == f2)=false∧(m == f3)=false)∧FMOk X.prog X.w X.K X.mg X.base n C m S∧S [d] Q
theorem jX {pl:Sem Bool} (hr:Room n X.A) (he:DE X o ta)
  (ht:eval (.Call (.Attribute o m apos) [] [] pos) X.env=(do
   let ov ← eval o X.env
   standAt apos.atName
   let (f,first) ← holding [ov] (getMethod ov m pl)
   callWith pos f first (backTo pos (starEach [] X.env)) (backToKw pos (keywordEach [] X.env))):=by rfl):
  DF X (.Call (.Attribute o m apos) [] [] pos) (XB X n m ta):=by
 obtain ⟨te,p0,l0⟩:=he
 refine ⟨_,qX (pl:=pl) p0 hr ht,fun ρ σ H Q r h R k=>l0 ρ σ H _ r h _ fun d v H1 s1 i1 ⟨C,f1,f2,f3,d1,d2,d3,S,ed,⟨n1,n2,n3⟩,M,q1⟩=>?_⟩
 subst ed
 obtain ⟨a,dx,x1,x2,x3,rfl,ha,h2,h3,h4⟩:=is_opq.mp i1
 obtain ⟨g,fd,ps,hm,hb,F⟩:=M.ex
 refine ⟨a,dx,_,C,g,fd,ps,_,rfl,H1.sub _ _ ha,by simp [List.lookup,n1,n2,n3],M.cl,hm,hb,F,?_⟩
 exact ⟨H1,[.opq (rH X.K C f1 f2 f3 d1 d2 d3)],Q,rfl,allIs_cons.mpr ⟨_,_,rfl,i1,allIs_nil.mpr rfl⟩,q1,fun es p xs H2 s2 h0 h1 h2 i2 q2=>k es p xs H2 (s1.trans s2) (s1.h.free h0) h1 h2 i2 q2⟩
end
end OD
namespace L2
open PySem PySem.Spec PyProof.Rows
section
variable {X:Cx} {C f:Addr} {fd:FuncData} {ps:List Str} {sp:Sp} {k:Nat} {e:Expr} {es:List Expr} {x m:Str} {p pos py epos:Pos} {t:TA} {i:Nat}
end
end L2
namespace OD
open PySem PySem.Spec PyProof.Rows L2
section
variable {X:Cx} {fr:Fr} {e:Expr} {es:List Expr} {t:DTA} {te:DTE} {n:Nat} {x m:Str} {i:Nat} {p pos py epos p0 p1 p2:Pos}
def RZ (i:Nat) (te:DTE):DTS:=fun D ρ=>∃ ds,ρ[i]? = some (.own ds)∧te ρ fun d=>ds.length≤16000000∧D.nx (ρ.set i (.own (ds++[d])))
theorem Xk (i:Nat) (h:DE X e te) (hN:X.N[i]? = some x:=by rfl) (hv:Vis X.env.scope x:=by first | exact Or.inl rfl | exact Or.inr (Or.inl rfl) | exact Or.inr (Or.inr rfl)) (hd:(x == ("__debug__":Str))=false:=by decide)
  (hcd:(x == ("__classdict__":Str))=false:=by decide) (hst:starEach [e] X.env=(false,eval e X.env)::starEach [] X.env:=by rfl) (hpl:(backTo p2 (starEach [] X.env)).any (·.1)=false:=by rfl)
  (hfew:((backTo p2 (starEach [e] X.env)).all (fun x=>!x.1) && (backToKw p2 (keywordEach [] X.env)).all (fun x=>x.1.isSome)
   && decide ([e].length+([]:List Keyword).length+(if ([]:List Keyword).isEmpty then 0 else 1)<30))=true:=by rfl)
  (hbase:attributeBase (.Name x p0) "append" X.env (eval (.Name x p0) X.env)=eval (.Name x p0) X.env:=by rfl) (hline:(p1.endLine == p2.line)=true:=by rfl)
  (hs:swapsWith (.Call (.Attribute (.Name x p0) "append" p1) [e] [] p2) none pos.line X.env=pure false:=by rfl):
  DSt X fr (.Expr (.Call (.Attribute (.Name x p0) "append" p1) [e] [] p2) pos) (RZ i te):=by
 obtain ⟨tt,p,l⟩:=h
 refine ⟨_,sL (XU PySem.F.plainAttrs_list PySem.F.slot_list_append PySem.F.type_list_append tF (zQ hN hv hd hcd) (zH p ym hst) hbase hfew hline hst hpl) hs,fun W0 G ρ σ W D D' at_ s h=>?_⟩
 obtain ⟨ds,ei,h⟩:=h
 obtain ⟨b,xs,e1,e2,e3,e4,e5⟩:=at_.rl.ow i ds ei
 refine ⟨.ref b,e1,.inl ⟨rfl,xs,.of e2⟩,l ρ σ W _ at_.rl h _ fun d v W1 s1 i1 ⟨hl,q1⟩=>?_⟩
 have a1:=at_.step s1
 have hg1:W1.g b=none:=s1.n b (by rw [e2]; intro z; cases z) e3
 refine ⟨b,xs,v,rfl,rfl,s1.h _ _ e2,by rw [← e5.length]; exact Nat.lt_of_le_of_lt hl (by decide),?_⟩
 exact s.nx _ _ _ (a1.put ei e1 hg1 e4 ((e5.mono s1).append (allIs_cons.mpr ⟨v,[],rfl,i1,allIs_nil.mpr rfl⟩))) q1
end
end OD
theorem L2.Room.u9 {k:Nat} {A:PySem.Around} (h:L2.Room k A):A.units+9<PySem.cLine:=by have:=h.un; omega
namespace L2
open PySem PySem.Spec PyProof.Rows
def DKn (P:Program) (w:World) (H:Hp) (a:Addr):Prop:=(∃ xs,H a=some (.ext (zK (tupleKind (intKind P w)) a xs)))∨∃ xs,H a=some (.ext (zK (zL P w) a xs))
def DGi (P:Program) (w:World) (H:Hp) (a:Addr) (y:V) (R:Value→Prop):Prop:=
 (∃ xs b l p,H a=some (.ext (zK (tupleKind (intKind P w)) a xs))∧y=.ref b∧FK H l b∧(∀ x∈xs,FK H x.1 x.2.1)∧atKey xs l=some p∧R p.2)∨
 ∃ xs b k p,H a=some (.ext (zK (zL P w) a xs))∧y=.ref b∧NK H k b∧(∀ x∈xs,NK H x.1 x.2.1)∧atKey xs k=some p∧R p.2
section
variable {X:Cx} {o e:Expr} {to:TE} {t:TA} {apos cpos:Pos}
theorem Tz {pins:List (Addr × Obj)} {σ:St} {H:Hp} {s:Shared} {a:Addr} (I:Inv X pins σ H s) (g:DKn X.prog X.w H a):s.TypeIs (.ref a) "dict"∧∀ b,Value.ref a=.ref b→∃ ob,s.heap.get? b=some ob∧ob.dict=none:=by
 rcases g with ⟨xs,e⟩ | ⟨xs,e⟩
 ·obtain ⟨⟨z1,z2,o,es,ep,h1,h2,h3,h4,h5⟩,_,_⟩:=(show ObjOk X.prog X.w H s.heap a (.ext (zK (tupleKind (intKind X.prog X.w)) a xs)) from I.hok a _ e)
  exact ⟨⟨o,h1,h2.1⟩,fun b eb=>by cases eb; exact ⟨o,h1,h2.2.1⟩⟩
 ·obtain ⟨⟨z1,z2,o,es,ep,h1,h2,h3,h4,h5⟩,_,_⟩:=(show ObjOk X.prog X.w H s.heap a (.ext (zK (zL X.prog X.w) a xs)) from I.hok a _ e)
  exact ⟨⟨o,h1,h2.1⟩,fun b eb=>by cases eb; exact ⟨o,h1,h2.2.1⟩⟩
def Qm (P:Program) (w:World) (to:TE) (t:TA):TE:=fun σ H Q=>to σ H fun x H1=>∃ a,x=.ref a∧DKn P w H1 a∧t σ H1 fun vs H2=>∃ y,vs=[y]∧DGt P w H2 a y fun r=>∃ v,RelV v r∧Q v H2
theorem bx (hu:X.A.units+9<cLine) (ho:PE X o to) (ha:PA X [e] t) (hbase:attributeBase o "get" X.env (eval o X.env)=eval o X.env:=by rfl)
  (hfew:((backTo cpos (starEach [e] X.env)).all (fun x=>!x.1) && (backToKw cpos (keywordEach [] X.env)).all (fun x=>x.1.isSome)
   && decide ([e].length+([]:List Keyword).length+(if ([]:List Keyword).isEmpty then 0 else 1)<30))=true:=by rfl)
  (hline:(apos.endLine == cpos.line)=true:=by rfl) (hs:starEach [e] X.env=(false,eval e X.env)::starEach [] X.env:=by rfl) (hplain:(backTo cpos (starEach [] X.env)).any (·.1)=false:=by rfl):
  PE X (.Call (.Attribute o "get" apos) [e] [] cpos) (Qm X.prog X.w to t):=by
 intro pins s σ H Q I h
 refine wpAny_Call_method_late hbase hfew hline rfl (thn (ho pins s σ H _ I h) fun v s1 ⟨x,H1,I1,r1,a,ex,dk,q1⟩=>?_)
 subst ex
 cases (show v=Value.ref a from r1)
 obtain ⟨h1,h2⟩:=Tz I1 dk
 refine ⟨"dict","dict.get",PySem.F.plainAttrs_dict,PySem.F.slot_dict_get,PySem.F.type_dict_get,h1,h2,?_⟩
 have hA:=ha cpos pins s1 σ H1 _ I1 q1
 rw [hs] at hA ⊢
 refine Calls.callWith_builtin (by show (false || (backTo cpos (starEach [] X.env)).any (·.1))=false; rw [hplain] <;> rfl) (Calls.evalArgs_plain ?_)
 refine thn hA fun us s2 ⟨vs,H2,I2,r2,y,ey,g⟩=>?_
 subst ey
 cases r2 with
 | cons r3 r4=>
  cases r4
  exact TD hu I2 g r3 fun w s3 I3 ⟨v,rv,q⟩=>⟨v,H2,I3,rv,q⟩
theorem YZ (hu:X.A.units+9<cLine):IxR X (fun x y H Q=>∃ a,x=.ref a∧DGi X.prog X.w H a y fun r=>∃ v,RelV v r∧Q v H):=by
 intro value slice pins s σ H x y v u Q I rx ry h hs
 obtain ⟨a,rfl,g⟩:=h
 cases (show v=Value.ref a from rx)
 rcases g with ⟨xs,c,k,p,e,ey,hk,hx,l,z,rz,q⟩ | ⟨xs,c,k,p,e,ey,hk,hx,l,z,rz,q⟩
 ·subst ey
  cases (show u=Value.ref c from ry)
  obtain ⟨z1,z2,dd⟩:=yF I e fun x q=>(hx x q).is I.hok
  exact subscriptTail_builtinR (x:=p.2) dd.typeIs PySem.F.slot_dict_getitem.lookup (wpAny_getItem_heap (knd:=tupleKind (intKind X.prog X.w)) (show X.A.units+1<cLine by omega) (hk.is I.hok) dd l ⟨rfl,z,H,I.tok _,rz,q⟩) hs
 ·subst ey
  cases (show u=Value.ref c from ry)
  obtain ⟨z1,z2,dd⟩:=yF I e fun x q=>(hx x q).is I.hok
  exact subscriptTail_builtinR (x:=p.2) dd.typeIs PySem.F.slot_dict_getitem.lookup (wpAny_getItem_heap (knd:=zL X.prog X.w) (show X.A.units+1+4<cLine by omega) (hk.is I.hok) dd l ⟨rfl,z,H,I.tok _,rz,q⟩) hs
end
section
variable {X:Cx} {o e:Expr} {es:List Expr} {n:Nat} {m:Str} {pos apos epos:Pos}
def cZ (X:Cx) (n:Nat) (m:Str) (te:TE) (tt:TA):TE:=fun σ H Q=>te σ H fun x H1=>∃ a dx fs C f fd ps sp,x=.ref a∧H1 a=some (.ins C dx fs)∧fs.lookup m=none∧Cls X.K C∧lJ X.K C m f∧Binds X.K fd ps []∧FnOk X.prog X.w X.K X.mg X.base (CX1 X.prog X.w) n f fd ps sp∧tt σ H1 fun vs H2=>sp (x::vs) H2 Q (OD.Ecan X)
theorem kZ {pl:Sem Bool} {te:TE} {tt:TA} (he:PE X o te) (hr:Room n X.A) (ha:PA X (e::es) tt)
  (hst:starEach (e::es) X.env=(false,eval e X.env)::starEach es X.env:=by rfl) (hpl:(backTo pos (starEach es X.env)).any (·.1)=false:=by rfl)
  (ht:eval (.Call (.Attribute o m apos) (e::es) [] pos) X.env=(do
   let ov ← eval o X.env
   standAt apos.atName
   let (f,first) ← holding [ov] (getMethod ov m pl)
   callWith pos f first (backTo pos (starEach (e::es) X.env)) (backToKw pos (keywordEach [] X.env))):=by rfl):
  PE X (.Call (.Attribute o m apos) (e::es) [] pos) (cZ X n m te tt):=by
 intro pins s σ H Q I h
 refine PySem.W.methodCall_KW (pl:=pl) (thn (he pins s σ H _ I h) fun u s1 ⟨x,H1,I1,rx,a,dx,fs,C,f,fd,ps,sp,ex,ea,l,c,hm,hb,F,q⟩=>?_) ht
 subst ex
 obtain rfl:u=Value.ref a:=rx
 refine vP I1 ea c hm l ?_
 refine PySem.W.callWith_K (first:=[.ref a]) (h₀:=X.base) I.ok.mod.kin hm.kp (thn (ha pos pins s1 σ H1 _ I1 q) fun us s2 ⟨vs,H2,I2,r,q2⟩=>⟨I2.kIn,?_⟩) hst hpl
 exact pU (us:=.ref a::us) (vs:=.ref a::vs) (dvs:=[]) (E:=OD.Ecan X) F hr hb .nil OD.pass_can I2 (.cons rfl r) (by rw [List.append_nil]; exact q2)
end
end L2
namespace OD
open PySem PySem.Spec PyProof.Rows L2
section
variable {P:Program} {w:World} {K:PySem.W.Frag}
theorem cS {g:Hp}:VIs K g .non Value.none:=⟨.non,rfl,is_non.mpr rfl⟩
theorem lQ {g:Hp} {a:Option Dt} {b:Option (Addr × Value)} (h:VOp K g a b):VIs K g (a.getD .non) ((b.map (·.2)).getD .none):=by
 cases a <;> cases b <;> first | exact cS | exact h | exact h.elim
theorem Xm {W:Vw} {m:KM} {kvs:DKV} {a:Addr} {o:HO} (h:dictIs P w K kvs W.g a o m) (ho:W.h a=some o) (hm:m≠.mi):DKn P w W.h a:=by
 cases m with
 | mi=>exact absurd rfl hm
 | mp=>obtain ⟨xs,rfl,_⟩:=h; exact .inl ⟨xs,ho⟩
 | mn=>obtain ⟨xs,rfl,_⟩:=h; exact .inr ⟨xs,ho⟩
theorem d5 {W:Vw} {m:KM} {kvs:DKV} {a:Addr} {o:HO} {k:KD} {y:V} {R:Value→Prop} (h:dictIs P w K kvs W.g a o m) (ho:W.h a=some o) (hk:k.md=m) (hm:m≠.mi) (hy:Is K W.g k.dt y) (hR:∀ r,VIs K W.g ((zR kvs k).getD .non) r→R r):DGt P w W.h a y R:=by
 subst hk
 cases k with
 | ki n=>exact absurd rfl hm
 | kp l=>
  obtain ⟨xs,rfl,r⟩:=h
  obtain ⟨b,rfl,hb⟩:=q9 hy
  exact .inl ⟨xs,b,l,ho,rfl,FK.mono W.sub hb,fun q hq=>let ⟨_,z⟩:=yf r q hq; FK.mono W.sub z.2.1,hR _ (lQ (oq r l))⟩
 | kn l t=>
  obtain ⟨xs,rfl,r⟩:=h
  obtain ⟨b,rfl,hb⟩:=kg hy
  exact .inr ⟨xs,b,(l,t),ho,rfl,NK.mono W.sub hb,fun q hq=>let ⟨_,z⟩:=yf r q hq; NK.mono W.sub z.2.1,hR _ (lQ (ot r l t))⟩
theorem oZ {g:Hp} {e:Dt} {b:Option (Addr × Value)} (h:VOp K g (some e) b):∃ p,b=some p∧VIs K g e p.2:=by
 cases b with
 | none=>exact h.elim
 | some p=>exact ⟨p,rfl,h⟩
theorem Xo {W:Vw} {m:KM} {kvs:DKV} {a:Addr} {o:HO} {k:KD} {e:Dt} {y:V} {R:Value→Prop} (h:dictIs P w K kvs W.g a o m) (ho:W.h a=some o) (hk:k.md=m) (hm:m≠.mi) (hy:Is K W.g k.dt y) (hl:zR kvs k=some e) (hR:∀ r,VIs K W.g e r→R r):DGi P w W.h a y R:=by
 subst hk
 cases k with
 | ki n=>exact absurd rfl hm
 | kp l=>
  obtain ⟨xs,rfl,r⟩:=h
  obtain ⟨b,rfl,hb⟩:=q9 hy
  have z:=oq r l
  rw [hl] at z
  obtain ⟨p,hp,hv⟩:=oZ z
  exact .inl ⟨xs,b,l,p,ho,rfl,FK.mono W.sub hb,fun q hq=>let ⟨_,z⟩:=yf r q hq; FK.mono W.sub z.2.1,hp,hR _ hv⟩
 | kn l t=>
  obtain ⟨xs,rfl,r⟩:=h
  obtain ⟨b,rfl,hb⟩:=kg hy
  have z:=ot r l t
  rw [hl] at z
  obtain ⟨p,hp,hv⟩:=oZ z
  exact .inr ⟨xs,b,(l,t),p,ho,rfl,NK.mono W.sub hb,fun q hq=>let ⟨_,z⟩:=yf r q hq; NK.mono W.sub z.2.1,hp,hR _ hv⟩
end
section
variable {X:Cx} {fr:Fr} {o e b:Expr} {es:List Expr} {to ta tk:DTE} {t:DTA} {n:Nat} {m x y:Str} {apos cpos pos epos p1:Pos} {i j:Nat}
def RW (P:Program) (w:World) (K:PySem.W.Frag) (to:DTE) (t:DTA):DTE:=fun ρ Q=>to ρ fun d=>∃ m kvs,d=.opq (jV (xz P w K m kvs))∧m≠.mi∧t ρ fun ds=>∃ k,ds=[KD.dt k]∧k.md=m∧Q ((zR kvs k).getD .non)
theorem Xw (hu:X.A.units+9<cLine) (ho:DE X o to) (ha:DA X [e] t) (hbase:attributeBase o "get" X.env (eval o X.env)=eval o X.env:=by rfl)
  (hfew:((backTo cpos (starEach [e] X.env)).all (fun x=>!x.1) && (backToKw cpos (keywordEach [] X.env)).all (fun x=>x.1.isSome)
   && decide ([e].length+([]:List Keyword).length+(if ([]:List Keyword).isEmpty then 0 else 1)<30))=true:=by rfl)
  (hline:(apos.endLine == cpos.line)=true:=by rfl) (hs:starEach [e] X.env=(false,eval e X.env)::starEach [] X.env:=by rfl) (hplain:(backTo cpos (starEach [] X.env)).any (·.1)=false:=by rfl):
  DE X (.Call (.Attribute o "get" apos) [e] [] cpos) (RW X.prog X.w X.K to t):=by
 obtain ⟨tt,p,l⟩:=ho
 obtain ⟨ta,pa,la⟩:=ha
 refine ⟨_,bx hu p pa hbase hfew hline hs hplain,fun ρ σ W Q r h R k=>l ρ σ W _ r h _ fun d v W1 s1 i1 ⟨m,kvs,ed,hm,q1⟩=>?_⟩
 subst ed
 obtain ⟨a,ob,rfl,hga,hd⟩:=is_opq.mp i1
 refine ⟨a,rfl,Xm hd (W1.sub _ _ hga) hm,la ρ σ W1 _ (r.mono s1) q1 _ fun ds vs W2 s2 i2 ⟨kd,ek,em,q2⟩=>?_⟩
 subst ek
 obtain ⟨y,ys,rfl,iy,i0⟩:=allIs_cons.mp i2
 cases allIs_nil.mp i0
 exact ⟨y,rfl,d5 (dictIs.mono s2.g hd) (W2.sub _ _ (s2.g _ _ hga)) em hm iy fun rr ⟨v,rv,iv⟩=>⟨v,rv,k _ v W2 (s1.trans s2) iv q2⟩⟩
def Pa (P:Program) (w:World) (K:PySem.W.Frag) (i:Nat) (tk:DTE):DTE:=fun ρ Q=>∃ m kvs,ρ[i]? = some (.obj (xz P w K m kvs))∧m≠.mi∧tk ρ fun z=>∃ k e,z=KD.dt k∧k.md=m∧zR kvs k=some e∧Q e
theorem TM (i:Nat) (hu:X.A.units+9<cLine) (hb:DE X b tk) (hs:vv b) (hN:X.N[i]? = some x:=by rfl) (hv:Vis X.env.scope x:=by first | exact Or.inl rfl | exact Or.inr (Or.inl rfl) | exact Or.inr (Or.inr rfl)) (hd:(x == ("__debug__":Str))=false:=by decide)
  (hcd:(x == ("__classdict__":Str))=false:=by decide):DE X (.Subscript (.Name x p1) b pos) (Pa X.prog X.w X.K i tk):=by
 obtain ⟨tf,p2,l2⟩:=hb
 refine ⟨_,tU (YZ hu) (zQ hN hv hd hcd) p2 hs,fun ρ σ W Q r h R k=>?_⟩
 obtain ⟨m,kvs,ei,hm,h⟩:=h
 obtain ⟨⟨a,o,e1,e2,e3,e4,e5,e6⟩,_⟩:=r.ob i _ ei
 refine ⟨.ref a,e1,l2 ρ σ W _ r h _ fun z y W1 s1 i1 ⟨kd,e,ez,em,hl,q⟩=>?_⟩
 subst ez
 exact ⟨a,rfl,Xo (dictIs.mono s1.g e6) (s1.h _ _ e2) em hm i1 hl fun rr ⟨v,rv,iv⟩=>⟨v,rv,k _ v W1 s1 iv q⟩⟩
structure TMOkX (P:Program) (w:World) (K:PySem.W.Frag) (mg:Str→Option Value) (base:Heap) (n:Nat) (C:Addr) (m:Str) (fr:Fr) (S:zV):Prop where
 cl:Cls K C
 ex:∃ f fd ps,lJ K C m f∧Binds K fd ps []∧FnOk P w K mg base (CX1 P w) n f fd ps (vW K fr S)
theorem TMOkX.mono {P:Program} {w:World} {K:PySem.W.Frag} {mg:Str→Option Value} {base:Heap} {C:Addr} {x:Str} {m n:Nat} {fr:Fr} {S:zV} (h:TMOkX P w K mg base m C x fr S) (hl:m≤n):TMOkX P w K mg base n C x fr S:=
 let ⟨f,fd,ps,a,b,c⟩:=h.ex; ⟨h.cl,f,fd,ps,a,b,c.mono hl⟩
theorem DR.de {t:DTE} (h:DR X fr e t):DE X e t:=by
 obtain ⟨te,p,l⟩:=h
 refine ⟨te,p,fun ρ σ H Q r h R k=>l ρ σ H Q r h R fun d v H1 s1 tl q=>?_⟩
 obtain ⟨W1,e1,le1,i1⟩:=tl.frz s1
 rw [← e1]
 exact k d v W1 le1 i1 q
def XA (X:Cx) (n:Nat) (m:Str) (fr:Fr) (ta:DTE) (t:DTA):DTE:=fun ρ Q=>ta ρ fun d=>∃ C f1 f2 f3 d1 d2 d3 S,d=.opq (rH X.K C f1 f2 f3 d1 d2 d3)∧((m == f1)=false∧(m == f2)=false∧(m == f3)=false)∧TMOkX X.prog X.w X.K X.mg X.base n C m fr S∧t ρ fun ds=>S (d::ds) Q (Rz X)
theorem pq {pl:Sem Bool} (fr:Fr) (hr:Room n X.A) (ho:DE X o ta) (ha:DA X (e::es) t)
  (hst:starEach (e::es) X.env=(false,eval e X.env)::starEach es X.env:=by rfl) (hpl:(backTo pos (starEach es X.env)).any (·.1)=false:=by rfl)
  (ht:eval (.Call (.Attribute o m apos) (e::es) [] pos) X.env=(do
   let ov ← eval o X.env
   standAt apos.atName
   let (f,first) ← holding [ov] (getMethod ov m pl)
   callWith pos f first (backTo pos (starEach (e::es) X.env)) (backToKw pos (keywordEach [] X.env))):=by rfl):
  DR X fr (.Call (.Attribute o m apos) (e::es) [] pos) (XA X n m fr ta t):=by
 obtain ⟨t0,p0,l0⟩:=ho
 obtain ⟨te,p1,l1⟩:=ha
 refine ⟨_,kZ (pl:=pl) p0 hr p1 hst hpl ht,fun ρ σ H Q r h R k=>l0 ρ σ H _ r h _ fun d v H1 s1 i1 ⟨C,f1,f2,f3,d1,d2,d3,S,ed,⟨n1,n2,n3⟩,M,q1⟩=>?_⟩
 subst ed
 obtain ⟨a,dx,x1,x2,x3,rfl,ha,h2,h3,h4⟩:=is_opq.mp i1
 obtain ⟨g,fd,ps,hm,hb,F⟩:=M.ex
 refine ⟨a,dx,_,C,g,fd,ps,_,rfl,H1.sub _ _ ha,by simp [List.lookup,n1,n2,n3],M.cl,hm,hb,F,l1 ρ σ H1 _ (r.mono s1) q1 _ fun ds vs H2 s2 i2 q2=>?_⟩
 have s:=s1.trans s2
 exact ⟨H2,_,Q,Rz X,rfl,allIs_cons.mpr ⟨_,_,rfl,i1.mono s2,i2⟩,q2,fun d v H3 s3 t3 q3=>k d v H3 (s.trans s3) (io (fun _ z=>s.h.free z) t3) q3,fun C H' s' hC=>⟨C,rfl,(hC H' (((qV r).trans s.h).trans s')).2⟩⟩
end
section
variable {Z F F':Hp} {K:PySem.W.Frag} {W W' W0:Vw} {G:Hp} {ρ:DS} {σ:L2.St}
theorem Rl.weak (r:Rl K Z F' W ρ σ) (z:Same Z F) (s:Same F F'):Rl K Z F W ρ σ:=by
 refine ⟨r.len,r.at_,fun i ds q=>?_,r.ne,s.trans r.fr,z,fun i a ds q=>?_,fun i φ q=>?_⟩
 ·obtain ⟨a,xs,h1,h2,h3,h4,h5⟩:=r.ow i ds q
  exact ⟨a,xs,h1,h2,h3,s.free h4,h5⟩
 ·obtain ⟨⟨xs,h1,h2,h3,h4,h5⟩,k⟩:=r.ar i a ds q
  exact ⟨⟨xs,h1,h2,h3,s.free h4,h5⟩,k⟩
 ·obtain ⟨⟨a,o,h1,h2,h3,h4,h5,h6⟩,k⟩:=r.ob i φ q
  exact ⟨⟨a,o,h1,h2,h3,h4,s.free h5,h6⟩,k⟩
end
section
variable {X:Cx} {fr:Fr} {st:Stmt} {yU:List Stmt} {t:DTS} {ug:DTG} {i j:Nat} {x y:Str} {pos pos' p0 p1 p2 p3 p4 p5 p6 pt:Pos}
end
end OD
namespace L2
open PySem PySem.Spec PyProof.Rows
def xy (P:Program) (w:World) (a:Addr) (ks:List (Str × Value)):Heap→Prop:=fun h=>(a == sysModules)=false∧ks.length≤sizeLine∧h.DictOf (PySem.strKind P w) a ks
theorem nV {P:Program} {w:World} {a:Addr} {ks:List (Str × Value)} {H:Hp} {h:Heap} (x:xy P w a ks h):ObjOk P w H h a (.ext (xy P w a ks)):=by
 refine ⟨x,?_,fun h1 h2 ⟨y1,y2,o,es,ep,z1,z2⟩ k=>⟨y1,y2,o,es,ep,k o z1,z2⟩⟩
 obtain ⟨_,_,o,_,_,e,_⟩:=x
 exact ⟨o,e⟩
section
variable {X:Cx} {e1 e2 e3:Expr} {t1 t2 t3:TE} {a b c:Str} {j1 j2 j3:Nat} {q1 q2 q3 dp:Pos}
def tD3 (P:Program) (w:World) (a b c:Str) (t1 t2 t3:TE):TE:=fun σ H Q=>∀ p,H p=none→t1 σ (upd H p (.ext (xy P w p []))) fun v1 H1=>t2 σ H1 fun v2 H2=>t3 σ H2 fun v3 H3=>H3 p=some (.ext (xy P w p []))∧∀ r1 r2 r3,RelV v1 r1→RelV v2 r2→RelV v3 r3→Q (.ref p) (upd H3 p (.ext (xy P w p [(a,r1),(b,r2),(c,r3)])))
theorem pL {P:Program} {w:World} {z:Str} {t:Tok}:(PySem.strKind P w).is z (.str z t)=true:=by
 show Value.isStrOf z (.str z t)=true
 simp [Value.isStrOf]
theorem SB (n1:a≠b) (n2:a≠c) (n3:b≠c) (h1:PE X e1 t1) (h2:PE X e2 t2) (h3:PE X e3 t3):
  PE X (.Dict [some (.Constant (.str a) j1 q1),some (.Constant (.str b) j2 q2),some (.Constant (.str c) j3 q3)] [e1,e2,e3] dp) (tD3 X.prog X.w a b c t1 t2 t3):=by
 intro pins s σ H Q I h
 have hb:sysModules<s.heap.objs.size:=Nat.lt_trans (by decide) (I.mod.glob.keeps I.bk).lt
 have hm:(s.heap.objs.size == sysModules)=false:=beq_eq_false_iff_ne.mpr (Ne.symm (Nat.ne_of_lt hb))
 have h:=h _ (I.hok.fresh (Nat.le_refl s.heap.objs.size))
 have I1:=I.laid (a:=s.heap.objs.size) (o:=.ext (xy X.prog X.w s.heap.objs.size [])) (h':=s.heap.push { cls:=.type "dict",data:=.dict #[] }) (t':=s.toks) (fun _ _ q=>Heap.get?_push_of_some _ q) (Nat.le_refl _) (nV ⟨hm,Nat.zero_le _,Heap.DictOf.new s.heap⟩)
 refine wpAny_Dict_any rfl rfl (fun z=>nomatch z) (by show 3≤15; decide) (pairTrees_cons_walk (thn (pZ pins _ σ _ (fun y H'=>y=V.str a∧t1 σ H' _) I1 ⟨rfl,h⟩) fun k1 s1 ⟨y1,H1,J1,ry1,ey1,g1⟩=>thn (h1 pins s1 σ H1 _ J1 g1) fun u1 s2 ⟨v1,H2,J2,rv1,g2⟩=>
  pairTrees_cons_walk (thn (pZ pins s2 σ H2 (fun y H'=>y=V.str b∧t2 σ H' _) J2 ⟨rfl,g2⟩) fun k2 s3 ⟨y2,H3,J3,ry2,ey2,g3⟩=>thn (h2 pins s3 σ H3 _ J3 g3) fun u2 s4 ⟨v2,H4,J4,rv2,g4⟩=>
   pairTrees_cons_walk (thn (pZ pins s4 σ H4 (fun y H'=>y=V.str c∧t3 σ H' _) J4 ⟨rfl,g4⟩) fun k3 s5 ⟨y3,H5,J5,ry3,ey3,g5⟩=>thn (h3 pins s5 σ H5 _ J5 g5) fun u3 s6 ⟨v3,H6,J6,rv3,e,g6⟩=>pairTrees_nil_walk ?_))))
 subst ey1; subst ey2; subst ey3
 obtain ⟨t1',rfl⟩:=ry1
 obtain ⟨t2',rfl⟩:=ry2
 obtain ⟨t3',rfl⟩:=ry3
 obtain ⟨z1,z2,dd⟩:=(show ObjOk X.prog X.w H6 s6.heap s.heap.objs.size (.ext (xy X.prog X.w s.heap.objs.size [])) from J6.hok _ _ e).1
 refine PySem.wpAny_storeAll (knd:=PySem.strKind X.prog X.w) _ [(a,u1),(b,u2),(c,u3)] [] s6 _ ⟨pL,rfl,pL,rfl,pL,rfl,trivial⟩ dd (by show 0+3≤sizeLine; decide) fun h' dd' hs=>?_
 have em:merged ([]:List (Str × Value)) [(a,u1),(b,u2),(c,u3)]=[(a,u1),(b,u2),(c,u3)]:=by
  simp [merged,stored,n1,n2,n3,Ne.symm n1,Ne.symm n2,Ne.symm n3]
 rw [em] at dd'
 have he:∃ q,h'.get? s.heap.objs.size=some q:=let ⟨q,_,_,hq,_⟩:=dd'; ⟨q,hq⟩
 exact ⟨.ref s.heap.objs.size,_,J6.write (x:=s.heap.objs.size) (e:=s.heap.objs.size) (by rw [e]; exact True.intro) (.inl rfl) (fun b q hb z=>(hs.2 b hb).trans z) he (nV ⟨z1,by show 3≤sizeLine; decide,dd'⟩),rfl,g6 u1 u2 u3 rv1 rv2 rv3⟩
theorem Rg:IxR X (fun x y H Q=>∃ p ks z v,x=.ref p∧y=.str z∧H p=some (.ext (xy X.prog X.w p ks))∧(∃ r,valueAt ks z=some r∧RelV v r)∧Q v H):=by
 intro value slice pins s σ H x y v u Q I rx ry h hs
 obtain ⟨p,ks,z,w,rfl,rfl,e,⟨r,hr,rw'⟩,q⟩:=h
 cases (show v=Value.ref p from rx)
 obtain ⟨t,rfl⟩:=ry
 obtain ⟨z1,z2,dd⟩:=(show ObjOk X.prog X.w H s.heap p (.ext (xy X.prog X.w p ks)) from I.hok p _ e).1
 exact subscriptTail_builtinR (x:=r) dd.mapOf.typeIs PySem.F.slot_dict_getitem.lookup (wpAny_getItem_of (knd:=PySem.strKind X.prog X.w) (k:=z) pL dd.mapOf hr ⟨rfl,w,H,I.tok _,rw',q⟩) hs
end
end L2
namespace OD
open PySem PySem.Spec PyProof.Rows L2
section
variable {X:Cx} {e1 e2 e3 key:Expr} {t1 t2 t3 tk:DTE} {a b c:Str} {j1 j2 j3:Nat} {q1 q2 q3 dp pos:Pos}
def dD3 (a b c:Str) (t1 t2 t3 tk:DTE):DTE:=fun ρ Q=>t1 ρ fun d1=>t2 ρ fun d2=>t3 ρ fun d3=>tk ρ fun d=>∃ z,d=.str z∧((z=a∧Q d1)∨(z=b∧Q d2)∨(z=c∧Q d3))
theorem Rv (n1:a≠b) (n2:a≠c) (n3:b≠c) (h1:DE X e1 t1) (h2:DE X e2 t2) (h3:DE X e3 t3) (hk:DE X key tk) (hs:vv key):
  DE X (.Subscript (.Dict [some (.Constant (.str a) j1 q1),some (.Constant (.str b) j2 q2),some (.Constant (.str c) j3 q3)] [e1,e2,e3] dp) key pos) (dD3 a b c t1 t2 t3 tk):=by
 obtain ⟨s1,p1,l1⟩:=h1
 obtain ⟨s2,p2,l2⟩:=h2
 obtain ⟨s3,p3,l3⟩:=h3
 obtain ⟨sk,pk,lk⟩:=hk
 refine ⟨_,tU Rg (SB n1 n2 n3 p1 p2 p3) pk hs,fun ρ σ W Q r h R k p hp=>?_⟩
 have g0:=W.sub.free hp
 have le0:=yc hp (.ext (xy X.prog X.w p []))
 refine l1 ρ σ (W.mine p (.ext (xy X.prog X.w p [])) g0) _ (r.mono le0) h _ fun d1 v1 W1 w1 i1 h=>l2 ρ σ W1 _ ((r.mono le0).mono w1) h _ fun d2 v2 W2 w2 i2 h=>l3 ρ σ W2 _ (((r.mono le0).mono w1).mono w2) h _ fun d3 v3 W3 w3 i3 h=>?_
 have w:=(w1.trans w2).trans w3
 have hp3:W3.h p=some (.ext (xy X.prog X.w p [])):=w.h _ _ zi
 have hg3:W3.g p=none:=w.n p (by show upd _ _ _ p≠none; rw [zi]; intro z; cases z) g0
 refine ⟨hp3,fun r1 r2 r3 f1 f2 f3=>?_⟩
 have le:=oy (o':=.ext (xy X.prog X.w p [(a,r1),(b,r2),(c,r3)])) hp w hg3
 refine lk ρ σ (W3.mine p (.ext (xy X.prog X.w p [(a,r1),(b,r2),(c,r3)])) hg3) _ (r.mono le) h _ fun d y W4 w4 i4 ⟨z,ez,hz⟩=>?_
 subst ez
 obtain rfl:=is_str.mp i4
 have hp4:W4.h p=some (.ext (xy X.prog X.w p [(a,r1),(b,r2),(c,r3)])):=w4.h _ _ zi
 have sg:Same W3.g W4.g:=w4.g
 rcases hz with ⟨rfl,q⟩ | ⟨rfl,q⟩ | ⟨rfl,q⟩
 ·exact ⟨p,_,z,v1,rfl,rfl,hp4,⟨r1,by simp [valueAt],f1⟩,k d1 v1 W4 (le.trans w4) (Is.mono0 sg (i1.mono (w2.trans w3))) q⟩
 ·exact ⟨p,_,z,v2,rfl,rfl,hp4,⟨r2,by simp [valueAt,n1],f2⟩,k d2 v2 W4 (le.trans w4) (Is.mono0 sg (i2.mono w3)) q⟩
 ·exact ⟨p,_,z,v3,rfl,rfl,hp4,⟨r3,by simp [valueAt,n2,n3],f3⟩,k d3 v3 W4 (le.trans w4) (Is.mono0 sg i3) q⟩
end
end OD
namespace My
open PySem L2 OD
local macro_rules | `(tactic| walk_at "sc") => `(tactic| exact ⟨rfl, rfl, rfl, by decide +kernel, rfl, by decide +kernel, by decide +kernel⟩)
local macro_rules | `(tactic| walk_at "ln") => `(tactic| (intros; rename_i h; repeat (first | (obtain ⟨e, _⟩ := h; subst e; rfl) | obtain ⟨_, h⟩ := h)))
local macro_rules | `(tactic| walk_at "rd1") => `(tactic| first | refine ⟨_, rfl, ?_⟩ | refine ⟨_, _, rfl, rfl, ?_⟩ | refine ⟨_, _, _, _, rfl, rfl, rfl, ?_⟩ | refine ⟨_, _, _, rfl, rfl, rfl, ?_⟩ | refine QK ?_ | refine QL ?_ | refine ⟨rfl, rfl, ?_⟩ | refine ⟨rfl, ?_⟩ | refine ⟨cr (by decide), ?_⟩ | refine ⟨n4 (by decide), ?_⟩ | refine ⟨R3 (by decide), ?_⟩ | refine ⟨Tg (by decide), ?_⟩ | refine ⟨om (by decide), ?_⟩ | refine ⟨_, _, rfl, ?_⟩)
local macro_rules | `(tactic| walk_at "rd") => `(tactic| repeat (walk_at "rd1"))
theorem ifT {b:Bool} {A B:Prop} (e:b=true) (h:A):if b=true then A else B:=by rw [if_pos e]; exact h
theorem ifF {b:Bool} {A B:Prop} (e:b=false) (h:B):if b=true then A else B:=by rw [if_neg (by rw [e]; exact Bool.false_ne_true)]; exact h
theorem ifB {b:Bool} {A B:Prop} (h1:b=true→A) (h2:b=false→B):if b=true then A else B:=by
 cases b with
 | true=>exact ifT rfl (h1 rfl)
 | false=>exact ifF rfl (h2 rfl)
theorem eqI {a b:Int} (h:a=b):eqD (.int a) (.int b)=true:=by rw [y6]; exact beq_iff_eq.mpr h
theorem neI {a b:Int} (h:a≠b):eqD (.int a) (.int b)=false:=by rw [y6]; exact beq_eq_false_iff_ne.mpr h
theorem i8 {a b:Int} (h:eqD (.int a) (.int b)=true):a=b:=by rw [y6] at h; exact beq_iff_eq.mp h
theorem i7 {a b:Int} (h:eqD (.int a) (.int b)=false):a≠b:=by rw [y6] at h; exact beq_eq_false_iff_ne.mp h
theorem nT {b:Bool} (h:b=true):(!b)=false:=by rw [h]; rfl
theorem nF {b:Bool} (h:b=false):(!b)=true:=by rw [h]; rfl
theorem XW {b:Bool} (h:(!b)=true):b=false:=by cases b <;> first | rfl | cases h
theorem XX {b:Bool} (h:(!b)=false):b=true:=by cases b <;> first | rfl | cases h
def zB (ns:List Int):Dt:=.lst (ns.map Dt.int)
def trim (ns:List Int):List Int:=(ns.reverse.dropWhile (· == 0)).reverse
def cM:DSp:=fun ds Q=>∃ ns k,ds=[.scr ns,.int k]∧0≤k∧∀ z:Int,Q (.int z)
def kG:DSp:=fun ds Q=>∃ ns:List Int,ds=[.scr ns]∧ns.length≤63∧Q (.bl true)
theorem oN {xs:List Int} {k:Int} (h0:0≤k) (h:k<xs.length):atI (xs.map Dt.int) k=some (.int (xs.getD k.toNat 0)):=by
 have e:((k.toNat:Nat):Int)=k:=Int.toNat_of_nonneg h0
 have hl:k.toNat<xs.length:=by omega
 have:=wC (j:=k.toNat) (xs:=xs.map Dt.int) (v:=.int (xs.getD k.toNat 0)) (by
  rw [List.getElem?_map,List.getElem?_eq_getElem hl,List.getD_eq_getElem?_getD,List.getElem?_eq_getElem hl]
  rfl)
 rwa [e] at this
theorem iD {ns:List Int} {i:Nat} (h:i<ns.length):atI (ns.map Dt.int) (i:Int)=some (.int (ns.getD i 0)):=by
 refine wC ?_
 rw [List.getElem?_map,List.getElem?_eq_getElem h,List.getD_eq_getElem?_getD,List.getElem?_eq_getElem h]
 rfl
theorem nJ {n:Nat} (h:0<n):ixN n (-1)=some (n - 1):=by
 unfold ixN
 rw [if_neg (by decide),if_pos (by omega)]
 congr 1
 omega
theorem atI_last {xs:List Int} {z:Int}:atI ((xs++[z]).map Dt.int) (-1)=some (.int z):=by
 unfold atI
 rw [nJ (by rw [List.length_map,List.length_append]; exact Nat.succ_pos _)]
 show ((xs++[z]).map Dt.int)[((xs++[z]).map Dt.int).length - 1]? = _
 rw [List.length_map,List.length_append,List.map_append,List.getElem?_append_right (by rw [List.length_map]; exact Nat.le_of_eq (Nat.add_sub_cancel ..).symm)]
 rw [List.length_map,show xs.length+[z].length - 1 - xs.length=0 by simp]
 rfl
theorem T7 {ns:List Int} {n:Nat}:(ns.map Dt.int).all (okE n)=true:=by
 rw [List.all_eq_true]
 intro x hx
 obtain ⟨z,_,e⟩:=List.mem_map.mp hx
 subst e
 cases n <;> rfl
theorem l6 (ns:List Int):okE 40 (zB ns)=true:=T7 (n:=39)
theorem eU {ns:List Int} {e:Dt} (h:e∈ns.map Dt.int):∃ z,e=.int z:=by
 obtain ⟨z,_,q⟩:=List.mem_map.mp h
 exact ⟨z,q.symm⟩
theorem dF {ns:List Int} {i:Nat} {x:Dt} (h:(ns.map Dt.int)[i]? = some x):x=.int (ns.getD i 0)∧i<ns.length:=by
 rw [List.getElem?_map] at h
 cases q:ns[i]? with
 | none=>rw [q] at h; cases h
 | some z=>
  rw [q] at h
  have hl:i<ns.length:=by
   rcases Nat.lt_or_ge i ns.length with h | h
   ·exact h
   ·rw [List.getElem?_eq_none h] at q; cases q
  rw [List.getD_eq_getElem?_getD,q]
  exact ⟨(Option.some.inj h).symm,hl⟩
theorem xV (k:Nat) (z:Int):(List.replicate k [Dt.int z]).flatten=(List.replicate k z).map Dt.int:=by
 induction k with
 | zero=>rfl
 | succ k ih=>rw [List.replicate_succ,List.flatten_cons,ih]; rfl
theorem n5 (xs:List Int) (z:Int):xs.map Dt.int++[.int z]=(xs++[z]).map Dt.int:=by rw [List.map_append]; rfl
theorem pj (xs:List Int):(xs.map Dt.int).dropLast=xs.dropLast.map Dt.int:=by rw [List.map_dropLast]
theorem xu (xs:List Int):(xs.map Dt.int).length=xs.length:=List.length_map _
theorem o1:trim []=[]:=rfl
theorem xS (xs:List Int):trim (xs++[0])=trim xs:=by
 unfold trim
 rw [List.reverse_append]
 rfl
theorem sK {xs:List Int} {z:Int} (h:z≠0):trim (xs++[z])=xs++[z]:=by
 unfold trim
 rw [List.reverse_append]
 show (List.dropWhile _ (z::xs.reverse)).reverse=_
 rw [List.dropWhile_cons,if_neg (by simpa using h),List.reverse_cons,List.reverse_reverse]
theorem zO (xs:List Int):xs=[]∨∃ l z,xs=l++[z]:=by
 rcases List.eq_nil_or_concat xs with h | ⟨l,z,h⟩
 ·exact .inl h
 ·exact .inr ⟨l,z,by rw [h,List.concat_eq_append]⟩
theorem rb (xs:List Int):(trim xs).length≤xs.length:=by
 unfold trim
 rw [List.length_reverse]
 refine Nat.le_trans (List.dropWhile_sublist _).length_le ?_
 rw [List.length_reverse]
 exact Nat.le_refl _
theorem s_ {i:Nat} {D:uM} {ρ:DS} {ms:List Int} (hi:ρ[i]? = some (.own (ms.map Dt.int))) (q:D.nx (ρ.set i (.own ((trim ms).map Dt.int)))):
  lw (T4 (qm (dOp (gI fun i j=>Dt.bl (decide (j<i))) (Wb i) (dC (Dt.int 0)))) (qm (dOp gEq (T0 i (TX (dC (Dt.int 1)))) (dC (Dt.int 0))))) (TR i) D ρ:=by
 have hl:i<ρ.length:=by
  rcases Nat.lt_or_ge i ρ.length with h | h
  ·exact h
  ·rw [List.getElem?_eq_none h] at hi; cases hi
 refine ⟨fun m ρ'=>∃ l:List Int,ρ'=ρ.set i (.own (l.map Dt.int))∧l.length=m∧trim l=trim ms,⟨_,ms,?_,rfl,rfl⟩,?_⟩
 ·apply List.ext_getElem?
  intro j
  by_cases hj:i=j
  ·subst hj; rw [List.getElem?_set_self hl]; exact hi
  ·rw [List.getElem?_set_ne hj]
 ·rintro m ρ' ⟨l,rfl,rfl,ht⟩
  have hg:(ρ.set i (.own (l.map Dt.int)))[i]? = some (.own (l.map Dt.int)):=List.getElem?_set_self hl
  refine ⟨_,hg,_,_,rfl,rfl,_,rfl,?_⟩
  rcases zO l with rfl | ⟨l',z,rfl⟩
  ·refine ifF rfl (ifF rfl ?_)
   rw [← ht,o1] at q
   exact q
  ·refine ifT (by rw [decide_eq_true_iff,List.length_map,List.length_append]; simp) ?_
   refine ⟨_,hg,_,rfl,_,_,rfl,atI_last,rfl,rfl,_,rfl,?_⟩
   by_cases hz:z=0
   ·refine ifT (eqI hz) ?_
    subst hz
    refine ⟨_,hg,by simp,l'.length,by rw [List.length_append]; exact Nat.lt_succ_self _,l',?_,rfl,?_⟩
    ·rw [pj,List.dropLast_concat,List.set_set]
    ·rw [← ht,xS]
   ·refine ifF (neI hz) ?_
    rw [← ht,sK hz] at q
    exact q
theorem oY {i:Nat} {D:uM} {ρ:DS} {ms:List Int} (hi:ρ[i]? = some (.own (ms.map Dt.int))) (q:D.nx (ρ.set i (.own ((trim ms).map Dt.int)))):
  lw (T4 (X_ i) (qm (dOp gEq (T0 i (TX (dC (Dt.int 1)))) (dC (Dt.int 0))))) (TR i) D ρ:=by
 have hl:i<ρ.length:=by
  rcases Nat.lt_or_ge i ρ.length with h | h
  ·exact h
  ·rw [List.getElem?_eq_none h] at hi; cases hi
 refine ⟨fun m ρ'=>∃ l:List Int,ρ'=ρ.set i (.own (l.map Dt.int))∧l.length=m∧trim l=trim ms,⟨_,ms,?_,rfl,rfl⟩,?_⟩
 ·apply List.ext_getElem?
  intro j
  by_cases hj:i=j
  ·subst hj; rw [List.getElem?_set_self hl]; exact hi
  ·rw [List.getElem?_set_ne hj]
 ·rintro m ρ' ⟨l,rfl,rfl,ht⟩
  have hg:(ρ.set i (.own (l.map Dt.int)))[i]? = some (.own (l.map Dt.int)):=List.getElem?_set_self hl
  refine ⟨_,hg,?_⟩
  rcases zO l with rfl | ⟨l',z,rfl⟩
  ·refine ifF rfl (ifF rfl ?_)
   rw [← ht,o1] at q
   exact q
  ·refine ifT (by simp) ?_
   refine ⟨_,hg,_,rfl,_,_,rfl,atI_last,rfl,rfl,_,rfl,?_⟩
   by_cases hz:z=0
   ·refine ifT (eqI hz) ?_
    subst hz
    refine ⟨_,hg,by simp,l'.length,by rw [List.length_append]; exact Nat.lt_succ_self _,l',?_,rfl,?_⟩
    ·rw [pj,List.dropLast_concat,List.set_set]
    ·rw [← ht,xS]
   ·refine ifF (neI hz) ?_
    rw [← ht,sK hz] at q
    exact q
inductive Kd where | plain | below | balanced | growing | falling | pairs
def Kd.num:Kd→Int
 | .plain=>0 | .below=>1 | .balanced=>2 | .growing=>3 | .falling=>4 | .pairs=>5
def Kd.fld:Kd→Str
 | .plain=>"base" | .below=>"base" | .balanced=>"half" | .growing=>"first" | .falling=>"most" | .pairs=>"most"
def Kd.lo:Kd→Int
 | .plain=>2 | .below=>2 | .balanced=>1 | .growing=>2 | .falling=>1 | .pairs=>1
def Kd.hi:Kd→Int
 | .plain=>60 | .below=>60 | .balanced=>30 | .growing=>60 | .falling=>9 | .pairs=>9
def Kd.ok (k:Kd) (n:Int):Prop:=k.lo≤n∧n≤k.hi
def whole:Dt→Option Bool
 | .int _=>some true
 | .bl _=>some false
 | .tup _=>some false
 | .lst _=>some false
 | _=>none
def y9:DSp:=fun ds Q=>∃ d b,ds=[d]∧whole d=some b∧Q (.bl b)
def wa:DSp:=fun ds Q=>∃ n lo hi,ds=[.int n,.int lo,.int hi]∧lo≤n∧n≤hi∧Q (.int n)
inductive Nm where | i (n:Int) | p (a b:Int)
deriving DecidableEq
def Nm.dt:Nm→Dt
 | .i n=>.int n
 | .p a b=>.tup [.int a,.int b]
def Nm.re:Nm→Int
 | .i n=>n
 | .p a _=>a
def Nm.im:Nm→Int
 | .i _=>0
 | .p _ b=>b
def Nm.mul:Nm→Nm→Nm
 | .i a,.i b=>.i (a*b)
 | m,n=>.p (m.re*n.re - m.im*n.im) (m.re*n.im+m.im*n.re)
def Nm.mulOk (m n:Nm):Prop:=IntMulOk m.re n.re∧IntMulOk m.im n.im∧IntMulOk m.re n.im∧IntMulOk m.im n.re
def rK:Dt→Option Nm
 | .int a=>some (.i a)
 | .tup [.int a,.int b]=>some (.p a b)
 | _=>none
def vq:DSp:=fun ds Q=>∃ d m,ds=[d]∧rK d=some m∧Q (.tup [.int m.re,.int m.im])
def lG:DSp:=fun ds Q=>∃ d e m n,ds=[d,e]∧rK d=some m∧rK e=some n∧m.mulOk n∧Q (m.mul n).dt
theorem yN {d:Dt} {m:Nm} (h:rK d=some m):d=m.dt:=by
 unfold rK at h
 split at h
 ·cases h; rfl
 ·cases h; rfl
 ·cases h
theorem yE (m:Nm):rK m.dt=some m:=by cases m <;> rfl
theorem tD (m:Nm):okE 40 m.dt=true:=by cases m <;> rfl
theorem small {n:Int} (h0:-1000000≤n) (h1:n≤1000000) (c:Int):IntMulOk c n:=Tg (by rw [decide_eq_true_iff]; omega)
theorem rd {n:Int} (h0:-1000000≤n) (h1:n≤1000000) (c:Int):IntMulOk n c:=om (by rw [decide_eq_true_iff]; omega)
def Kd.four:Kd→Bool
 | .plain=>true | .below=>true | .balanced=>true | .growing=>true | _=>false
def Kd.five:Kd→Bool
 | .falling=>false | _=>true
def Kd.low:Kd→Int→Int→Int
 | .balanced,n,_=>-n
 | _,_,_=>0
def Kd.high:Kd→Int→Int→Int
 | .plain,n,_=>n - 1
 | .below,n,_=>n - 1
 | .balanced,n,_=>n
 | .growing,n,p=>n+p - 1
 | .falling,n,_=>n
 | .pairs,n,_=>n*n
def Kd.rat:Kd→Int→Int→Int
 | .plain,n,_=>n
 | .below,n,_=>-n
 | .balanced,n,_=>2*n+1
 | .growing,n,p=>n+p
 | _,_,_=>0
def Kd.ratN:Kd→Int→Int→Nm
 | .pairs,n,_=>.p (-n) 1
 | k,n,p=>.i (k.rat n p)
def Nm.add:Nm→Nm→Nm
 | .i a,.i b=>.i (a+b)
 | m,n=>.p (m.re+n.re) (m.im+n.im)
def sW:DSp:=fun ds Q=>∃ d e m n,ds=[d,e]∧rK d=some m∧rK e=some n∧Q (m.add n).dt
def Kd.zero:Kd→Nm
 | .pairs=>.p 0 0
 | _=>.i 0
def wtF (n:Int):Nat→Int × Int
 | 0=>(1,1)
 | j+1=>((wtF n j).2,n*(wtF n j).2+(wtF n j).1)
def wtR (k:Kd) (n:Int):Nat→Nm
 | 0=>k.zero.add (.i 1)
 | j+1=>(k.ratN n j).mul (wtR k n j)
def wt:Kd→Int→Nat→Nm
 | .falling,n,j=>.i (wtF n j).2
 | k,n,j=>wtR k n j
theorem tV {k:Kd} {n:Int} (h:k.ok n):1≤n∧n≤60:=by
 obtain ⟨h1,h2⟩:=h
 cases k <;> simp only [Kd.lo,Kd.hi] at * <;> omega
def uO (k:Kd) (n:Int) (ns:List Int):Nat→Nm
 | 0=>k.zero
 | j+1=>(uO k n ns j).add ((Nm.i (ns.getD j 0)).mul (wt k n j))
theorem ba {ns:List Int} {i:Nat} {x:Dt} (h:(ns.map Dt.int)[i]? = some x):x=.int (ns.getD i 0)∧i<ns.length:=by
 rw [List.getElem?_map] at h
 cases q:ns[i]? with
 | none=>rw [q] at h; cases h
 | some z=>
  rw [q] at h
  have hl:i<ns.length:=by
   rcases Nat.lt_or_ge i ns.length with h | h
   ·exact h
   ·rw [List.getElem?_eq_none h] at q; cases q
  rw [List.getD_eq_getElem?_getD,q]
  exact ⟨(Option.some.inj h).symm,hl⟩
theorem Wj {n:Int} (h1:1≤n) (h2:n≤60):∀ j:Nat,(wtF n j).1.natAbs<2 ^ (12*j+1)∧(wtF n j).2.natAbs<2 ^ (12*j+1)
 | 0=>⟨(by decide:(1:Int).natAbs<2 ^ 1),(by decide:(1:Int).natAbs<2 ^ 1)⟩
 | j+1=>by
  obtain ⟨a,b⟩:=Wj h1 h2 j
  have pw:2 ^ (12*(j+1)+1)=2 ^ (12*j+1)*4096:=by rw [show 12*(j+1)+1=(12*j+1)+12 by omega,Nat.pow_add]
  rw [pw]
  unfold wtF
  dsimp only
  generalize 2 ^ (12 * j + 1)=B at *
  have hm:(n*(wtF n j).2).natAbs≤60*(wtF n j).2.natAbs:=by
   rw [Int.natAbs_mul]
   exact Nat.mul_le_mul_right _ (by omega)
  have hs:=Int.natAbs_add_le (n*(wtF n j).2) (wtF n j).1
  exact ⟨by omega,by omega⟩
theorem wt4 {k:Kd} {n:Int} (h:k.four=true):∀ j,∃ w,wtR k n j=.i w
 | 0=>by cases k <;> cases h <;> exact ⟨_,rfl⟩
 | j+1=>by
  obtain ⟨w,e⟩:=wt4 (n:=n) h j
  unfold wtR
  rw [e]
  cases k <;> cases h <;> exact ⟨_,rfl⟩
theorem wt2 {n:Int}:∀ j,∃ x y,wtR .pairs n j=.p x y
 | 0=>⟨_,_,rfl⟩
 | j+1=>by
  obtain ⟨x,y,e⟩:=wt2 (n:=n) j
  unfold wtR
  rw [e]
  exact ⟨_,_,rfl⟩
theorem wtI {k:Kd} {n:Int} (h:k≠.pairs) (j:Nat):∃ w,wt k n j=.i w:=by
 cases k with
 | pairs=>exact absurd rfl h
 | falling=>exact ⟨_,rfl⟩
 | _=>exact wt4 rfl _
def sF (k:Kd) (n:Int) (j:Nat) (t:Nm):Int:=match k with
 | .pairs=>(t.re+n*t.im).fmod (n*n+1)
 | k=>k.low n j+(t.re - k.low n j).fmod (k.high n j - k.low n j+1)
def sC (k:Kd) (n:Int) (j:Nat) (t:Nm):Nm:=match k with
 | .pairs=>.p (((t.re - sF .pairs n j t)*(-n) - t.im*(-1)).fdiv (n*n+1)) (((t.re - sF .pairs n j t)*(-1)+t.im*(-n)).fdiv (n*n+1))
 | k=>.i ((t.re - sF k n j t).fdiv (k.rat n j))
def Nm.ty (k:Kd) (m:Nm):Prop:=match k with
 | .pairs=>∃ a b,m=.p a b
 | _=>∃ a,m=.i a
def tot (k:Kd) (m:Nm):Prop:=k≠.pairs→∃ a,m=.i a
def cAt (k:Kd) (n:Int) (ts:List Nm):Nat→Nm
 | 0=>k.zero
 | j+1=>sC k n j ((cAt k n ts j).add (ts.getD j (.i 0)))
def fAt (k:Kd) (n:Int) (ts:List Nm) (j:Nat):Int:=sF k n j ((cAt k n ts j).add (ts.getD j (.i 0)))
def yd (k:Kd) (n:Int) (ts:List Nm) (j:Nat):List Int:=(List.range j).map (fAt k n ts)
def crs (k:Kd) (n:Int) (ts:List Nm) (j:Nat):List Nm:=(List.range j).map (cAt k n ts)
def yw:Kd→Nm→Bool
 | .below,.i _=>true
 | .balanced,.i _=>true
 | .pairs,.p _ _=>true
 | .pairs,.i _=>false
 | _,.i a=>decide (0≤a)
 | _,.p _ _=>false
structure Fin (k:Kd) (n:Int) (ts:List Nm) (J:Nat):Prop where
 le:ts.length≤J
 z:cAt k n ts J=k.zero
 nz:∀ j,ts.length≤j→j<J→cAt k n ts j≠k.zero∧yw k (cAt k n ts j)=true
def wN (k:Kd) (n:Int) (ts:List Nm):Nat→Nm
 | 0=>k.zero
 | j+1=>(wN k n ts j).add ((ts.getD j (.i 0)).mul (wt k n j))
def wF (k:Kd) (n:Int) (f:Nat→Int):Nat→Nm
 | 0=>k.zero
 | j+1=>(wF k n f j).add ((Nm.i (f j)).mul (wt k n j))
theorem yi (m n:Nm):(m.add n).re=m.re + n.re:=by cases m <;> cases n <;> simp [Nm.add,Nm.re]
theorem yK (m n:Nm):(m.add n).im=m.im + n.im:=by cases m <;> cases n <;> simp [Nm.add,Nm.im]
theorem zM (r w:Nm):(r.mul w).re=r.re * w.re - r.im * w.im:=by cases r <;> cases w <;> simp [Nm.mul,Nm.re,Nm.im]
theorem zX (r w:Nm):(r.mul w).im=r.re * w.im + r.im * w.re:=by cases r <;> cases w <;> simp [Nm.mul,Nm.re,Nm.im]
theorem xI {k:Kd} {m:Nm} (h:k≠.pairs) (t:m.ty k):∃ a,m=.i a:=by
 cases k <;> first | exact t | exact absurd rfl h
theorem ub {k:Kd} {a:Int} (h:k≠.pairs):(Nm.i a).ty k:=by
 cases k <;> first | exact ⟨_,rfl⟩ | exact absurd rfl h
theorem yb (k:Kd):(k.zero).ty k:=by cases k <;> first | exact ⟨_,rfl⟩ | exact ⟨_,_,rfl⟩
theorem yr (k:Kd):(k.zero).re=0:=by cases k <;> rfl
theorem yL (k:Kd):(k.zero).im=0:=by cases k <;> rfl
theorem rM {k:Kd} {m m':Nm} (t:m.ty k) (t':m'.ty k) (h1:m.re=m'.re) (h2:m.im=m'.im):m=m':=by
 by_cases hk:k=.pairs
 ·subst hk
  obtain ⟨a,b,rfl⟩:=t
  obtain ⟨a',b',rfl⟩:=t'
  simp only [Nm.re,Nm.im] at h1 h2
  rw [h1,h2]
 ·obtain ⟨a,rfl⟩:=xI hk t
  obtain ⟨a',rfl⟩:=xI hk t'
  simp only [Nm.re] at h1
  rw [h1]
theorem o7 (k:Kd) (n:Int) (j:Nat) (t:Nm):(sC k n j t).ty k:=by
 cases k <;> first | exact ⟨_,rfl⟩ | exact ⟨_,_,rfl⟩
theorem ya (k:Kd) (n:Int) (ts:List Nm):∀ j,(cAt k n ts j).ty k
 | 0=>yb k
 | j+1=>o7 k n j _
theorem xA {k:Kd} {c t:Nm} (h:c.ty k) (h':tot k t):(c.add t).ty k:=by
 by_cases hk:k=.pairs
 ·subst hk
  obtain ⟨a,b,rfl⟩:=h
  cases t <;> exact ⟨_,_,rfl⟩
 ·obtain ⟨a,rfl⟩:=xI hk h
  obtain ⟨b,rfl⟩:=h' hk
  exact ub hk
theorem xb {k:Kd} {ts:List Nm} (h:∀ t∈ts,tot k t) (j:Nat):tot k (ts.getD j (.i 0)):=by
 rw [List.getD_eq_getElem?_getD]
 cases q:ts[j]? with
 | none=>exact fun _=>⟨0,rfl⟩
 | some t=>exact h t (List.mem_of_getElem? q)
theorem kO {lo t n:Int} (hn:0<n):lo≤lo+(t - lo).fmod n∧lo+(t - lo).fmod n≤lo+n - 1∧(lo+(t - lo).fmod n)+((t - (lo+(t - lo).fmod n)).fdiv n)*n=t:=by
 have h0:=Int.fmod_nonneg_of_pos (t - lo) hn
 have h1:=Int.fmod_lt_of_pos (t - lo) hn
 have e:t - (lo+(t - lo).fmod n)=n*(t - lo).fdiv n:=by
  have:=Int.fmod_def (t - lo) n
  omega
 refine ⟨by omega,by omega,?_⟩
 have d:(t - (lo+(t - lo).fmod n)).fdiv n=(t - lo).fdiv n:=by
  rw [e]
  exact Int.mul_fdiv_cancel_left _ (by omega)
 rw [d,Int.mul_comm]
 omega
theorem kP {lo t n:Int} (hn:0<n):lo≤lo+(t - lo).fmod n∧lo+(t - lo).fmod n≤lo+n - 1∧(lo+(t - lo).fmod n)+((t - (lo+(t - lo).fmod n)).fdiv (-n))*(-n)=t:=by
 have h0:=Int.fmod_nonneg_of_pos (t - lo) hn
 have h1:=Int.fmod_lt_of_pos (t - lo) hn
 have e:t - (lo+(t - lo).fmod n)=(-n)*(-((t - lo).fdiv n)):=by
  have:=Int.fmod_def (t - lo) n
  rw [Int.neg_mul_neg]
  omega
 refine ⟨by omega,by omega,?_⟩
 have d:(t - (lo+(t - lo).fmod n)).fdiv (-n)=-((t - lo).fdiv n):=by
  rw [e]
  exact Int.mul_fdiv_cancel_left _ (by omega)
 rw [d,Int.neg_mul_neg,Int.mul_comm]
 have:=Int.fmod_def (t - lo) n
 omega
theorem rc {a b m:Int} (N:Int) (hN:N=m*m+1) (f:Int) (hf:f=(a+m*b).fmod N) (t0 t1:Int) (h0:t0=(a - f)*(-m) - b*(-1)) (h1:t1=(a - f)*(-1)+b*(-m)):
  0≤f∧f≤m*m∧f - m*(t0.fdiv N) - t1.fdiv N=a∧t0.fdiv N - m*(t1.fdiv N)=b:=by
 have sq:0≤m*m:=by
  rcases Int.le_total 0 m with h | h
  ·exact Int.mul_nonneg h h
  ·exact Int.mul_nonneg_of_nonpos_of_nonpos h h
 have hp:0<N:=by omega
 have g0:=Int.fmod_nonneg_of_pos (a+m*b) hp
 have g1:=Int.fmod_lt_of_pos (a+m*b) hp
 have e:=Int.fmod_def (a+m*b) N
 rw [← hf] at e g0 g1
 generalize (a+m*b).fdiv N=q at e
 have e0:t0=N*(b - m*q):=by subst hN; grind
 have e1:t1=N*(-q):=by subst hN; grind
 have d0:t0.fdiv N=b - m*q:=by rw [e0]; exact Int.mul_fdiv_cancel_left _ (by omega)
 have d1:t1.fdiv N=-q:=by rw [e1]; exact Int.mul_fdiv_cancel_left _ (by omega)
 rw [d0,d1]
 refine ⟨g0,by omega,?_,?_⟩ <;> subst hN <;> grind
def Kd.size:Kd→Int→Int→Int
 | .plain,n,_=>n
 | .below,n,_=>n
 | .balanced,n,_=>2*n+1
 | .growing,n,p=>n+p
 | _,_,_=>0
theorem sO {k:Kd} (h5:k.five=true) (hk:k≠.pairs):k.four=true:=by
 cases k <;> first | rfl | exact absurd rfl hk | cases h5
theorem pN {k:Kd} (h:k.four=true) (n p:Int):k.high n p - k.low n p+1=k.size n p∧(k.rat n p=k.size n p∨k.rat n p=-(k.size n p)):=by
 cases k <;> cases h <;> simp only [Kd.high,Kd.low,Kd.size,Kd.rat] <;> refine ⟨by omega,?_⟩ <;> first | exact .inl rfl | exact .inr rfl | exact .inr trivial | exact .inl trivial
theorem rg {k:Kd} {n:Int} (h:k.four=true) (hn:k.ok n) (j:Nat):2≤k.size n j:=by
 obtain ⟨h1,h2⟩:=hn
 cases k <;> cases h <;> simp only [Kd.lo,Kd.hi,Kd.size] at * <;> omega
theorem xc {k:Kd} {n:Int} {j:Nat} {t:Nm} (h5:k.five=true) (hn:k.ok n) (ht:t.ty k):
  k.low n j≤sF k n j t∧sF k n j t≤k.high n j∧t.re=sF k n j t+((k.ratN n j).mul (sC k n j t)).re∧t.im=((k.ratN n j).mul (sC k n j t)).im:=by
 by_cases hk:k=.pairs
 ·subst hk
  obtain ⟨g1,g2,g3,g4⟩:=rc (a:=t.re) (b:=t.im) (m:=n) (n*n+1) rfl _ rfl _ _ rfl rfl
  refine ⟨g1,g2,?_,?_⟩
  ·rw [zM]
   show t.re=_+(-n*_ - 1*_)
   unfold sC sF Nm.re Nm.im at *
   dsimp only at *
   grind
  ·rw [zX]
   show t.im=(-n*_+1*_)
   unfold sC sF Nm.re Nm.im at *
   dsimp only at *
   grind
 ·have h4:=sO h5 hk
  obtain ⟨e1,e2⟩:=pN h4 n j
  have hp:=rg h4 hn j
  obtain ⟨a,rfl⟩:=xI hk ht
  have eF:sF k n j (.i a)=k.low n j + (a - k.low n j).fmod (k.size n j):=by rw [← e1]; cases k <;> first | rfl | exact absurd rfl hk
  have eC:sC k n j (.i a)=.i ((a - sF k n j (.i a)).fdiv (k.rat n j)):=by cases k <;> first | rfl | exact absurd rfl hk
  have eR:k.ratN n j=.i (k.rat n j):=by cases k <;> first | rfl | exact absurd rfl hk
  have s1:=kO (lo:=k.low n j) (t:=a) (n:=k.size n j) (by omega)
  have s2:=kP (lo:=k.low n j) (t:=a) (n:=k.size n j) (by omega)
  rw [eC,eR,eF]
  refine ⟨s1.1,by have:=s1.2.1; omega,?_,rfl⟩
  show a=_+k.rat n j*_
  rw [Int.mul_comm (k.rat n j)]
  rcases e2 with e | e
  ·rw [e]; exact s1.2.2.symm
  ·rw [e]; exact s2.2.2.symm
theorem vd {k:Kd} {n:Int} (h5:k.five=true) (j:Nat):wt k n (j+1)=(k.ratN n j).mul (wt k n j):=by
 cases k <;> first | rfl | cases h5
theorem kL {T1 T2 F1 F2 w1 w2 c1 c2 t1 t2 f r1 r2 d1 d2:Int} (h1:T1=F1+(w1*c1 - w2*c2)) (h2:T2=F2+(w1*c2+w2*c1)) (s1:c1+t1=f+(r1*d1 - r2*d2)) (s2:c2+t2=r1*d2+r2*d1):
  T1+(t1*w1 - t2*w2)=F1+(f*w1 - 0*w2)+((r1*w1 - r2*w2)*d1 - (r1*w2+r2*w1)*d2)∧T2+(t1*w2+t2*w1)=F2+(f*w2+0*w1)+((r1*w1 - r2*w2)*d2+(r1*w2+r2*w1)*d1):=by
 have e1:c1=f+(r1*d1 - r2*d2) - t1:=by omega
 have e2:c2=r1*d2+r2*d1 - t2:=by omega
 subst e1 e2 h1 h2
 constructor <;> grind
theorem Wr {k:Kd} {n:Int} {ts:List Nm} (h5:k.five=true) (hn:k.ok n) (ht:∀ t∈ts,tot k t):∀ j,
  (wN k n ts j).re=(wF k n (fAt k n ts) j).re+((wt k n j).mul (cAt k n ts j)).re∧(wN k n ts j).im=(wF k n (fAt k n ts) j).im+((wt k n j).mul (cAt k n ts j)).im
 | 0=>by
  unfold wN wF cAt
  rw [zM,zX,yr,yL]
  constructor <;> grind
 | j+1=>by
  obtain ⟨i1,i2⟩:=Wr h5 hn ht j
  obtain ⟨_,_,s1,s2⟩:=xc (j:=j) h5 hn (xA (ya k n ts j) (xb ht j))
  have ec:cAt k n ts (j+1)=sC k n j ((cAt k n ts j).add (ts.getD j (.i 0))):=rfl
  have ef:fAt k n ts j=sF k n j ((cAt k n ts j).add (ts.getD j (.i 0))):=rfl
  rw [← ec,← ef] at s1
  rw [← ec] at s2
  rw [yi] at s1
  rw [yK] at s2
  have e1:(wN k n ts (j+1))=(wN k n ts j).add ((ts.getD j (.i 0)).mul (wt k n j)):=rfl
  have e2:(wF k n (fAt k n ts) (j+1))=(wF k n (fAt k n ts) j).add ((Nm.i (fAt k n ts j)).mul (wt k n j)):=rfl
  rw [e1,e2,vd h5]
  rw [zM] at s1
  rw [zX] at s2
  rw [zM] at i1
  rw [zX] at i2
  have R:=kL i1 i2 s1 s2
  simp only [zM,zX,yi,yK]
  exact R
theorem Wd {k:Kd} {c:Nm} (h:c.ty k):c.add (.i 0)=c:=by
 by_cases hk:k=.pairs
 ·subst hk
  obtain ⟨a,b,rfl⟩:=h
  show Nm.p (a+0) (b+0)=_
  rw [Int.add_zero,Int.add_zero]
 ·obtain ⟨a,rfl⟩:=xI hk h
  show Nm.i (a+0)=_
  rw [Int.add_zero]
theorem sU {k:Kd} {n:Int} {ts:List Nm} {j:Nat} (h:ts.length≤j):cAt k n ts (j+1)=sC k n j (cAt k n ts j):=by
 have e:ts.getD j (.i 0)=.i 0:=by rw [List.getD_eq_getElem?_getD,List.getElem?_eq_none h]; rfl
 show sC k n j ((cAt k n ts j).add (ts.getD j (.i 0)))=_
 rw [e,Wd (ya k n ts j)]
theorem nc {s t f a:Int} (hs:2≤s) (f1:0≤f) (f2:f≤s - 1) (q:t=f+s*a):2*a.natAbs≤t.natAbs+1∧(0≤t→0≤a)∧(t.natAbs≤1→0≤t→a=0):=by
 have hm:∀ x:Int,0≤x→2*x≤s*x:=fun x hx=>Int.mul_le_mul_of_nonneg_right hs hx
 have e2:s*(-a)=-(s*a):=Int.mul_neg ..
 have e3:s*(-a - 1)=-(s*a) - s:=by rw [Int.mul_sub,Int.mul_one,e2]
 rcases (by omega:0≤a∨a≤-1) with z | z
 ·have:=hm a z
  exact ⟨by omega,fun _=>z,fun _ _=>by omega⟩
 ·have:=hm (-a - 1) (by omega)
  exact ⟨by omega,fun _=>by omega,fun _ _=>by omega⟩
theorem o3 {k:Kd} {n:Int} {j:Nat} {t a:Int} (h4:k.four=true) (hn:k.ok n) (e:sC k n j (.i t)=.i a):
  2*a.natAbs≤t.natAbs+1∧(yw k (.i t)=true→yw k (.i a)=true)∧(t.natAbs≤1→yw k (.i t)=true→a=0∨(t=-1∧a=1)):=by
 have h5:k.five=true:=by cases k <;> first | rfl | cases h4
 have hk:k≠.pairs:=fun z=>by rw [z] at h4; cases h4
 obtain ⟨f1,f2,q,_⟩:=xc (j:=j) h5 hn (t:=.i t) (ub hk)
 rw [e,zM] at q
 have hs:=rg h4 hn j
 obtain ⟨h1,h2⟩:=hn
 generalize sF k n j (.i t)=f at *
 cases k with
 | falling=>cases h4
 | pairs=>cases h4
 | plain=>
  simp only [Kd.ratN,Kd.rat,Nm.re,Nm.im,Kd.low,Kd.high,Kd.size,yw,decide_eq_true_iff] at *
  obtain ⟨p1,p2,p3⟩:=nc (t:=t) (a:=a) hs f1 f2 (by omega)
  exact ⟨p1,p2,fun x y=>.inl (p3 x y)⟩
 | below=>
  simp only [Kd.ratN,Kd.rat,Nm.re,Nm.im,Kd.low,Kd.high,Kd.size,yw] at *
  have q':t=f - n*a:=by rw [q,Int.neg_mul]; omega
  have hm:∀ x:Int,0≤x→2*x≤n*x:=fun x hx=>Int.mul_le_mul_of_nonneg_right hs hx
  have e1:n*(a - 1)=n*a - n:=by rw [Int.mul_sub,Int.mul_one]
  have e2:n*(-a)=-(n*a):=Int.mul_neg ..
  have e3:n*(-a - 1)=-(n*a) - n:=by rw [Int.mul_sub,Int.mul_one,e2]
  refine ⟨?_,fun _=>trivial,fun h3 _=>?_⟩
  ·rcases (by omega:1≤a∨a=0∨a≤-1) with z | z | z
   ·have:=hm (a - 1) (by omega); omega
   ·omega
   ·have:=hm (-a) (by omega); omega
  ·rcases (by omega:2≤a∨a=1∨a=0∨a≤-1) with z | z | z | z
   ·have:=hm (a - 1) (by omega); omega
   ·subst z; omega
   ·exact .inl z
   ·have:=hm (-a) (by omega); omega
 | balanced=>
  simp only [Kd.ratN,Kd.rat,Nm.re,Nm.im,Kd.low,Kd.high,Kd.size,yw,Kd.lo] at *
  have q':t=f+2*(n*a)+a:=by rw [q,Int.add_mul,Int.mul_assoc]; omega
  have hm:∀ x:Int,0≤x→x≤n*x:=fun x hx=>by
   have:=Int.mul_le_mul_of_nonneg_right h1 hx
   omega
  have e1:n*(a - 1)=n*a - n:=by rw [Int.mul_sub,Int.mul_one]
  have e2:n*(-a)=-(n*a):=Int.mul_neg ..
  have e3:n*(-a - 1)=-(n*a) - n:=by rw [Int.mul_sub,Int.mul_one,e2]
  have key:2*a.natAbs≤t.natAbs:=by
   rcases (by omega:1≤a∨a=0∨a≤-1) with z | z | z
   ·have:=hm (a - 1) (by omega); have:=hm a (by omega); omega
   ·omega
   ·have:=hm (-a - 1) (by omega); have:=hm (-a) (by omega); omega
  exact ⟨by omega,fun _=>trivial,fun _ _=>.inl (by omega)⟩
 | growing=>
  simp only [Kd.ratN,Kd.rat,Nm.re,Nm.im,Kd.low,Kd.high,Kd.size,yw,decide_eq_true_iff] at *
  obtain ⟨p1,p2,p3⟩:=nc (t:=t) (a:=a) (s:=n+(j:Int)) hs f1 (by omega) (by omega)
  exact ⟨p1,p2,fun x y=>.inl (p3 x y)⟩
theorem XI {k:Kd} (h4:k.four=true):k.zero=.i 0:=by cases k <;> first | rfl | cases h4
theorem sC4 {k:Kd} {n:Int} {j:Nat} {t:Nm} (h4:k.four=true):∃ a,sC k n j t=.i a:=xI (fun z=>by rw [z] at h4; cases h4) (o7 k n j t)
theorem dQ {k:Kd} {n:Int} (h4:k.four=true) (hn:k.ok n):∀ (b:Nat) (j:Nat) (c:Nat→Nm) (t:Int),c 0=.i t→(∀ i,c (i+1)=sC k n (j+i) (c i))→yw k (.i t)=true→t.natAbs≤2 ^ b→∃ m,m≤b+2∧c m=k.zero
 | 0,j,c,t,h0,hc,hh,hb=>by
  obtain ⟨a,ea⟩:=sC4 (n:=n) (j:=j) (t:=.i t) h4
  have e1:c 1=.i a:=by rw [hc 0,h0]; exact ea
  obtain ⟨_,s2,s3⟩:=o3 h4 hn ea
  rcases s3 hb hh with z | ⟨_,z⟩
  ·exact ⟨1,by omega,by rw [e1,z,XI h4]⟩
  ·obtain ⟨a2,ea2⟩:=sC4 (n:=n) (j:=j+1) (t:=.i a) h4
   have e2:c 2=.i a2:=by rw [hc 1,e1]; exact ea2
   obtain ⟨_,_,s5⟩:=o3 h4 hn ea2
   rcases s5 (by omega) (s2 hh) with y | ⟨y,_⟩
   ·exact ⟨2,by omega,by rw [e2,y,XI h4]⟩
   ·omega
 | b+1,j,c,t,h0,hc,hh,hb=>by
  obtain ⟨a,ea⟩:=sC4 (n:=n) (j:=j) (t:=.i t) h4
  have e1:c 1=.i a:=by rw [hc 0,h0]; exact ea
  obtain ⟨s1,s2,_⟩:=o3 h4 hn ea
  have hp:2 ^ (b+1)=2*2 ^ b:=by rw [Nat.pow_succ]; omega
  obtain ⟨m,hm,e⟩:=dQ h4 hn b (j+1) (fun i=>c (i+1)) a e1 (fun i=>by rw [hc (i+1),show j+(i+1)=j+1+i by omega]) (s2 hh) (by omega)
  exact ⟨m+1,by omega,e⟩
theorem rh {k:Kd} {n:Int} (h4:k.four=true) (hn:k.ok n) {j:Nat} {c:Nat→Nm} {t:Int} (h0:c 0=.i t) (hc:∀ i,c (i+1)=sC k n (j+i) (c i)) (hh:yw k (.i t)=true):∀ i,∃ a,c i=.i a∧yw k (.i a)=true
 | 0=>⟨t,h0,hh⟩
 | i+1=>by
  obtain ⟨a,e,h⟩:=rh h4 hn h0 hc hh i
  obtain ⟨a',e'⟩:=sC4 (n:=n) (j:=j+i) (t:=.i a) h4
  exact ⟨a',by rw [hc i,e]; exact e',(o3 h4 hn e').2.1 h⟩
def pA (n a b:Int):Int:=((a - (a+n*b).fmod (n*n+1))*(-n) - b*(-1)).fdiv (n*n+1)
def pB (n a b:Int):Int:=((a - (a+n*b).fmod (n*n+1))*(-1)+b*(-n)).fdiv (n*n+1)
theorem c_ (n:Int) (j:Nat) (a b:Int):sC .pairs n j (.p a b)=.p (pA n a b) (pB n a b):=rfl
def pz (n:Int):Nat→Int→Int→Bool
 | 0,a,b=>a == 0 && b == 0
 | m+1,a,b=>(a == 0 && b == 0) || pz n m (pA n a b) (pB n a b)
theorem Wz:(List.range 9).all (fun n=>(List.range 31).all fun a=>(List.range 31).all fun b=>pz ((n:Int)+1) 14 ((a:Int) - 15) ((b:Int) - 15))=true:=by decide +kernel
theorem iG {n a b:Int} (n1:1≤n) (n2:n≤9) (a1:-15≤a) (a2:a≤15) (b1:-15≤b) (b2:b≤15):pz n 14 a b=true:=by
 have h:=List.all_eq_true.mp Wz (n - 1).toNat (List.mem_range.mpr (by omega))
 have h:=List.all_eq_true.mp h (a+15).toNat (List.mem_range.mpr (by omega))
 have h:=List.all_eq_true.mp h (b+15).toNat (List.mem_range.mpr (by omega))
 rw [show (((n - 1).toNat:Nat):Int)+1=n by omega,show (((a+15).toNat:Nat):Int) - 15=a by omega,show (((b+15).toNat:Nat):Int) - 15=b by omega] at h
 exact h
theorem pV {n:Int}:∀ (m j:Nat) (c:Nat→Nm) (a b:Int),c 0=.p a b→(∀ i,c (i+1)=sC .pairs n (j+i) (c i))→pz n m a b=true→∃ i,i≤m∧c i=Kd.zero .pairs
 | 0,j,c,a,b,h0,hc,h=>by
  unfold pz at h
  rw [Bool.and_eq_true,beq_iff_eq,beq_iff_eq] at h
  exact ⟨0,Nat.le_refl _,by rw [h0,h.1,h.2]; rfl⟩
 | m+1,j,c,a,b,h0,hc,h=>by
  unfold pz at h
  rw [Bool.or_eq_true] at h
  rcases h with h | h
  ·rw [Bool.and_eq_true,beq_iff_eq,beq_iff_eq] at h
   exact ⟨0,by omega,by rw [h0,h.1,h.2]; rfl⟩
  ·obtain ⟨i,hi,e⟩:=pV m (j+1) (fun i=>c (i+1)) _ _ (by rw [hc 0,h0]; exact c_ n _ a b) (fun i=>by rw [hc (i+1),show j+(i+1)=j+1+i by omega]) h
   exact ⟨i+1,by omega,e⟩
theorem l7 {n a b:Int}:∃ f,0≤f∧f≤n*n∧(a - f)*(a - f)+b*b=(n*n+1)*(pA n a b*pA n a b+pB n a b*pB n a b):=by
 obtain ⟨g1,g2,g3,g4⟩:=rc (a:=a) (b:=b) (m:=n) (n*n+1) rfl _ rfl _ _ rfl rfl
 refine ⟨_,g1,g2,?_⟩
 have e1:pA n a b=((a - (a+n*b).fmod (n*n+1))*(-n) - b*(-1)).fdiv (n*n+1):=rfl
 have e2:pB n a b=((a - (a+n*b).fmod (n*n+1))*(-1)+b*(-n)).fdiv (n*n+1):=rfl
 rw [← e1,← e2] at g3
 rw [← e1,← e2] at g4
 generalize (a + n * b).fmod (n * n + 1)=f at *
 generalize pA n a b=x at *
 generalize pB n a b=y at *
 have ea:a - f=-(n*x) - y:=by omega
 have eb:b=x - n*y:=by omega
 rw [ea,eb]
 grind
theorem z7 (x:Int):0≤x*x:=by
 rcases Int.le_total 0 x with h | h
 ·exact Int.mul_nonneg h h
 ·exact Int.mul_nonneg_of_nonpos_of_nonpos h h
theorem Tt {a S:Int} (h:a*a≤S) (h2:256≤S):16*a≤S:=by
 by_cases z:16≤a
 ·exact Int.le_trans (Int.mul_le_mul_of_nonneg_right z (by omega)) h
 ·omega
theorem ir {a:Int} (h:¬ (-15≤a∧a≤15)):256≤a*a:=by
 rcases (by omega:16≤a∨16≤-a) with z | z
 ·have:=Int.mul_le_mul z z (by decide) (by omega); omega
 ·have:=Int.mul_le_mul z z (by decide) (by omega); rw [Int.neg_mul_neg] at this; omega
theorem Xb {S N p q t:Int} (h1:-(16*p)≤t) (h2:q≤82*N - 81) (h3:1≤N) (h5:256*(4*N - 3)≤4*t - 3*S):8*(S - 2*p+q)≤5*(t+S):=by omega
theorem dN {n a b f:Int} (n1:1≤n) (n2:n≤9) (f0:0≤f) (f1:f≤n*n) (h:¬ (-15≤a∧a≤15∧-15≤b∧b≤15)):8*((a - f)*(a - f)+b*b)≤5*((n*n+1)*(a*a+b*b)):=by
 have q1:1≤n*n:=Int.mul_le_mul n1 n1 (by decide) (Int.le_trans (by decide) n1)
 have q2:n*n≤81:=Int.mul_le_mul n2 n2 (Int.le_trans (by decide) n1) (by decide)
 generalize n * n=N at *
 have hS:256≤a*a+b*b:=by
  have sa:=z7 a
  have sb:=z7 b
  by_cases z:-15≤a∧a≤15
  ·have:=ir (a:=b) fun y=>h ⟨z.1,z.2,y.1,y.2⟩
   omega
  ·have:=ir z
   omega
 have h16:16 * -a≤a*a+b*b:=Tt (by rw [Int.neg_mul_neg]; have:=z7 b; omega) hS
 have e:(a - f)*(a - f)+b*b=(a*a+b*b) - 2*(a*f)+f*f:=by grind
 rw [e,Int.add_mul,Int.one_mul]
 generalize a * a + b * b=S at *
 have k1:=Int.mul_le_mul_of_nonneg_left h16 f0
 have k2:=Int.mul_le_mul_of_nonneg_right f1 (show 0≤S by omega)
 have k3:f*f≤N*N:=Int.mul_le_mul f1 f1 f0 (by omega)
 have k4:=Int.mul_nonneg (show 0≤N - 1 by omega) (show 0≤81 - N by omega)
 have e4:(N - 1)*(81 - N)=82*N - 81 - N*N:=by grind
 have k5:=Int.mul_le_mul_of_nonneg_left hS (show 0≤4*N - 3 by omega)
 have e5:(4*N - 3)*S=4*(N*S) - 3*S:=by grind
 have e1:f*(16 * -a)=-(16*(a*f)):=by grind
 rw [e4] at k4
 rw [e5] at k5
 rw [e1] at k1
 exact Xb (Int.le_trans k1 k2) (by omega) q1 (by rw [Int.mul_comm]; exact k5)
theorem nv {n a b:Int} (n1:1≤n) (n2:n≤9) (h:¬ (-15≤a∧a≤15∧-15≤b∧b≤15)):8*(pA n a b*pA n a b+pB n a b*pB n a b)≤5*(a*a+b*b):=by
 obtain ⟨f,f0,f1,e⟩:=l7 (n:=n) (a:=a) (b:=b)
 have k:=dN n1 n2 f0 f1 h
 rw [e] at k
 have q1:0<n*n+1:=by have:=z7 n; omega
 generalize pA n a b * pA n a b + pB n a b * pB n a b=X at *
 generalize a * a + b * b=Y at *
 generalize n * n + 1=N at *
 have k':N*(8*X)≤N*(5*Y):=by
  have r1:N*(8*X)=8*(N*X):=by grind
  have r2:N*(5*Y)=5*(N*Y):=by grind
  rw [r1,r2]; exact k
 exact Int.le_of_mul_le_mul_left k' q1
theorem X7 {n:Int} (n1:1≤n) (n2:n≤9):∀ (d j:Nat) (c:Nat→Nm) (a b:Int),c 0=.p a b→(∀ i,c (i+1)=sC .pairs n (j+i) (c i))→a*a+b*b≤((2 ^ d:Nat):Int)→∃ m,m≤2*d+16∧c m=Kd.zero .pairs:=by
 intro d
 induction d with
 | zero=>
  intro j c a b h0 hc hb
  have sa:=z7 a
  have sb:=z7 b
  have hb':a*a+b*b≤1:=hb
  have ha:-15≤a∧a≤15:=by
   constructor
   ·rcases Int.lt_or_le a (-15) with z | z
    ·have:=Int.mul_le_mul (show 16≤-a by omega) (show 16≤-a by omega) (by decide) (by omega)
     rw [Int.neg_mul_neg] at this; omega
    ·exact z
   ·rcases Int.lt_or_le 15 a with z | z
    ·have:=Int.mul_le_mul (show 16≤a by omega) (show 16≤a by omega) (by decide) (by omega)
     omega
    ·exact z
  have hbb:-15≤b∧b≤15:=by
   constructor
   ·rcases Int.lt_or_le b (-15) with z | z
    ·have:=Int.mul_le_mul (show 16≤-b by omega) (show 16≤-b by omega) (by decide) (by omega)
     rw [Int.neg_mul_neg] at this; omega
    ·exact z
   ·rcases Int.lt_or_le 15 b with z | z
    ·have:=Int.mul_le_mul (show 16≤b by omega) (show 16≤b by omega) (by decide) (by omega)
     omega
    ·exact z
  obtain ⟨i,hi,e⟩:=pV 14 j c a b h0 hc (iG n1 n2 ha.1 ha.2 hbb.1 hbb.2)
  exact ⟨i,by omega,e⟩
 | succ d ih=>
  intro j c a b h0 hc hb
  by_cases hin:-15≤a∧a≤15∧-15≤b∧b≤15
  ·obtain ⟨i,hi,e⟩:=pV 14 j c a b h0 hc (iG n1 n2 hin.1 hin.2.1 hin.2.2.1 hin.2.2.2)
   exact ⟨i,by omega,e⟩
  ·have e1:c 1=.p (pA n a b) (pB n a b):=by rw [hc 0,h0]; exact c_ n _ a b
   have k1:=nv n1 n2 hin
   by_cases hin2:-15≤pA n a b∧pA n a b≤15∧-15≤pB n a b∧pB n a b≤15
   ·obtain ⟨i,hi,e⟩:=pV 14 (j+1) (fun i=>c (i+1)) _ _ e1 (fun i=>by rw [hc (i+1),show j+(i+1)=j+1+i by omega]) (iG n1 n2 hin2.1 hin2.2.1 hin2.2.2.1 hin2.2.2.2)
    exact ⟨i+1,by omega,e⟩
   ·have k2:=nv n1 n2 hin2
    have e2:c 2=.p (pA n (pA n a b) (pB n a b)) (pB n (pA n a b) (pB n a b)):=by rw [hc 1,e1]; exact c_ n _ _ _
    have hp:((2 ^ (d+1):Nat):Int)=2*((2 ^ d:Nat):Int):=by rw [Nat.pow_succ]; omega
    have h2:(0:Int)≤((2 ^ d:Nat):Int):=Int.natCast_nonneg _
    obtain ⟨m,hm,e⟩:=ih (j+2) (fun i=>c (i+2)) _ _ e2 (fun i=>by rw [hc (i+2),show j+(i+2)=j+2+i by omega]) (by omega)
    exact ⟨m+2,by omega,e⟩
theorem Wx {k:Kd} {n:Int} {j:Nat} {c t:Nm} {T:Nat} (h4:k.four=true) (hn:k.ok n) (hc:c.ty k) (ht:tot k t) (b1:c.re.natAbs≤T+1) (b2:t.re.natAbs≤T):(sC k n j (c.add t)).re.natAbs≤T+1:=by
 have hk:k≠.pairs:=fun z=>by rw [z] at h4; cases h4
 obtain ⟨x,rfl⟩:=xI hk hc
 obtain ⟨y,rfl⟩:=ht hk
 obtain ⟨a,ea⟩:=sC4 (n:=n) (j:=j) (t:=.i (x+y)) h4
 have e:(Nm.i x).add (.i y)=.i (x+y):=rfl
 rw [e,ea]
 have:=(o3 h4 hn ea).1
 simp only [Nm.re] at *
 omega
theorem kB {k:Kd} {n:Int} {ts:List Nm} {T:Nat} (h4:k.four=true) (hn:k.ok n) (ht:∀ t∈ts,tot k t) (hb:∀ t∈ts,t.re.natAbs≤T):∀ j,(cAt k n ts j).re.natAbs≤T+1
 | 0=>by
  show (k.zero).re.natAbs≤_
  rw [yr]
  exact Nat.zero_le _
 | j+1=>by
  refine Wx h4 hn (ya k n ts j) (xb ht j) (kB h4 hn ht hb j) ?_
  rw [List.getD_eq_getElem?_getD]
  cases q:ts[j]? with
  | none=>exact Nat.zero_le _
  | some t=>exact hb t (List.mem_of_getElem? q)
theorem XQ {x T:Int} (h1:-T≤x) (h2:x≤T):x*x≤T*T:=by
 rcases Int.le_total 0 x with z | z
 ·exact Int.mul_le_mul h2 h2 z (by omega)
 ·have:=Int.mul_le_mul (show -x≤T by omega) (show -x≤T by omega) (by omega) (by omega)
  rwa [Int.neg_mul_neg] at this
theorem jH {n a b x y T:Int} (hT:81≤T) (n1:1≤n) (n2:n≤9) (hx1:-T≤x) (hx2:x≤T) (hy1:-T≤y) (hy2:y≤T) (h:a*a+b*b≤30*(T*T)):
  pA n (a+x) (b+y)*pA n (a+x) (b+y)+pB n (a+x) (b+y)*pB n (a+x) (b+y)≤30*(T*T):=by
 obtain ⟨f,f0,f1,e⟩:=l7 (n:=n) (a:=a+x) (b:=b+y)
 have q1:1≤n*n:=by have:=Int.mul_le_mul n1 n1 (by omega) (by omega); omega
 have q2:n*n≤81:=by have:=Int.mul_le_mul n2 n2 (by omega) (by omega); omega
 generalize pA n (a + x) (b + y) * pA n (a + x) (b + y) + pB n (a + x) (b + y) * pB n (a + x) (b + y)=X at *
 have hX:2*X≤(n*n+1)*X∨X<0:=by
  rcases Int.lt_or_le X 0 with z | z
  ·exact .inr z
  ·exact .inl (Int.mul_le_mul_of_nonneg_right (by omega) z)
 have r1:2*((a+x - f)*(a+x - f))≤3*(a*a)+6*((x - f)*(x - f)):=by
  have:=z7 (a - 2*(x - f))
  have e1:(a - 2*(x - f))*(a - 2*(x - f))=a*a - 4*(a*(x - f))+4*((x - f)*(x - f)):=by grind
  have e2:(a+x - f)*(a+x - f)=a*a+2*(a*(x - f))+(x - f)*(x - f):=by grind
  omega
 have r2:2*((b+y)*(b+y))≤3*(b*b)+6*(y*y):=by
  have:=z7 (b - 2*y)
  have e1:(b - 2*y)*(b - 2*y)=b*b - 4*(b*y)+4*(y*y):=by grind
  have e2:(b+y)*(b+y)=b*b+2*(b*y)+y*y:=by grind
  omega
 have s1:(x - f)*(x - f)≤(2*T)*(2*T):=XQ (by omega) (by omega)
 have s2:y*y≤T*T:=XQ hy1 hy2
 have s3:(2*T)*(2*T)=4*(T*T):=by grind
 have s4:=z7 T
 omega
theorem kA {n:Int} {ts:List Nm} {T:Nat} (hT:81≤T) (hn:Kd.pairs.ok n) (hb:∀ t∈ts,t.re.natAbs≤T∧t.im.natAbs≤T):∀ j,∃ a b,cAt .pairs n ts j=.p a b∧a*a+b*b≤30*((T:Int)*T)
 | 0=>⟨0,0,rfl,by have:=z7 (T:Int); omega⟩
 | j+1=>by
  obtain ⟨a,b,e,h⟩:=kA hT hn hb j
  have ht:(ts.getD j (.i 0)).re.natAbs≤T∧(ts.getD j (.i 0)).im.natAbs≤T:=by
   rw [List.getD_eq_getElem?_getD]
   cases q:ts[j]? with
   | none=>exact ⟨Nat.zero_le _,Nat.zero_le _⟩
   | some t=>exact hb t (List.mem_of_getElem? q)
  have ea:(Nm.p a b).add (ts.getD j (.i 0))=.p (a+(ts.getD j (.i 0)).re) (b+(ts.getD j (.i 0)).im):=by
   cases ts.getD j (.i 0) <;> rfl
  refine ⟨_,_,by show sC .pairs n j ((cAt .pairs n ts j).add _)=_; rw [e,ea]; exact c_ ..,?_⟩
  have h1:(1:Int)≤n:=hn.1
  have h2:n≤9:=hn.2
  exact jH (by omega) h1 h2 (by omega) (by omega) (by omega) (by omega) h
theorem least {P:Nat→Prop}:∀ (m:Nat),P m→∃ i,i≤m∧P i∧∀ l,l<i→¬ P l:=by
 intro m
 induction m using Nat.strongRecOn with
 | ind m ih=>
  intro h
  by_cases hx:∃ l,l<m∧P l
  ·obtain ⟨l,hl,pl⟩:=hx
   obtain ⟨i,hi,h2⟩:=ih l hl pl
   exact ⟨i,by omega,h2⟩
  ·exact ⟨m,Nat.le_refl _,h,fun l hl pl=>hx ⟨l,hl,pl⟩⟩
theorem c7 {k:Kd} {n:Int} {ts:List Nm} {b:Nat} (h5:k.five=true) (hn:k.ok n) (ht:∀ t∈ts,tot k t) (hb:∀ t∈ts,t.re.natAbs≤2 ^ b∧t.im.natAbs≤2 ^ b) (b7:7≤b) (hh:yw k (cAt k n ts ts.length)=true):
  ∃ J,Fin k n ts J∧J≤ts.length+4*b+30∧(k≠.pairs→J≤ts.length+b+3):=by
 have hpow:2 ^ (b+1)=2*2 ^ b:=by rw [Nat.pow_succ]; omega
 have h128:128≤2 ^ b:=Nat.pow_le_pow_right (by decide:0<2) b7
 have main:∃ m,m≤4*b+30∧(k≠.pairs→m≤b+3)∧cAt k n ts (ts.length+m)=k.zero∧∀ i,yw k (cAt k n ts (ts.length+i))=true:=by
  have hc:∀ i,cAt k n ts (ts.length+(i+1))=sC k n (ts.length+i) (cAt k n ts (ts.length+i)):=fun i=>sU (j:=ts.length+i) (by omega)
  by_cases hk:k=.pairs
  ·subst hk
   obtain ⟨x,y,e,hxy⟩:=kA (T:=2 ^ b) (by omega) hn hb ts.length
   have hbig:30*(((2 ^ b:Nat):Int)*((2 ^ b:Nat):Int))≤((2 ^ (2*b+5):Nat):Int):=by
    have:2 ^ (2*b+5)=32*(2 ^ b*2 ^ b):=by rw [← Nat.pow_add,show 2*b+5=(b+b)+5 by omega,Nat.pow_add]; omega
    rw [this,← Int.natCast_mul]
    omega
   obtain ⟨m,hm,em⟩:=X7 hn.1 hn.2 (2*b+5) ts.length (fun i=>cAt .pairs n ts (ts.length+i)) x y e hc (Int.le_trans hxy hbig)
   refine ⟨m,by omega,fun z=>absurd rfl z,em,fun i=>?_⟩
   obtain ⟨u,v,e'⟩:=ya .pairs n ts (ts.length+i)
   rw [e']
   rfl
  ·have h4:=sO h5 hk
   obtain ⟨t,et⟩:=xI hk (ya k n ts ts.length)
   rw [et] at hh
   have bd:=kB h4 hn ht (fun t h=>(hb t h).1) ts.length
   rw [et] at bd
   have bd':t.natAbs≤2 ^ b+1:=bd
   obtain ⟨m,hm,em⟩:=dQ h4 hn (b+1) ts.length (fun i=>cAt k n ts (ts.length+i)) t et hc hh (by omega)
   refine ⟨m,by omega,fun _=>by omega,em,fun i=>?_⟩
   obtain ⟨a,e',h'⟩:=rh h4 hn (c:=fun i=>cAt k n ts (ts.length+i)) et hc hh i
   have e':cAt k n ts (ts.length+i)=.i a:=e'
   rw [e']
   exact h'
 obtain ⟨m,hm,hm4,em,hall⟩:=main
 obtain ⟨i,hi,pi,hl⟩:=least (P:=fun i=>cAt k n ts (ts.length+i)=k.zero) m em
 refine ⟨ts.length+i,⟨by omega,pi,fun j h1 h2=>?_⟩,by omega,fun z=>by have:=hm4 z; omega⟩
 have e:j=ts.length+(j - ts.length):=by omega
 rw [e]
 exact ⟨hl _ (by omega),hall _⟩
theorem yQ (k:Kd) (n:Int) (ts:List Nm) (j:Nat):(yd k n ts j).length=j:=by unfold yd; rw [List.length_map,List.length_range]
theorem nP {k:Kd} {n:Int} {ts:List Nm} {j i:Nat} (h:i<j):(yd k n ts j).getD i 0=fAt k n ts i:=by
 unfold yd
 rw [List.getD_eq_getElem?_getD,List.getElem?_map,List.getElem?_range h]
 rfl
theorem vo (k:Kd) (n:Int) (ts:List Nm) (j:Nat):yd k n ts (j+1)=yd k n ts j++[fAt k n ts j]:=by
 unfold yd
 rw [List.range_succ,List.map_append]
 rfl
theorem nZ (k:Kd) (n:Int) (ts:List Nm) (j:Nat):crs k n ts (j+1)=crs k n ts j++[cAt k n ts j]:=by
 unfold crs
 rw [List.range_succ,List.map_append]
 rfl
theorem kz (k:Kd) (n:Int) (ts:List Nm) (j:Nat):(crs k n ts j).length=j:=by unfold crs; rw [List.length_map,List.length_range]
def Kd.isF:Kd→Bool
 | .falling=>true
 | _=>false
structure Legal (k:Kd) (n:Int) (r:List Int):Prop where
 fig:∀ p,p<r.length→k.low n p≤r.getD p 0∧r.getD p 0≤k.high n p
 fal:k.isF=true→∀ p,p+1<r.length→r.getD (p+1) 0=n→r.getD p 0=0
 end_:r=[]∨r.getD (r.length - 1) 0≠0
open Classical in
noncomputable def nC (k:Kd) (n:Int) (r:List Int):Bool:=decide (Legal k n r)
open Classical in
theorem kf {k:Kd} {n:Int} {r:List Int} (h:Legal k n r):nC k n r=true:=by unfold nC; exact decide_eq_true h
open Classical in
theorem ox {k:Kd} {n:Int} {r:List Int} (h:¬ Legal k n r):nC k n r=false:=by unfold nC; exact decide_eq_false h
structure Lg (k:Kd) (n:Int) (r:List Int):Prop where
 fig:∀ p,p<r.length→k.low n p≤r.getD p 0∧r.getD p 0≤k.high n p
 fal:k.isF=true→∀ p,p+1<r.length→r.getD (p+1) 0=n→r.getD p 0=0
theorem xt {k:Kd} {n:Int} (h:k.ok n) (p:Nat):k.low n p≤0∧0≤k.high n p:=by
 obtain ⟨h1,h2⟩:=h
 cases k <;> simp only [Kd.lo,Kd.hi,Kd.low,Kd.high] at * <;> first | omega | exact ⟨Int.le_refl _,Int.mul_nonneg (by omega) (by omega)⟩
theorem zN {r:List Int} {z:Int} {p:Nat} (h:p<r.length):(r++[z]).getD p 0=r.getD p 0:=by
 rw [List.getD_eq_getElem?_getD,List.getD_eq_getElem?_getD,List.getElem?_append_left h]
theorem getD_snoc_eq {r:List Int} {z:Int}:(r++[z]).getD r.length 0=z:=by
 rw [List.getD_eq_getElem?_getD,List.getElem?_append_right (Nat.le_refl _)]
 simp
theorem Lg.nil (k:Kd) (n:Int):Lg k n []:=⟨fun p h=>absurd h (Nat.not_lt_zero _),fun _ p h=>absurd h (Nat.not_lt_zero _)⟩
theorem Lg.pop {k:Kd} {n:Int} {r:List Int} {z:Int} (h:Lg k n (r++[z])):Lg k n r:=by
 refine ⟨fun p hp=>?_,fun hk p hp=>?_⟩
 ·have:=h.fig p (by rw [List.length_append]; omega)
  rwa [zN hp] at this
 ·have:=h.fal hk p (by rw [List.length_append]; omega)
  rwa [zN hp,zN (by omega)] at this
theorem Lg.trim {k:Kd} {n:Int}:∀ {r:List Int},Lg k n r→Legal k n (trim r):=by
 intro r
 generalize hl:r.length=m
 induction m generalizing r with
 | zero=>
  intro h
  obtain rfl:r=[]:=List.length_eq_zero_iff.mp hl
  exact ⟨h.fig,h.fal,.inl rfl⟩
 | succ m ih=>
  intro h
  rcases zO r with rfl | ⟨l,z,rfl⟩
  ·cases hl
  ·by_cases hz:z=0
   ·subst hz
    rw [xS]
    exact ih (by rw [List.length_append] at hl; exact Nat.succ.inj hl) h.pop
   ·rw [sK hz]
    exact ⟨h.fig,h.fal,.inr (by rw [List.length_append]; exact fun e=>hz (by rw [← e]; exact getD_snoc_eq.symm))⟩
theorem Lg.push {k:Kd} {n z:Int} {r:List Int} (h:Lg k n r) (hz:k.low n r.length≤z∧z≤k.high n r.length) (hf:k.isF=true→z=n→r=[]∨r.getD (r.length - 1) 0=0):Lg k n (r++[z]):=by
 refine ⟨fun p hp=>?_,fun hk p hp e=>?_⟩
 ·rw [List.length_append] at hp
  rcases (by simp at hp; omega:p<r.length∨p=r.length) with q | q
  ·rw [zN q]; exact h.fig p q
  ·subst q; rw [getD_snoc_eq]; exact hz
 ·rw [List.length_append] at hp
  rcases (by simp at hp; omega:p+1<r.length∨p+1=r.length) with q | q
  ·rw [zN q] at e
   rw [zN (by omega)]
   exact h.fal hk p q e
  ·rw [q,getD_snoc_eq] at e
   rw [zN (by omega)]
   rcases hf hk e with z | z
   ·rw [z] at q; cases q
   ·rw [show r.length - 1=p by omega] at z; exact z
theorem wW {r:List Int} {i j:Nat} {z:Int} (h:i≠j):(r.set i z).getD j 0=r.getD j 0:=by
 rw [List.getD_eq_getElem?_getD,List.getD_eq_getElem?_getD,List.getElem?_set_ne h]
theorem t_ {r:List Int} {i:Nat} {z:Int} (h:i<r.length):(r.set i z).getD i 0=z:=by
 rw [List.getD_eq_getElem?_getD,List.getElem?_set_self h]
 rfl
theorem Lg.zero {k:Kd} {n:Int} {r:List Int} (hn:k.ok n) (h:Lg k n r):Lg k n (r.set (r.length - 1) 0):=by
 refine ⟨fun p hp=>?_,fun hk p hp e=>?_⟩
 ·rw [List.length_set] at hp
  by_cases q:r.length - 1=p
  ·subst q; rw [t_ hp]; exact xt hn _
  ·rw [wW q]; exact h.fig p hp
 ·rw [List.length_set] at hp
  have n1:n≠0:=by have:=hn.1; cases k <;> simp only [Kd.lo] at this <;> omega
  by_cases q:r.length - 1=p+1
  ·rw [← q,t_ (by omega)] at e; exact absurd e.symm n1
  ·rw [wW q] at e
   rw [wW (by omega)]
   exact h.fal hk p hp e
theorem ve (k:Kd) (n:Int) (ns:List Int):∀ j,uO k n ns j=wF k n (fun i=>ns.getD i 0) j
 | 0=>rfl
 | j+1=>by unfold uO wF; rw [ve k n ns j]
theorem ra {k:Kd} {n:Int} {f g:Nat→Int}:∀ j,(∀ i,i<j→f i=g i)→wF k n f j=wF k n g j
 | 0,_=>rfl
 | j+1,h=>by
  unfold wF
  rw [ra j fun i hi=>h i (by omega),h j (by omega)]
theorem lK (k:Kd) (n:Int) (j:Nat):(wt k n j).ty k:=by
 by_cases hk:k=.pairs
 ·subst hk; exact wt2 j
 ·obtain ⟨w,e⟩:=wtI (n:=n) hk j
  rw [e]
  exact ub hk
theorem rO {k:Kd} {t w:Nm} (ht:tot k t) (hw:w.ty k):(t.mul w).ty k:=by
 by_cases hk:k=.pairs
 ·subst hk
  obtain ⟨a,b,rfl⟩:=hw
  cases t <;> exact ⟨_,_,rfl⟩
 ·obtain ⟨a,rfl⟩:=ht hk
  obtain ⟨b,rfl⟩:=xI hk hw
  exact ub hk
theorem xa {k:Kd} {m:Nm} (h:m.ty k):tot k m:=fun hk=>xI hk h
theorem ik (k:Kd) (a:Int):tot k (.i a):=fun _=>⟨a,rfl⟩
theorem ii (k:Kd) (n:Int) (f:Nat→Int):∀ j,(wF k n f j).ty k
 | 0=>yb k
 | j+1=>xA (ii k n f j) (xa (rO (ik k _) (lK k n j)))
theorem ic {k:Kd} {n:Int} {ts:List Nm} (ht:∀ t∈ts,tot k t):∀ j,(wN k n ts j).ty k
 | 0=>yb k
 | j+1=>xA (ic ht j) (xa (rO (xb ht j) (lK k n j)))
theorem n6 {k:Kd} {m w:Nm} (hm:m.ty k) (hw:w.ty k):m.add ((Nm.i 0).mul w)=m:=by
 refine rM (xA hm (xa (rO (ik k 0) hw))) hm ?_ ?_
 ·rw [yi,zM]; show m.re+(0*w.re - 0*w.im)=_; rw [Int.zero_mul,Int.zero_mul]; omega
 ·rw [yK,zX]; show m.im+(0*w.im+0*w.re)=_; rw [Int.zero_mul,Int.zero_mul]; omega
theorem ig {k:Kd} {n:Int} {ts:List Nm} (ht:∀ t∈ts,tot k t):∀ i,wN k n ts (ts.length+i)=wN k n ts ts.length
 | 0=>rfl
 | i+1=>by
  have e:ts.getD (ts.length+i) (.i 0)=.i 0:=by rw [List.getD_eq_getElem?_getD,List.getElem?_eq_none (by omega)]; rfl
  show (wN k n ts (ts.length+i)).add ((ts.getD (ts.length+i) (.i 0)).mul (wt k n (ts.length+i)))=_
  rw [e,n6 (ic ht _) (lK k n _)]
  exact ig ht i
def xH (k:Kd) (n:Int) (ts:List Nm):Nm:=wN k n ts ts.length
def zk (k:Kd) (n:Int) (r:List Int):Nm:=uO k n r r.length
theorem Fin.worth {k:Kd} {n:Int} {ts:List Nm} {J:Nat} (F:Fin k n ts J) (h5:k.five=true) (hn:k.ok n) (ht:∀ t∈ts,tot k t):zk k n (yd k n ts J)=xH k n ts:=by
 unfold zk xH
 rw [yQ,ve,ra (g:=fAt k n ts) J (fun i hi=>nP hi)]
 have e:wN k n ts J=wN k n ts ts.length:=by
  rw [show J=ts.length+(J - ts.length) by have:=F.le; omega]
  exact ig ht _
 obtain ⟨t1,t2⟩:=Wr h5 hn ht J
 rw [F.z,zM,yr,yL] at t1
 rw [F.z,zX,yr,yL] at t2
 rw [← e]
 refine rM (ii k n _ J) (ic ht J) ?_ ?_
 ·rw [t1,Int.mul_zero,Int.mul_zero]; omega
 ·rw [t2,Int.mul_zero,Int.mul_zero]; omega
theorem pK {k:Kd} {n:Int} {l:List Int} {z:Int} {j:Nat} (h:j≤l.length):uO k n (l++[z]) j=uO k n l j:=by
 rw [ve,ve]
 exact ra j fun i hi=>zN (by omega)
theorem wE (k:Kd) (n:Int) (l:List Int) (z:Int):zk k n (l++[z])=(zk k n l).add ((Nm.i z).mul (wt k n l.length)):=by
 unfold zk
 rw [List.length_append]
 show (uO k n (l++[z]) l.length).add ((Nm.i ((l++[z]).getD l.length 0)).mul (wt k n l.length))=_
 rw [pK (Nat.le_refl _),getD_snoc_eq]
theorem yj (k:Kd) (n:Int) (r:List Int):(zk k n r).ty k:=by
 unfold zk
 rw [ve]
 exact ii k n _ _
theorem oX (k:Kd) (n:Int) (r:List Int):zk k n (trim r)=zk k n r:=by
 generalize hl:r.length=m
 induction m generalizing r with
 | zero=>
  obtain rfl:r=[]:=List.length_eq_zero_iff.mp hl
  rfl
 | succ m ih=>
  rcases zO r with rfl | ⟨l,z,rfl⟩
  ·cases hl
  ·by_cases hz:z=0
   ·subst hz
    rw [xS,ih l (by rw [List.length_append] at hl; exact Nat.succ.inj hl),wE,n6 (yj k n l) (lK k n _)]
   ·rw [sK hz]
theorem uA {k:Kd} (h5:k.five=true):k.isF=false:=by cases k <;> first | rfl | cases h5
theorem Xa {k:Kd} {n:Int} {ts:List Nm} (h5:k.five=true) (hn:k.ok n) (ht:∀ t∈ts,tot k t) (J:Nat):Lg k n (yd k n ts J):=by
 refine ⟨fun p hp=>?_,fun hF=>?_⟩
 ·rw [yQ] at hp
  rw [nP hp]
  obtain ⟨a,b,_⟩:=xc (j:=p) h5 hn (xA (ya k n ts p) (xb ht p))
  exact ⟨a,b⟩
 ·rw [uA h5] at hF
  cases hF
def qu (k:Kd) (n:Int) (ts:List Nm) (J:Nat):List Int:=trim (yd k n ts J)
theorem vB {k:Kd} {n:Int} {ts:List Nm} {J:Nat} (h5:k.five=true) (hn:k.ok n) (ht:∀ t∈ts,tot k t):Legal k n (qu k n ts J):=(Xa h5 hn ht J).trim
theorem vA {k:Kd} {n:Int} {ts:List Nm} {J:Nat} (F:Fin k n ts J) (h5:k.five=true) (hn:k.ok n) (ht:∀ t∈ts,tot k t):zk k n (qu k n ts J)=xH k n ts:=by
 unfold qu
 rw [oX,F.worth h5 hn ht]
def tS (k:Kd):DSp:=fun ds Q=>∃ o d m,ds=[o,d]∧rK d=some m∧Q (.bl (yw k m))
def isP:Nm→Bool
 | .p _ _=>true
 | _=>false
def pH:DSp:=fun ds Q=>∃ d m,ds=[d]∧rK d=some m∧Q (.bl (isP m))
def cz:DSp:=fun ds Q=>∃ r,ds=[zB r]∧Q (zB (trim r))
def vX:DSp:=fun ds Q=>∃ xs p,ds=[.lst xs,.int p]∧0≤p∧Q (xs.getD p.toNat (.int 0))
def ud (ts:List Nm):Dt:=.lst (ts.map Nm.dt)
def yW (k:Kd) (n:Int) (ts:List Nm) (j:Nat):List Dt:=(crs k n ts j).map Nm.dt
theorem sN (ts:List Nm) (j:Nat):(ts.map Nm.dt).getD j (.int 0)=(ts.getD j (.i 0)).dt:=by
 rw [List.getD_eq_getElem?_getD,List.getD_eq_getElem?_getD,List.getElem?_map]
 cases ts[j]? <;> rfl
theorem lm {k:Kd} {m m':Nm} (h:m.ty k) (h':m'.ty k):eqD m.dt m'.dt=true↔m=m':=by
 by_cases hk:k=.pairs
 ·subst hk
  obtain ⟨a,b,rfl⟩:=h
  obtain ⟨c,d,rfl⟩:=h'
  show eqD (.tup [.int a,.int b]) (.tup [.int c,.int d])=true↔_
  rw [uC,xZ,xZ,uB,y6,y6,Bool.and_eq_true,Bool.and_eq_true,beq_iff_eq,beq_iff_eq]
  constructor
  ·rintro ⟨rfl,rfl,_⟩; rfl
  ·intro e; cases e; exact ⟨rfl,rfl,rfl⟩
 ·obtain ⟨a,rfl⟩:=xI hk h
  obtain ⟨c,rfl⟩:=xI hk h'
  show eqD (.int a) (.int c)=true↔_
  rw [y6,beq_iff_eq]
  constructor
  ·rintro rfl; rfl
  ·intro e; cases e; rfl
def wf (n:Int) (j:Nat):Int:=(wtF n j).2
theorem cQ (n:Int):wf n 0=1:=rfl
theorem Wl (n:Int):wf n 1=n+1:=by show n*1+1=_; rw [Int.mul_one]
theorem Wk (n:Int) (j:Nat):wf n (j+2)=n*wf n (j+1)+wf n j:=rfl
theorem wG {n:Int} (h:1≤n):∀ j,1≤wf n j∧wf n j≤wf n (j+1)
 | 0=>by rw [cQ,Wl]; omega
 | j+1=>by
  obtain ⟨a,b⟩:=wG h j
  have:wf n (j+1)≤n*wf n (j+1):=by
   have:=Int.mul_le_mul_of_nonneg_right h (show 0≤wf n (j+1) by omega)
   omega
  rw [Wk]
  omega
def Vt (k:Kd) (n:Int):Nat→List Int→Nm
 | _,[]=>k.zero
 | j,f::r=>(Nm.i f).add ((k.ratN n j).mul (Vt k n (j+1) r))
theorem iF {k:Kd} {n:Int} {j:Nat} (h5:k.five=true):(k.ratN n j).ty k:=by
 cases k <;> first | exact ⟨_,rfl⟩ | exact ⟨_,_,rfl⟩ | cases h5
theorem nL {k:Kd} {f:Int} {m:Nm} (h:m.ty k):((Nm.i f).add m).ty k:=by
 by_cases hk:k=.pairs
 ·subst hk
  obtain ⟨a,b,rfl⟩:=h
  exact ⟨_,_,rfl⟩
 ·obtain ⟨a,rfl⟩:=xI hk h
  exact ub hk
theorem pG {k:Kd} {n:Int} (h5:k.five=true):∀ (r:List Int) (j:Nat),(Vt k n j r).ty k
 | [],_=>yb k
 | _::r,j=>nL (rO (xa (iF h5)) (pG h5 r (j+1)))
theorem cR {P1 P2 w1 w2 f r1 r2 v1 v2:Int}:P1+(f*w1 - 0*w2)+((r1*w1 - r2*w2)*v1 - (r1*w2+r2*w1)*v2)=P1+(w1*(f+(r1*v1 - r2*v2)) - w2*(0+(r1*v2+r2*v1)))∧P2+(f*w2+0*w1)+((r1*w1 - r2*w2)*v2+(r1*w2+r2*w1)*v1)=P2+(w1*(0+(r1*v2+r2*v1))+w2*(f+(r1*v1 - r2*v2))):=by
 constructor <;> grind
theorem oW {k:Kd} {n:Int} (h5:k.five=true):∀ (r pre:List Int),
  (zk k n (pre++r)).re=(zk k n pre).re+((wt k n pre.length).mul (Vt k n pre.length r)).re∧(zk k n (pre++r)).im=(zk k n pre).im+((wt k n pre.length).mul (Vt k n pre.length r)).im
 | [],pre=>by
  rw [List.append_nil]
  unfold Vt
  rw [zM,zX,yr,yL,Int.mul_zero,Int.mul_zero]
  exact ⟨by omega,by omega⟩
 | f::r,pre=>by
  obtain ⟨i1,i2⟩:=oW h5 r (pre++[f])
  have e:pre++f::r=(pre++[f])++r:=by rw [List.append_assoc]; rfl
  have el:(pre++[f]).length=pre.length+1:=by rw [List.length_append]; rfl
  have ev:Vt k n pre.length (f::r)=(Nm.i f).add ((k.ratN n pre.length).mul (Vt k n (pre.length+1) r)):=rfl
  rw [e,i1,i2,el,wE,vd h5,ev]
  simp only [zM,zX,yi,yK]
  have fr:(Nm.i f).re=f:=rfl
  have fi:(Nm.i f).im=0:=rfl
  rw [fr,fi]
  exact cR
theorem s9 {k:Kd} {n:Int} (h5:k.five=true) (r:List Int):zk k n r=Vt k n 0 r:=by
 obtain ⟨a,b⟩:=oW (n:=n) h5 r []
 have e:wt k n 0=k.zero.add (.i 1):=by cases k <;> first | rfl | cases h5
 have r1:(wt k n 0).re=1:=by rw [e,yi,yr]; rfl
 have r2:(wt k n 0).im=0:=by rw [e,yK,yL]; rfl
 have z1:(zk k n []).re=0:=yr k
 have z2:(zk k n []).im=0:=yL k
 simp only [List.length_nil,List.nil_append] at a b
 rw [zM,r1,r2,z1] at a
 rw [zX,r1,r2,z2] at b
 refine rM (yj k n r) (pG h5 r 0) ?_ ?_
 ·rw [a]; omega
 ·rw [b]; omega
theorem qU {lo n r t f c:Int} (hr:r=n∨r=-n) (h1:lo≤f) (h2:f≤lo+n - 1) (h3:lo≤t) (h4:t≤lo+n - 1) (e:f+c*r=t):c=0∧f=t:=by
 have hc:c=0:=by
  rcases (by omega:c=0∨1≤c∨c≤-1) with h | h | h
  ·exact h
  ·rcases hr with rfl | rfl
   ·have:=Int.mul_le_mul_of_nonneg_right h (show 0≤r by omega)
    omega
   ·have:=Int.mul_le_mul_of_nonneg_right h (show 0≤n by omega)
    rw [Int.mul_neg] at e
    omega
  ·rcases hr with rfl | rfl
   ·have:=Int.mul_le_mul_of_nonneg_right h (show 0≤r by omega)
    omega
   ·have:=Int.mul_le_mul_of_nonneg_right h (show 0≤n by omega)
    rw [Int.mul_neg] at e
    omega
 subst hc
 omega
theorem tq {k:Kd} {n f g:Int} {j:Nat} {c d:Nm} (h5:k.five=true) (hn:k.ok n) (f1:k.low n j≤f) (f2:f≤k.high n j) (g1:k.low n j≤g) (g2:g≤k.high n j) (tc:c.ty k) (td:d.ty k)
  (e:(Nm.i f).add ((k.ratN n j).mul c)=(Nm.i g).add ((k.ratN n j).mul d)):f=g∧c=d:=by
 have e1:=congrArg Nm.re e
 have e2:=congrArg Nm.im e
 rw [yi,yi,zM,zM] at e1
 rw [yK,yK,zX,zX] at e2
 by_cases hk:k=.pairs
 ·subst hk
  obtain ⟨a,b,rfl⟩:=tc
  obtain ⟨x,y,rfl⟩:=td
  simp only [Kd.ratN,Nm.re,Nm.im,Kd.low,Kd.high] at *
  have q1:f - n*(a - x) - (b - y)=g:=by rw [Int.mul_sub]; simp only [Int.neg_mul,Int.one_mul] at e1; omega
  have q2:(a - x) - n*(b - y)=0:=by rw [Int.mul_sub]; simp only [Int.neg_mul,Int.one_mul] at e2; omega
  generalize hu:a - x=u at *
  generalize hv:b - y=v at *
  have eu:u=n*v:=by omega
  rw [eu] at q1
  have e3:f+(-v)*(n*n+1)=g:=by
   have r1:n*(n*v)=v*(n*n):=by grind
   have r2:(-v)*(n*n+1)=-(v*(n*n)) - v:=by grind
   omega
  obtain ⟨h1,h2⟩:=qU (lo:=0) (n:=n*n+1) (.inl rfl) f1 (by omega) g1 (by omega) e3
  have v0:v=0:=by omega
  rw [v0,Int.mul_zero] at eu
  exact ⟨h2,by rw [show a=x by omega,show b=y by omega]⟩
 ·have h4:=sO h5 hk
  obtain ⟨a,rfl⟩:=xI hk tc
  obtain ⟨x,rfl⟩:=xI hk td
  have eR:k.ratN n j=.i (k.rat n j):=by cases k <;> first | rfl | exact absurd rfl hk
  rw [eR] at e1
  obtain ⟨z1,z2⟩:=pN h4 n j
  have q:f+(a - x)*k.rat n j=g:=by
   have e1':f+(k.rat n j*a - 0*0)=g+(k.rat n j*x - 0*0):=e1
   rw [Int.sub_mul,Int.mul_comm a,Int.mul_comm x]
   omega
  obtain ⟨h1,h2⟩:=qU (lo:=k.low n j) (n:=k.size n j) z2 f1 (by omega) g1 (by omega) q
  exact ⟨h2,by rw [show a=x by omega]⟩
def Figs (k:Kd) (n:Int) (j:Nat) (r:List Int):Prop:=∀ p,p<r.length→k.low n ((j+p:Nat):Int)≤r.getD p 0∧r.getD p 0≤k.high n ((j+p:Nat):Int)
theorem Figs.cons {k:Kd} {n f:Int} {j:Nat} {r:List Int} (h:Figs k n j (f::r)):(k.low n j≤f∧f≤k.high n j)∧Figs k n (j+1) r:=by
 refine ⟨h 0 (by simp),fun p hp=>?_⟩
 have:=h (p+1) (by simp; exact hp)
 rw [show j+(p+1)=j+1+p by omega] at this
 exact this
theorem T8 {k:Kd} {n:Int} (h5:k.five=true) (hn:k.ok n):∀ (r s:List Int) (j:Nat),Figs k n j r→Figs k n j s→Vt k n j r=Vt k n j s→∀ p,r.getD p 0=s.getD p 0:=by
 have zz:∀ j:Nat,k.zero=(Nm.i 0).add ((k.ratN n j).mul k.zero):=fun j=>by
  refine rM (yb k) (nL (rO (xa (iF h5)) (yb k))) ?_ ?_
  ·rw [yi,zM,yr,yL,Int.mul_zero,Int.mul_zero]; rfl
  ·rw [yK,zX,yr,yL,Int.mul_zero,Int.mul_zero]; rfl
 have nilc:∀ (s:List Int) (j:Nat),Figs k n j s→k.zero=Vt k n j s→∀ p,(0:Int)=s.getD p 0:=by
  intro s
  induction s with
  | nil=>intro j _ _ p; rfl
  | cons g s ih=>
   intro j hs e p
   obtain ⟨⟨g1,g2⟩,hs'⟩:=hs.cons
   obtain ⟨l1,l2⟩:=xt hn j
   rw [zz j] at e
   obtain ⟨q1,q2⟩:=tq h5 hn l1 l2 g1 g2 (yb k) (pG h5 s (j+1)) e
   cases p with
   | zero=>exact q1
   | succ p=>exact ih (j+1) hs' q2 p
 intro r
 induction r with
 | nil=>intro s j _ hs e p; exact nilc s j hs e p
 | cons f r ih=>
  intro s j hr hs e p
  cases s with
  | nil=>exact (nilc (f::r) j hr e.symm p).symm
  | cons g s=>
   obtain ⟨⟨f1,f2⟩,hr'⟩:=hr.cons
   obtain ⟨⟨g1,g2⟩,hs'⟩:=hs.cons
   obtain ⟨q1,q2⟩:=tq h5 hn f1 f2 g1 g2 (pG h5 r (j+1)) (pG h5 s (j+1)) e
   cases p with
   | zero=>exact q1
   | succ p=>exact ih s (j+1) hr' hs' q2 p
theorem nN {r:List Int} {p:Nat} (h:r.length≤p):r.getD p 0=0:=by rw [List.getD_eq_getElem?_getD,List.getElem?_eq_none h]; rfl
theorem bb {r s:List Int} (h:∀ p,r.getD p 0=s.getD p 0) (hr:r=[]∨r.getD (r.length - 1) 0≠0) (hs:s=[]∨s.getD (s.length - 1) 0≠0):r=s:=by
 have hl:r.length=s.length:=by
  rcases (by omega:r.length=s.length∨r.length<s.length∨s.length<r.length) with z | z | z
  ·exact z
  ·rcases hs with hs | hs
   ·rw [hs] at z; simp at z
   ·exact absurd (by rw [← h]; exact nN (by omega)) hs
  ·rcases hr with hr | hr
   ·rw [hr] at z; simp at z
   ·exact absurd (by rw [h]; exact nN (by omega)) hr
 apply List.ext_getElem hl
 intro i h1 h2
 have:=h i
 rw [List.getD_eq_getElem?_getD,List.getD_eq_getElem?_getD,List.getElem?_eq_getElem h1,List.getElem?_eq_getElem h2] at this
 exact this
theorem yz (n:Int) (l:List Int) (z:Int):(zk .falling n (l++[z])).re=(zk .falling n l).re+z*wf n l.length:=by
 rw [wE,yi]
 rfl
theorem Lg.nonneg {n:Int} {r:List Int} (h:Lg .falling n r) (h1:1≤n):0≤(zk .falling n r).re:=by
 generalize hl:r.length=m
 induction m generalizing r with
 | zero=>obtain rfl:r=[]:=List.length_eq_zero_iff.mp hl; exact Int.le_refl 0
 | succ m ih=>
  rcases zO r with rfl | ⟨l,z,rfl⟩
  ·cases hl
  ·have hz:=h.fig l.length (by rw [List.length_append]; simp)
   rw [getD_snoc_eq] at hz
   have hz0:0≤z:=hz.1
   have:=ih h.pop (by rw [List.length_append] at hl; exact Nat.succ.inj hl)
   rw [yz]
   have:=Int.mul_nonneg hz0 (show 0≤wf n l.length by have:=(wG h1 l.length).1; omega)
   omega
theorem Lg.lt {n:Int} (h1:1≤n):∀ (m:Nat) (r:List Int),r.length=m→Lg .falling n r→(zk .falling n r).re<wf n m:=by
 intro m
 induction m using Nat.strongRecOn with
 | ind m ih=>
  intro r hl h
  rcases zO r with rfl | ⟨l,z,rfl⟩
  ·subst hl; show (0:Int)<wf n 0; rw [cQ]; decide
  ·have el:l.length+1=m:=by rw [List.length_append] at hl; exact hl
   have hz:=h.fig l.length (by rw [List.length_append]; simp)
   rw [getD_snoc_eq] at hz
   have hz0:0≤z:=hz.1
   have hz1:z≤n:=hz.2
   have il:=ih l.length (by omega) l rfl h.pop
   have wp:=(wG h1 l.length).1
   rw [yz,← el]
   rcases (by omega:z≤n - 1∨z=n) with c | c
   ·have k1:=Int.mul_le_mul_of_nonneg_right c (show 0≤wf n l.length by omega)
    have k2:(n - 1)*wf n l.length=n*wf n l.length - wf n l.length:=by rw [Int.sub_mul,Int.one_mul]
    have k3:n*wf n l.length<wf n (l.length+1):=by
     cases l.length with
     | zero=>rw [Wl,cQ]; omega
     | succ q=>rw [Wk]; have:=(wG h1 q).1; omega
    omega
   ·subst c
    rcases zO l with rfl | ⟨l',y,rfl⟩
    ·show (0:Int)+z*wf z 0<wf z 1
     rw [cQ,Wl]; omega
    ·have hy:=h.fal rfl l'.length (by rw [List.length_append,List.length_append]; simp) (by
      have:=getD_snoc_eq (r:=l'++[y]) (z:=z)
      rw [List.length_append] at this
      exact this)
     rw [zN (by rw [List.length_append]; simp),getD_snoc_eq] at hy
     subst hy
     have i2:=ih l'.length (by rw [List.length_append] at el; simp at el; omega) l' rfl h.pop.pop
     rw [yz,Int.zero_mul,Int.add_zero,List.length_append]
     show _+z*wf z (l'.length+1)<wf z (l'.length+2)
     rw [Wk]
     omega
theorem qT {n:Int} (h1:1≤n):∀ (m:Nat) (r s:List Int),r.length=m→s.length=m→Lg .falling n r→Lg .falling n s→(zk .falling n r).re=(zk .falling n s).re→r=s
 | 0,r,s,hr,hs,_,_,_=>by rw [List.length_eq_zero_iff.mp hr,List.length_eq_zero_iff.mp hs]
 | m+1,r,s,hr,hs,Lr,Ls,e=>by
  rcases zO r with rfl | ⟨l,z,rfl⟩
  ·cases hr
  rcases zO s with rfl | ⟨l',z',rfl⟩
  ·cases hs
  have e1:l.length=m:=by rw [List.length_append] at hr; exact Nat.succ.inj hr
  have e2:l'.length=m:=by rw [List.length_append] at hs; exact Nat.succ.inj hs
  rw [yz,yz,e1,e2] at e
  have a1:=Lr.pop.nonneg h1
  have a2:=Lr.pop.lt h1 m l e1
  have b1:=Ls.pop.nonneg h1
  have b2:=Ls.pop.lt h1 m l' e2
  have wp:=(wG h1 m).1
  have hz:z=z':=by
   rcases (by omega:z=z'∨z+1≤z'∨z'+1≤z) with c | c | c
   ·exact c
   ·have:=Int.mul_le_mul_of_nonneg_right c (show 0≤wf n m by omega)
    rw [Int.add_mul,Int.one_mul] at this
    omega
   ·have:=Int.mul_le_mul_of_nonneg_right c (show 0≤wf n m by omega)
    rw [Int.add_mul,Int.one_mul] at this
    omega
  subst hz
  rw [qT h1 m l l' e1 e2 Lr.pop Ls.pop (by omega)]
theorem Legal.lg {k:Kd} {n:Int} {r:List Int} (h:Legal k n r):Lg k n r:=⟨h.fig,h.fal⟩
theorem Legal.geF {n:Int} {r:List Int} (h:Legal .falling n r) (h1:1≤n) (hr:r≠[]):wf n (r.length - 1)≤(zk .falling n r).re:=by
 rcases zO r with rfl | ⟨l,z,rfl⟩
 ·exact absurd rfl hr
 ·have hz:=h.fig l.length (by rw [List.length_append]; simp)
  rw [getD_snoc_eq] at hz
  have hz0:0≤z:=hz.1
  have el:(l++[z]).length - 1=l.length:=by rw [List.length_append]; rfl
  rcases h.end_ with c | c
  ·exact absurd c hr
  ·rw [el,getD_snoc_eq] at c
   rw [yz,el]
   have a1:=h.lg.pop.nonneg h1
   have wp:=(wG h1 l.length).1
   have:=Int.mul_le_mul_of_nonneg_right (show 1≤z by omega) (show 0≤wf n l.length by omega)
   omega
theorem lO {n:Int} (h1:1≤n) {i j:Nat} (h:i≤j):wf n i≤wf n j:=by
 induction h with
 | refl=>exact Int.le_refl _
 | step _ ih=>exact Int.le_trans ih (wG h1 _).2
theorem Sc {k:Kd} {n:Int} {r s:List Int} (hn:k.ok n) (hr:Legal k n r) (hs:Legal k n s) (e:zk k n r=zk k n s):r=s:=by
 by_cases hk:k=.falling
 ·subst hk
  have h1:1≤n:=hn.1
  have e':=congrArg Nm.re e
  rcases (by omega:r.length=s.length∨r.length<s.length∨s.length<r.length) with z | z | z
  ·exact qT h1 _ r s z rfl hr.lg hs.lg e'
  ·have a:=hr.lg.lt h1 _ r rfl
   have b:=hs.geF h1 (by intro q; rw [q] at z; simp at z)
   have:=lO h1 (show r.length≤s.length - 1 by omega)
   omega
  ·have a:=hs.lg.lt h1 _ s rfl
   have b:=hr.geF h1 (by intro q; rw [q] at z; simp at z)
   have:=lO h1 (show s.length≤r.length - 1 by omega)
   omega
 ·have h5:k.five=true:=by cases k <;> first | rfl | exact absurd rfl hk
  rw [s9 h5,s9 h5] at e
  exact bb (T8 h5 hn r s 0 (fun p hp=>by rw [Nat.zero_add]; exact hr.fig p hp) (fun p hp=>by rw [Nat.zero_add]; exact hs.fig p hp) e) hr.end_ hs.end_
theorem j9 {k:Kd} {n:Int} (hn:k.ok n) {j:Nat}:(k=.below∨k=.balanced∨k=.pairs)∨∃ x,wt k n j=.i x∧1≤x:=by
 obtain ⟨b1,b2⟩:=tV hn
 cases k with
 | below=>exact .inl (.inl rfl)
 | balanced=>exact .inl (.inr (.inl rfl))
 | pairs=>exact .inl (.inr (.inr rfl))
 | falling=>exact .inr ⟨_,rfl,(wG b1 j).1⟩
 | plain=>
  refine .inr ?_
  induction j with
  | zero=>exact ⟨_,rfl,by decide⟩
  | succ j ih=>
   obtain ⟨x,e,h⟩:=ih
   rw [vd rfl,e]
   exact ⟨_,rfl,by show 1≤n*x; have:=Int.mul_le_mul b1 h (by decide) (by omega); omega⟩
 | growing=>
  refine .inr ?_
  induction j with
  | zero=>exact ⟨_,rfl,by decide⟩
  | succ j ih=>
   obtain ⟨x,e,h⟩:=ih
   rw [vd rfl,e]
   exact ⟨_,rfl,by show 1≤(n+(j:Int))*x; have:=Int.mul_le_mul (show 1≤n+(j:Int) by omega) h (by decide) (by omega); omega⟩
def uk (k:Kd):Prop:=k=.plain∨k=.growing
theorem pJ {k:Kd} {n:Int} (hk:uk k) (hn:k.ok n) (j:Nat):∃ w,wt k n j=.i w∧1≤w∧wt k n (j+1)=.i (k.rat n j*w)∧k.high n j=k.rat n j - 1∧k.low n j=0:=by
 rcases hk with rfl | rfl
 ·rcases j9 hn (j:=j) with (h | h | h) | ⟨w,e,h⟩
  ·cases h
  ·cases h
  ·cases h
  ·exact ⟨w,e,h,by rw [vd rfl,e]; rfl,rfl,rfl⟩
 ·rcases j9 hn (j:=j) with (h | h | h) | ⟨w,e,h⟩
  ·cases h
  ·cases h
  ·cases h
  ·exact ⟨w,e,h,by rw [vd rfl,e]; rfl,rfl,rfl⟩
theorem pX {k:Kd} (hk:uk k):k≠.pairs:=by rcases hk with rfl | rfl <;> (intro z; cases z)
theorem WH {k:Kd} (hk:uk k):k.five=true:=by rcases hk with rfl | rfl <;> rfl
theorem oF {k:Kd} {n:Int} {f:Nat→Int} (hk:uk k) (hn:k.ok n):∀ j:Nat,(∀ i:Nat,i<j→k.low n i≤f i∧f i≤k.high n i)→0≤(wF k n f j).re∧(wF k n f j).re<(wt k n j).re
 | 0,_=>by
  obtain ⟨w,e,h,_⟩:=pJ hk hn 0
  rw [e]
  show 0≤(k.zero).re∧(k.zero).re<w
  rw [yr]
  omega
 | j+1,h=>by
  obtain ⟨a,b⟩:=oF hk hn j fun i hi=>h i (by omega)
  obtain ⟨w,e,hw,e2,h1,h2⟩:=pJ hk hn j
  obtain ⟨f1,f2⟩:=h j (by omega)
  rw [e2]
  have ew:(wF k n f (j+1)).re=(wF k n f j).re+f j*w:=by
   show ((wF k n f j).add ((Nm.i (f j)).mul (wt k n j))).re=_
   rw [yi,e]
   rfl
  rw [ew]
  rw [e] at b
  have b':(wF k n f j).re<w:=b
  rw [h2] at f1
  rw [h1] at f2
  have m1:=Int.mul_nonneg f1 (show 0≤w by omega)
  have m2:=Int.mul_le_mul_of_nonneg_right f2 (show 0≤w by omega)
  rw [Int.sub_mul,Int.one_mul] at m2
  show 0≤_∧_<k.rat n j*w
  omega
theorem vT {k:Kd} {n:Int} {ts:List Nm} (hk:uk k) (hn:k.ok n) (ht:∀ t∈ts,tot k t) (j:Nat):0≤(wN k n ts j).re↔yw k (cAt k n ts j)=true:=by
 have h5:=WH hk
 obtain ⟨t1,_⟩:=Wr h5 hn ht j
 obtain ⟨c,ec⟩:=xI (pX hk) (ya k n ts j)
 obtain ⟨w,e,hw,_⟩:=pJ hk hn j
 obtain ⟨a,b⟩:=oF (f:=fAt k n ts) hk hn j fun i _=>by
  obtain ⟨s1,s2,_⟩:=xc (j:=i) h5 hn (xA (ya k n ts i) (xb ht i))
  exact ⟨s1,s2⟩
 rw [e] at b
 have b':(wF k n (fAt k n ts) j).re<w:=b
 rw [ec,e,zM] at t1
 have t1':(wN k n ts j).re=(wF k n (fAt k n ts) j).re+(w*c - 0*0):=t1
 rw [ec]
 have hh:yw k (.i c)=decide (0≤c):=by rcases hk with rfl | rfl <;> rfl
 rw [hh,decide_eq_true_iff,t1']
 constructor
 ·intro h
  rcases Int.lt_or_le c 0 with z | z
  ·have:=Int.mul_le_mul_of_nonneg_left (show c≤-1 by omega) (show 0≤w by omega)
   omega
  ·exact z
 ·intro h
  have:=Int.mul_nonneg (show 0≤w by omega) h
  omega
theorem rL {k:Kd} {m:Nm} (h5:k.five=true) (hk:¬ uk k) (hm:m.ty k):yw k m=true:=by
 cases k with
 | plain=>exact absurd (.inl rfl) hk
 | growing=>exact absurd (.inr rfl) hk
 | falling=>cases h5
 | below=>obtain ⟨a,rfl⟩:=hm; rfl
 | balanced=>obtain ⟨a,rfl⟩:=hm; rfl
 | pairs=>obtain ⟨a,b,rfl⟩:=hm; rfl
theorem Wp (r:List Int):(r.map Nm.i).map Nm.dt=r.map Dt.int:=by rw [List.map_map]; rfl
theorem yp {k:Kd} {r:List Int}:∀ t∈r.map Nm.i,tot k t:=fun t h=>by
 obtain ⟨z,_,e⟩:=List.mem_map.mp h
 rw [← e]
 exact ik k z
theorem lP (k:Kd) (n:Int) (r:List Int):∀ j,wN k n (r.map Nm.i) j=uO k n r j
 | 0=>rfl
 | j+1=>by
  have e:(r.map Nm.i).getD j (.i 0)=.i (r.getD j 0):=by
   rw [List.getD_eq_getElem?_getD,List.getD_eq_getElem?_getD,List.getElem?_map]
   cases r[j]? <;> rfl
  unfold wN uO
  rw [lP k n r j,e]
theorem ye (k:Kd) (n:Int) (r:List Int):xH k n (r.map Nm.i)=zk k n r:=by
 unfold xH zk
 rw [List.length_map,lP]
theorem jL {k:Kd} {n:Int} {r:List Int} (hn:k.ok n) (h:Legal k n r):yw k (zk k n r)=true:=by
 by_cases hf:k=.falling
 ·subst hf
  have:=h.lg.nonneg hn.1
  obtain ⟨a,e⟩:=yj .falling n r
  rw [e] at this ⊢
  exact decide_eq_true this
 ·have h5:k.five=true:=by cases k <;> first | rfl | exact absurd rfl hf
  by_cases hk:uk k
  ·have a:=(oF (f:=fun i=>r.getD i 0) hk hn r.length fun i hi=>h.fig i hi).1
   obtain ⟨x,e⟩:=xI (pX hk) (yj k n r)
   have:zk k n r=wF k n (fun i=>r.getD i 0) r.length:=ve k n r _
   rw [← this,e] at a
   rw [e]
   have a':0≤x:=a
   rcases hk with rfl | rfl <;> exact decide_eq_true a'
  ·exact rL h5 hk (yj k n r)
theorem jW {k:Kd} {n:Int} {r:List Int} (hn:k.ok n) (h:Legal k n r) (hl:r.length≤2000):∀ t∈r,t.natAbs≤4000:=by
 intro t ht
 obtain ⟨i,hi,e⟩:=List.getElem_of_mem ht
 have f:=h.fig i hi
 have eg:r.getD i 0=t:=by rw [List.getD_eq_getElem?_getD,List.getElem?_eq_getElem hi,e]; rfl
 rw [eg] at f
 obtain ⟨b1,b2⟩:=tV hn
 have sq:n*n≤3600:=by have:=Int.mul_le_mul b2 b2 (by omega) (by omega); omega
 cases k <;> simp only [Kd.low,Kd.high] at f <;> omega
abbrev Stp:=Bool × Nat
def hf (h:List Int) (p:Nat):Int:=h.getD p 0
def pt (a:Nat) (c:Int) (i:Nat):Int:=if i=a then c else 0
def chg (n:Int):Stp→List (Nat × Int)
 | (true,p)=>[(p+1,1),(p,-n),(p - 1,-1)]
 | (false,0)=>[(1,1),(0,-n - 1)]
 | (false,1)=>[(2,1),(1,-n - 1),(0,n)]
 | (false,p+2)=>[(p+3,1),(p+2,-n - 1),(p+1,n - 1),(p,1)]
def R1:List (Nat × Int)→Nat→Int
 | [],_=>0
 | x::l,i=>pt x.1 x.2 i+R1 l i
def dlt (n:Int) (s:Stp) (i:Nat):Int:=R1 (chg n s) i
def Can (n:Int):Stp→(Nat→Int)→Prop
 | (true,p),f=>0<p∧n≤f p∧0<f (p - 1)
 | (false,p),f=>n<f p
def sm (w f:Nat→Int):Nat→Int
 | 0=>0
 | m+1=>sm w f m+f m*w m
theorem mj (w f g:Nat→Int):∀ m,sm w (fun i=>f i+g i) m=sm w f m+sm w g m
 | 0=>rfl
 | m+1=>by
  show sm w (fun i=>f i+g i) m+(f m+g m)*w m=(sm w f m+f m*w m)+(sm w g m+g m*w m)
  rw [mj w f g m,Int.add_mul]
  omega
theorem Ty {n:Int} {p:Nat} (h:0<p):dlt n (true,p) p=-n∧dlt n (true,p) (p - 1)=-1∧∀ i,i≠p→i≠p - 1→0≤dlt n (true,p) i:=by
 refine ⟨?_,?_,fun i h1 h2=>?_⟩
 ·show pt (p+1) 1 p+(pt p (-n) p+(pt (p - 1) (-1) p+0))=-n
  unfold pt
  rw [if_neg (by omega),if_pos rfl,if_neg (by omega)]
  omega
 ·show pt (p+1) 1 (p - 1)+(pt p (-n) (p - 1)+(pt (p - 1) (-1) (p - 1)+0))=-1
  unfold pt
  rw [if_neg (by omega),if_neg (by omega),if_pos rfl]
  omega
 ·show 0≤pt (p+1) 1 i+(pt p (-n) i+(pt (p - 1) (-1) i+0))
  unfold pt
  rw [if_neg h1,if_neg h2]
  split <;> omega
theorem dY {n:Int} (hn:1≤n) (p:Nat):dlt n (false,p) p=-n - 1∧∀ i,i≠p→0≤dlt n (false,p) i:=by
 match p with
 | 0=>
  refine ⟨?_,fun i h1=>?_⟩
  ·show pt 1 1 0+(pt 0 (-n - 1) 0+0)=_
   unfold pt
   rw [if_neg (by omega),if_pos rfl]
   omega
  ·show 0≤pt 1 1 i+(pt 0 (-n - 1) i+0)
   unfold pt
   rw [if_neg h1]
   split <;> omega
 | 1=>
  refine ⟨?_,fun i h1=>?_⟩
  ·show pt 2 1 1+(pt 1 (-n - 1) 1+(pt 0 n 1+0))=_
   unfold pt
   rw [if_neg (by omega),if_pos rfl,if_neg (by omega)]
   omega
  ·show 0≤pt 2 1 i+(pt 1 (-n - 1) i+(pt 0 n i+0))
   unfold pt
   rw [if_neg h1]
   split <;> split <;> omega
 | q+2=>
  refine ⟨?_,fun i h1=>?_⟩
  ·show pt (q+3) 1 (q+2)+(pt (q+2) (-n - 1) (q+2)+(pt (q+1) (n - 1) (q+2)+(pt q 1 (q+2)+0)))=_
   unfold pt
   rw [if_neg (by omega),if_pos rfl,if_neg (by omega),if_neg (by omega)]
   omega
  ·show 0≤pt (q+3) 1 i+(pt (q+2) (-n - 1) i+(pt (q+1) (n - 1) i+(pt q 1 i+0)))
   unfold pt
   rw [if_neg h1]
   split <;> split <;> split <;> omega
def Oft (n:Int):Stp→(Nat→Int)→Int→Prop
 | (true,p),f,m=>0<p∧m*n≤f p∧m≤f (p - 1)
 | (false,p),f,m=>m*(n+1)≤f p
theorem Oft.up {n m:Int} {s:Stp} {f:Nat→Int} (h:Oft n s f m):s.1=true→0<s.2:=by
 match s,h with
 | (true,p),h=>exact fun _=>h.1
 | (false,p),_=>exact fun z=>Bool.noConfusion z
theorem Oft.nonneg {n m:Int} (hn:1≤n) (hm:0≤m) {s:Stp} {f:Nat→Int} (h:Oft n s f m) (hf0:∀ i,0≤f i) (i:Nat):0≤f i+m*dlt n s i:=by
 have pos:∀ d:Int,0≤d→0≤f i+m*d:=fun d hd=>by
  have:=Int.mul_nonneg hm hd
  have:=hf0 i
  omega
 match s,h with
 | (true,p),⟨h1,h2,h3⟩=>
  obtain ⟨a,b,c⟩:=Ty (n:=n) h1
  by_cases e1:i=p
  ·subst e1; rw [a,Int.mul_neg]; omega
  by_cases e2:i=p - 1
  ·subst e2; rw [b,Int.mul_neg,Int.mul_one]; omega
  exact pos _ (c i e1 e2)
 | (false,p),h=>
  obtain ⟨a,c⟩:=dY hn p
  by_cases e1:i=p
  ·subst e1
   rw [a,show -n - 1=-(n+1) by omega,Int.mul_neg]
   have:m*(n+1)≤f i:=h
   omega
  exact pos _ (c i e1)
def Walk (n:Int):(Nat→Int)→List Stp→(Nat→Int)→Prop
 | f,[],g=>f=g
 | f,s::ss,g=>Can n s f∧Walk n (fun i=>f i+dlt n s i) ss g
theorem Walk.append {n:Int} {g k:Nat→Int} {ts:List Stp} (h2:Walk n g ts k):∀ {ss:List Stp} {f:Nat→Int},Walk n f ss g→Walk n f (ss++ts) k
 | [],_,h=>by rw [show _=g from h]; exact h2
 | s::ss,_,h=>⟨h.1,Walk.append h2 h.2⟩
theorem wz {h:List Int} {i:Nat} (hi:h.length≤i):hf h i=0:=by unfold hf; rw [List.getD_eq_getElem?_getD,List.getElem?_eq_none hi]; rfl
theorem mh (w:Nat→Int) {f:Nat→Int} {k:Nat} (h:∀ i,k≤i→f i=0):∀ m,k≤m→sm w f m=sm w f k
 | 0,hm=>by rw [show k=0 by omega]
 | m+1,hm=>by
  by_cases e:k=m+1
  ·rw [e]
  ·show sm w f m+f m*w m=_
   rw [h m (by omega),Int.zero_mul,mh w h m (by omega)]
   omega
def hw (n:Int) (h:List Int):Int:=sm (wf n) (hf h) h.length
theorem QM (l:List Int) (k i:Nat):hf (l++List.replicate k 0) i=hf l i:=by
 unfold hf
 rw [List.getD_eq_getElem?_getD,List.getD_eq_getElem?_getD]
 by_cases h:i<l.length
 ·rw [List.getElem?_append_left h]
 ·rw [List.getElem?_append_right (by omega),List.getElem?_eq_none (show l.length≤i by omega),List.getElem?_replicate]
  split <;> rfl
theorem Can.pos {n:Int} (hn:1≤n) {s:Stp} {f:Nat→Int} (h:Can n s f):0<f s.2:=by
 match s,h with
 | (true,p),⟨_,h2,_⟩=>show 0<f p; omega
 | (false,p),h=>
  have h:n<f p:=h
  show 0<f p; omega
theorem dA (k:Kd):yw k k.zero=true:=by cases k <;> rfl
def zE (a b:List Int):List Int:=(List.range (max a.length b.length)).map fun p=>a.getD p 0+b.getD p 0
theorem xU (a b:List Int):(zE a b).length=max a.length b.length:=by unfold zE; rw [List.length_map,List.length_range]
theorem Y8 (a b:List Int) (p:Nat):hf (zE a b) p=hf a p+hf b p:=by
 by_cases h:p<max a.length b.length
 ·unfold hf zE
  rw [List.getD_eq_getElem?_getD,List.getElem?_map,List.getElem?_range h]
  rfl
 ·rw [wz (by rw [xU]; omega),wz (by omega),wz (by omega)]
  rfl
theorem lM (k:Kd) (n:Int) (ns:List Int):∀ j,(uO k n ns j).re=sm (fun i=>(wt k n i).re) (hf ns) j
 | 0=>yr k
 | j+1=>by
  show ((uO k n ns j).add ((Nm.i (ns.getD j 0)).mul (wt k n j))).re=_
  rw [yi,zM,lM k n ns j]
  show _+(hf ns j*(wt k n j).re - 0*(wt k n j).im)=_
  rw [Int.zero_mul,Int.sub_zero]
  rfl
theorem lN (k:Kd) (n:Int) (ns:List Int):∀ j,(uO k n ns j).im=sm (fun i=>(wt k n i).im) (hf ns) j
 | 0=>yL k
 | j+1=>by
  show ((uO k n ns j).add ((Nm.i (ns.getD j 0)).mul (wt k n j))).im=_
  rw [yK,zX,lN k n ns j]
  show _+(hf ns j*(wt k n j).im+0*(wt k n j).re)=_
  rw [Int.zero_mul,Int.add_zero]
  rfl
theorem sZ {k:Kd} {n:Int} {r:List Int} {m:Nat} (h:r.length≤m):(zk k n r).re=sm (fun i=>(wt k n i).re) (hf r) m:=by
 rw [mh _ (fun i hi=>wz hi) m h]; exact lM k n r _
theorem s8 {k:Kd} {n:Int} {r:List Int} {m:Nat} (h:r.length≤m):(zk k n r).im=sm (fun i=>(wt k n i).im) (hf r) m:=by
 rw [mh _ (fun i hi=>wz hi) m h]; exact lN k n r _
theorem cx {k:Kd} {a b:Nm} (ha:a.ty k) (hb:b.ty k):(a.add b).ty k:=xA ha (xa hb)
theorem sY (k:Kd) (n:Int) (a b:List Int):zk k n (zE a b)=(zk k n a).add (zk k n b):=by
 have e:hf (zE a b)=fun p=>hf a p+hf b p:=funext (Y8 a b)
 have hl:=xU a b
 refine rM (yj k n _) (cx (yj k n a) (yj k n b)) ?_ ?_
 ·rw [yi,sZ (m:=(zE a b).length) (Nat.le_refl _),sZ (r:=a) (m:=(zE a b).length) (by omega),sZ (r:=b) (m:=(zE a b).length) (by omega),e,mj]
 ·rw [yK,s8 (m:=(zE a b).length) (Nat.le_refl _),s8 (r:=a) (m:=(zE a b).length) (by omega),s8 (r:=b) (m:=(zE a b).length) (by omega),e,mj]
theorem xY {k:Kd} {n:Int} {r:List Int} (hn:k.ok n) (h:Legal k n r) (hk:uk k):0≤(zk k n r).re:=by
 have:=jL hn h
 obtain ⟨a,e⟩:=xI (pX hk) (yj k n r)
 rw [e] at this ⊢
 rcases hk with rfl | rfl <;> exact of_decide_eq_true this
theorem ui {a b:List Int} {z:Int} (h:z∈zE a b):∃ p,z=hf a p+hf b p:=by
 unfold zE at h
 obtain ⟨p,_,rfl⟩:=List.mem_map.mp h
 exact ⟨p,rfl⟩
theorem sP {k:Kd} {n:Int} {r:List Int} (hn:k.ok n) (h:Legal k n r) (hl:r.length≤2000) (p:Nat):(hf r p).natAbs≤4000:=by
 by_cases hp:p<r.length
 ·refine jW hn h hl _ ?_
  unfold hf
  rw [List.getD_eq_getElem?_getD,List.getElem?_eq_getElem hp]
  exact List.getElem_mem _
 ·rw [wz (by omega)]; decide
def YO (a b:List Nm):List Nm:=(List.range (max a.length b.length)).map fun p=>(a.getD p (.i 0)).add (b.getD p (.i 0))
theorem q0 (a b:List Int):YO (a.map Nm.i) (b.map Nm.i)=(zE a b).map Nm.i:=by
 have e:∀ (l:List Int) (p:Nat),(l.map Nm.i).getD p (.i 0)=.i (l.getD p 0):=fun l p=>by
  rw [List.getD_eq_getElem?_getD,List.getD_eq_getElem?_getD,List.getElem?_map]
  cases l[p]? <;> rfl
 unfold YO zE
 rw [List.map_map,List.length_map,List.length_map]
 refine List.map_congr_left fun p _=>?_
 rw [e,e]
 rfl
theorem uc (r:List Int):zB r=ud (r.map Nm.i):=by unfold zB ud; rw [Wp]
def kR (a:List Int) (f:Nm):List Nm:=a.map fun z=>(Nm.i z).mul f
theorem iC (a:List Int) (f:Nm):(kR a f).length=a.length:=List.length_map _
def hv (k:Kd) (n:Int) (o:List Int):Nat→Nat→Nm
 | 0,_=>k.zero
 | m+1,p=>(Nm.i (o.getD p 0)).add ((k.ratN n p).mul (hv k n o m (p+1)))
def zY (a:List Int) (c:Int):List Int:=a.map (· * c)
theorem Wy (a:List Int) (c:Int):kR a (.i c)=(zY a c).map Nm.i:=by unfold kR zY; rw [List.map_map]; rfl
theorem oE (a:List Int) (c:Int) (p:Nat):hf (zY a c) p=hf a p*c:=by
 unfold hf zY
 rw [List.getD_eq_getElem?_getD,List.getD_eq_getElem?_getD,List.getElem?_map]
 cases a[p]? with
 | none=>show (0:Int)=0*c; rw [Int.zero_mul]
 | some z=>rfl
theorem kM {a:List Int} {i:Nat} (h:i<a.length):a.take (i+1)=a.take i++[a.getD i 0]:=by
 rw [List.take_succ,List.getD_eq_getElem?_getD,List.getElem?_eq_getElem h]
 rfl
def mNx (k:Kd) (n:Int) (c:Nm) (t:Int):Nm:=sC k n 0 (c.add (.i t))
def mFg (k:Kd) (n:Int) (c:Nm) (t:Int):Int:=sF k n 0 (c.add (.i t))
abbrev MR:=Nm × Int × Int × Nm
def tG (k:Kd) (n:Int) (c:Nm) (t:Int):MR:=(c,t,mFg k n c t,mNx k n c t)
def mDt (r:MR):Dt:=.tup [r.1.dt,.int r.2.1,.int r.2.2.1,r.2.2.2.dt]
def wv (lo hi:Int):List Int:=(List.range (hi+1 - lo).toNat).map fun (i:Nat)=>lo+(i:Int)
def wD (k:Kd) (n lo hi:Int) (L:List Nm):List MR:=L.flatMap fun c=>(wv lo hi).map (tG k n c)
def xX (L:List Nm) (c:Nm):List Nm:=if c∈L then L else L++[c]
def xQ (z:Nm) (R:List MR):List Nm:=R.foldl (fun L r=>xX L r.2.2.2) [z]
def Kd.one:Kd→Bool
 | .growing=>false | .falling=>false | _=>true
def Kd.far (k:Kd) (n:Int):Int:=match k with
 | .pairs=>if 2*n*n<60 then 2*n*n else 60
 | _=>60
def tW (k:Kd) (n lo hi:Int):Prop:=lo≤0∧0≤hi∧-(k.far n)≤lo∧hi≤k.far n
def mBd (k:Kd) (c:Nm):Prop:=match k with
 | .pairs=>∃ a b,c=.p a b∧a*a+b*b≤361
 | _=>∃ a,c=.i a∧-122≤a∧a≤122
structure Mach (k:Kd) (n lo hi:Int) (L:List Nm) (R:List MR):Prop where
 fnd:L=xQ k.zero R
 rws:R=wD k n lo hi L
 bd:∀ c∈L,mBd k c
theorem yP {k:Kd} (h:k.one=true):k.five=true:=by cases k <;> first | rfl | cases h
theorem vN {k:Kd} {c:Nm} (h:mBd k c):c.ty k:=by
 cases k <;> first | (obtain ⟨a,e,_⟩:=h; exact ⟨a,e⟩) | (obtain ⟨a,b,e,_⟩:=h; exact ⟨a,b,e⟩)
theorem eY (k:Kd):mBd k k.zero:=by cases k <;> first | exact ⟨0,rfl,by decide,by decide⟩ | exact ⟨0,0,rfl,by decide⟩
theorem rP {a u A U:Int} (h1:-A≤a) (h2:a≤A) (h3:-U≤u) (h4:u≤U):a*u≤A*U:=by
 have e1:=Int.mul_nonneg (show 0≤A - a by omega) (show 0≤U+u by omega)
 have e2:=Int.mul_nonneg (show 0≤A+a by omega) (show 0≤U - u by omega)
 have e:(A - a)*(U+u)+(A+a)*(U - u)=2*(A*U) - 2*(a*u):=by grind
 omega
theorem lS {a b:Int} (h:a*a+b*b≤361):-19≤a∧a≤19∧-19≤b∧b≤19:=by
 have sq:∀ x:Int,0≤x*x:=fun x=>by
  rcases Int.le_total 0 x with h | h
  ·exact Int.mul_nonneg h h
  ·exact Int.mul_nonneg_of_nonpos_of_nonpos h h
 have far:∀ x:Int,x*x≤361→-19≤x∧x≤19:=fun x hx=>by
  refine ⟨Int.not_lt.mp fun z=>?_,Int.not_lt.mp fun z=>?_⟩
  ·have:=Int.mul_le_mul (show 20≤-x by omega) (show 20≤-x by omega) (by omega) (by omega)
   rw [Int.neg_mul_neg] at this
   omega
  ·have:=Int.mul_le_mul (show 20≤x by omega) (show 20≤x by omega) (by omega) (by omega)
   omega
 have ha:=sq a
 have hb:=sq b
 obtain ⟨a1,a2⟩:=far a (by omega)
 obtain ⟨b1,b2⟩:=far b (by omega)
 exact ⟨a1,a2,b1,b2⟩
theorem ol {r c:Int} (h:2≤r) (l:-(182+r)≤r*c) (u:r*c≤182+r):-122≤c∧c≤122:=by
 refine ⟨Int.not_lt.mp fun z=>?_,Int.not_lt.mp fun z=>?_⟩
 ·have:=Int.mul_le_mul_of_nonneg_left (show c≤-123 by omega) (show 0≤r by omega)
  omega
 ·have:=Int.mul_le_mul_of_nonneg_left (show 123≤c by omega) (show 0≤r by omega)
  omega
theorem Ti {k:Kd} {n:Int} {c:Nm} {t:Int} (h1:k.one=true) (hn:k.ok n) (hc:mBd k c) (t1:-(k.far n)≤t) (t2:t≤k.far n):mBd k (mNx k n c t):=by
 have h5:=yP h1
 have hty:=xA (t:=.i t) (vN hc) (fun _=>⟨t,rfl⟩)
 obtain ⟨f1,f2,g1,g2⟩:=xc (j:=0) h5 hn hty
 rw [yi,zM] at g1
 rw [yK,zX] at g2
 have hx:=o7 k n 0 (c.add (.i t))
 obtain ⟨b1,b2⟩:=hn
 show mBd k (sC k n 0 (c.add (.i t)))
 generalize sC k n 0 (c.add (.i t))=d at *
 generalize sF k n 0 (c.add (.i t))=f at *
 cases k with
 | growing=>cases h1
 | falling=>cases h1
 | plain=>
  obtain ⟨a,rfl,a1,a2⟩:=hc
  obtain ⟨x,rfl⟩:=hx
  have t1':-60≤t:=t1
  have t2':t≤60:=t2
  have g:a+t=f+(n*x - 0*0):=g1
  have f1':0≤f:=f1
  have f2':f≤n - 1:=f2
  have b1':2≤n:=b1
  exact ⟨x,rfl,ol b1' (by omega) (by omega)⟩
 | below=>
  obtain ⟨a,rfl,a1,a2⟩:=hc
  obtain ⟨x,rfl⟩:=hx
  have t1':-60≤t:=t1
  have t2':t≤60:=t2
  have g:a+t=f+(-n*x - 0*0):=g1
  have f1':0≤f:=f1
  have f2':f≤n - 1:=f2
  have b1':2≤n:=b1
  rw [Int.neg_mul] at g
  exact ⟨x,rfl,ol b1' (by omega) (by omega)⟩
 | balanced=>
  obtain ⟨a,rfl,a1,a2⟩:=hc
  obtain ⟨x,rfl⟩:=hx
  have t1':-60≤t:=t1
  have t2':t≤60:=t2
  have g:a+t=f+((2*n+1)*x - 0*0):=g1
  have f1':-n≤f:=f1
  have f2':f≤n:=f2
  have b1':1≤n:=b1
  exact ⟨x,rfl,ol (r:=2*n+1) (by omega) (by omega) (by omega)⟩
 | pairs=>
  obtain ⟨a,b,rfl,hab⟩:=hc
  obtain ⟨x,y,rfl⟩:=hx
  refine ⟨x,y,rfl,?_⟩
  have g:a+t=f+(-n*x - 1*y):=g1
  have g':b+0=-n*y+1*x:=g2
  have f1':0≤f:=f1
  have f2':f≤n*n:=f2
  have b1':1≤n:=b1
  have b2':n≤9:=b2
  obtain ⟨a1,a2,_,_⟩:=lS hab
  have key:(n*n+1)*(x*x+y*y)=(a+(t - f))*(a+(t - f))+b*b:=by
   have e1:a+(t - f)=-n*x - y:=by omega
   have e2:b=x - n*y:=by
    rw [Int.neg_mul] at g'
    omega
   rw [e1,e2]
   grind
  have key2:(a+(t - f))*(a+(t - f))+b*b=(a*a+b*b)+2*(a*(t - f))+(t - f)*(t - f):=by grind
  have go:∀ U:Int,-U≤t - f→t - f≤U→361+38*U+U*U<362*(n*n+1)→x*x+y*y≤361:=fun U u1 u2 hU=>by
   have m1:=rP a1 a2 u1 u2
   have m2:=rP u1 u2 u1 u2
   have:(n*n+1)*(x*x+y*y)<(n*n+1)*362:=by
    rw [key,key2]
    omega
   have:=Int.lt_of_mul_lt_mul_left this (by
    have:=Int.mul_nonneg (show 0≤n by omega) (show 0≤n by omega)
    omega)
   omega
  unfold Kd.far at t1 t2
  dsimp only at t1 t2
  have hcase:n=1∨n=2∨n=3∨n=4∨n=5∨n=6∨n=7∨n=8∨n=9:=by omega
  rcases hcase with rfl | rfl | rfl | rfl | rfl | rfl | rfl | rfl | rfl
  ·exact go 3 (by omega) (by omega) (by decide)
  ·exact go 12 (by omega) (by omega) (by decide)
  ·exact go 27 (by omega) (by omega) (by decide)
  ·exact go 48 (by omega) (by omega) (by decide)
  ·exact go 75 (by omega) (by omega) (by decide)
  ·exact go 96 (by omega) (by omega) (by decide)
  ·exact go 109 (by omega) (by omega) (by decide)
  ·exact go 124 (by omega) (by omega) (by decide)
  ·exact go 141 (by omega) (by omega) (by decide)
theorem mE:∀ (N:Nat) (l:List Nat),l.Nodup→(∀ x∈l,x<N)→l.length≤N
 | 0,l,_,h=>by
  cases l with
  | nil=>exact Nat.le_refl _
  | cons x _=>exact absurd (h x (List.mem_cons_self ..)) (Nat.not_lt_zero _)
 | N+1,l,hd,h=>by
  by_cases hm:N∈l
  ·have ih:=mE N (l.erase N) (hd.erase N) fun x hx=>by
    obtain ⟨h1,h2⟩:=(List.Nodup.mem_erase_iff hd).mp hx
    have:=h x h2
    omega
   rw [List.length_erase_of_mem hm] at ih
   omega
  ·have ih:=mE N l hd fun x hx=>by
    have:=h x hx
    have:x≠N:=fun e=>hm (e ▸ hx)
    omega
   omega
def tX:Nm→Nat
 | .i a=>(a+122).toNat
 | .p a b=>((a+19)*39+(b+19)).toNat
theorem eX {k:Kd} {c:Nm} (h:mBd k c):tX c<1600:=by
 cases k with
 | pairs=>
  obtain ⟨a,b,rfl,h⟩:=h
  obtain ⟨h1,h2,h3,h4⟩:=lS h
  simp only [tX]
  omega
 | _=>
  obtain ⟨a,rfl,h1,h2⟩:=h
  simp only [tX]
  omega
theorem jJ {k:Kd} {c d:Nm} (h:mBd k c) (h':mBd k d) (e:tX c=tX d):c=d:=by
 cases k with
 | pairs=>
  obtain ⟨a,b,rfl,h⟩:=h
  obtain ⟨a',b',rfl,h'⟩:=h'
  obtain ⟨h1,h2,h3,h4⟩:=lS h
  obtain ⟨h1',h2',h3',h4'⟩:=lS h'
  simp only [tX] at e
  obtain ⟨e1,e2⟩:a=a'∧b=b':=by omega
  rw [e1,e2]
 | _=>
  obtain ⟨a,rfl,h1,h2⟩:=h
  obtain ⟨a',rfl,h1',h2'⟩:=h'
  simp only [tX] at e
  have e1:a=a':=by omega
  rw [e1]
theorem YR {k:Kd} {L:List Nm} (hd:L.Nodup) (hb:∀ c∈L,mBd k c):L.length≤1600:=by
 have:=mE 1600 (L.map tX) (by
  refine List.pairwise_map.mpr (List.Pairwise.imp_of_mem (fun {a b} ha hb' hne e=>hne (jJ (hb a ha) (hb b hb') e)) hd)) (fun x hx=>by
  obtain ⟨c,hc,rfl⟩:=List.mem_map.mp hx
  exact eX (hb c hc))
 rwa [List.length_map] at this
theorem YS {L:List Nm} {c:Nm} (h:L.Nodup):(xX L c).Nodup:=by
 unfold xX
 split
 ·exact h
 ·rename_i hc
  exact List.nodup_append.mpr ⟨h,List.nodup_cons.mpr ⟨List.not_mem_nil,List.nodup_nil⟩,fun a ha b hb e=>hc (by rw [List.mem_singleton] at hb; rw [← hb,← e]; exact ha)⟩
theorem m9 (z:Nm) (R:List MR) (r:MR):xQ z (R++[r])=xX (xQ z R) r.2.2.2:=by
 unfold xQ
 rw [List.foldl_append]
 rfl
theorem kl:∀ (R:List MR) (L:List Nm),L.Nodup→(R.foldl (fun L r=>xX L r.2.2.2) L).Nodup
 | [],_,h=>h
 | _::R,_,h=>kl R _ (YS h)
theorem qa (z:Nm) (R:List MR):(xQ z R).Nodup:=kl R [z] (List.nodup_cons.mpr ⟨List.not_mem_nil,List.nodup_nil⟩)
theorem nO:∀ (R:List MR) (L:List Nm),∃ ex,R.foldl (fun L r=>xX L r.2.2.2) L=L++ex
 | [],L=>⟨[],(List.append_nil _).symm⟩
 | r::R,L=>by
  obtain ⟨ex,e⟩:=nO R (xX L r.2.2.2)
  show ∃ ex,R.foldl (fun L r=>xX L r.2.2.2) (xX L r.2.2.2)=L++ex
  rw [e]
  unfold xX
  split
  ·exact ⟨_,rfl⟩
  ·exact ⟨_,by rw [List.append_assoc]⟩
theorem m_ (z:Nm) (R:List MR):∃ ex,xQ z R=z::ex:=nO R [z]
theorem kS (k:Kd) (n lo hi:Int) (L:List Nm) (c:Nm):wD k n lo hi (L++[c])=wD k n lo hi L++(wv lo hi).map (tG k n c):=by
 unfold wD
 rw [List.flatMap_append]
 simp
theorem uj (k:Kd) (n lo hi:Int):∀ L:List Nm,(wD k n lo hi L).length=L.length*(hi+1 - lo).toNat
 | []=>by simp [wD]
 | c::L=>by
  have ih:=uj k n lo hi L
  unfold wD at ih ⊢
  rw [List.flatMap_cons,List.length_append,ih,List.length_map,List.length_cons,Nat.succ_mul]
  unfold wv
  rw [List.length_map,List.length_range,Nat.add_comm]
def Nm.key:Nm→KD
 | .i a=>.ki a
 | .p a b=>.kp [a,b]
def Kd.md:Kd→KM
 | .pairs=>.mp
 | _=>.mi
def zS (c:Nm) (t:Int):KD:=match c with
 | .i a=>.kp [a,t]
 | .p a b=>.kn [a,b] t
def Kd.mdl:Kd→KM
 | .pairs=>.mn
 | _=>.mp
def wR (r:MR):KD × Dt:=(zS r.1 r.2.1,.tup [.int r.2.2.1,r.2.2.2.dt])
theorem mT (c:Nm):c.dt=KD.dt c.key:=by cases c <;> rfl
theorem mS {k:Kd} {c:Nm} (h:c.ty k):c.key.md=k.md:=by
 by_cases hk:k=.pairs
 ·subst hk; obtain ⟨a,b,rfl⟩:=h; rfl
 ·obtain ⟨a,rfl⟩:=xI hk h
  cases k <;> first | rfl | exact absurd rfl hk
theorem uu (c:Nm) (t:Int):Dt.tup [c.dt,.int t]=KD.dt (zS c t):=by cases c <;> rfl
theorem ut {k:Kd} {c:Nm} (t:Int) (h:c.ty k):(zS c t).md=k.mdl:=by
 by_cases hk:k=.pairs
 ·subst hk; obtain ⟨a,b,rfl⟩:=h; rfl
 ·obtain ⟨a,rfl⟩:=xI hk h
  cases k <;> first | rfl | exact absurd rfl hk
theorem YY {c d:Nm} (h:c.key=d.key):c=d:=by
 cases c <;> cases d <;> simp only [Nm.key] at h <;> cases h <;> rfl
theorem tH {c d:Nm} {t u:Int} (h:zS c t=zS d u):c=d∧t=u:=by
 cases c <;> cases d <;> simp only [zS] at h <;> cases h <;> exact ⟨rfl,rfl⟩
theorem ww {kvs:DKV} {k:KD} (h:∀ x∈kvs,x.1≠k):zR kvs k=none:=by
 unfold zR
 rw [List.find?_eq_none.mpr fun x hx=>by rw [decide_eq_true_iff]; exact h x hx]
 rfl
theorem rT {kvs:DKV} {k:KD} {v:Dt} (hd:(kvs.map (·.1)).Nodup) (h:(k,v)∈kvs):zR kvs k=some v:=by
 unfold zR
 induction kvs with
 | nil=>cases h
 | cons x xs ih=>
  rw [List.map_cons,List.nodup_cons] at hd
  rw [List.find?_cons]
  rcases List.mem_cons.mp h with e | e
  ·subst e
   rw [decide_eq_true rfl]
   rfl
  ·rw [decide_eq_false fun z=>hd.1 (by rw [z]; exact List.mem_map.mpr ⟨_,e,rfl⟩)]
   exact ih hd.2 e
def wV (L:List Nm):DKV:=L.map fun c=>(c.key,Dt.bl true)
theorem nI {L:List Nm} {c:Nm}:(!(zR (wV L) c.key).isSome)=!(decide (c∈L)):=by
 by_cases h:c∈L
 ·have:(zR (wV L) c.key).isSome=true:=by
   unfold zR
   rw [Option.isSome_map,List.find?_isSome]
   exact ⟨_,List.mem_map.mpr ⟨c,h,rfl⟩,by rw [decide_eq_true_iff]⟩
  rw [this,decide_eq_true h]
 ·rw [ww fun x hx e=>?_,decide_eq_false h]
  ·rfl
  ·obtain ⟨d,hd,rfl⟩:=List.mem_map.mp hx
   exact h (YY e ▸ hd)
theorem Wo (lo hi:Int):(wv lo hi).Nodup:=by
 unfold wv
 exact List.pairwise_map.mpr (List.Pairwise.imp (fun h e=>h (by omega)) List.nodup_range)
theorem tot_mem {lo hi t:Int}:t∈wv lo hi↔lo≤t∧t≤hi:=by
 unfold wv
 rw [List.mem_map]
 constructor
 ·rintro ⟨i,hi',rfl⟩
  rw [List.mem_range] at hi'
  omega
 ·rintro ⟨h1,h2⟩
  exact ⟨(t - lo).toNat,by rw [List.mem_range]; omega,by omega⟩
theorem YV {k:Kd} {n lo hi:Int} {L:List Nm} (h:L.Nodup):((wD k n lo hi L).map fun r=>zS r.1 r.2.1).Nodup:=by
 unfold wD
 rw [List.map_flatMap]
 refine List.pairwise_flatMap.mpr ⟨fun c _=>?_,?_⟩
 ·rw [List.map_map]
  exact List.pairwise_map.mpr (List.Pairwise.imp (fun hne e=>hne (tH e).2) (Wo lo hi))
 ·refine List.Pairwise.imp (fun {c d} hne x hx y hy e=>?_) h
  obtain ⟨r,hr,rfl⟩:=List.mem_map.mp hx
  obtain ⟨t,_,rfl⟩:=List.mem_map.mp hr
  obtain ⟨r',hr',rfl⟩:=List.mem_map.mp hy
  obtain ⟨t',_,rfl⟩:=List.mem_map.mp hr'
  exact hne (tH e).1
theorem rows_mem {k:Kd} {n lo hi:Int} {L:List Nm} {r:MR}:r∈wD k n lo hi L↔∃ c t,c∈L∧lo≤t∧t≤hi∧r=tG k n c t:=by
 unfold wD
 rw [List.mem_flatMap]
 constructor
 ·rintro ⟨c,hc,h⟩
  obtain ⟨t,ht,rfl⟩:=List.mem_map.mp h
  exact ⟨c,t,hc,(tot_mem.mp ht).1,(tot_mem.mp ht).2,rfl⟩
 ·rintro ⟨c,t,hc,h1,h2,rfl⟩
  exact ⟨c,hc,List.mem_map.mpr ⟨t,tot_mem.mpr ⟨h1,h2⟩,rfl⟩⟩
theorem qr {lo hi:Int} {i:Nat} (h:i<(hi+1 - lo).toNat):(wv lo hi).take (i+1)=(wv lo hi).take i++[lo+(i:Int)]:=by
 unfold wv
 rw [List.take_succ,List.getElem?_map,List.getElem?_range h]
 rfl
theorem cU (lo hi:Int):(wv lo hi).length=(hi+1 - lo).toNat:=by
 unfold wv
 rw [List.length_map,List.length_range]
theorem Mach.lnd {k:Kd} {n lo hi:Int} {L:List Nm} {R:List MR} (M:Mach k n lo hi L R):L.Nodup:=by rw [M.fnd]; exact qa _ _
theorem Mach.len {k:Kd} {n lo hi:Int} {L:List Nm} {R:List MR} (M:Mach k n lo hi L R) (h:(hi+1 - lo).toNat≤121):R.length≤193600:=by
 have h1:=YR M.lnd M.bd
 have e:R.length=L.length*(hi+1 - lo).toNat:=by rw [← uj k n lo hi L,← M.rws]
 have:=Nat.mul_le_mul h1 h
 omega
theorem Mach.ty {k:Kd} {n lo hi:Int} {L:List Nm} {R:List MR} (M:Mach k n lo hi L R):∀ r∈R,r.1.ty k:=by
 intro r hr
 rw [M.rws] at hr
 obtain ⟨c,t,hc,_,_,rfl⟩:=rows_mem.mp hr
 exact vN (M.bd c hc)
theorem Mach.knd {k:Kd} {n lo hi:Int} {L:List Nm} {R:List MR} (M:Mach k n lo hi L R):(R.map fun r=>zS r.1 r.2.1).Nodup:=by
 have h:=YV (k:=k) (n:=n) (lo:=lo) (hi:=hi) M.lnd
 rwa [← M.rws] at h
theorem Rs (k:Kd) (n:Int):k.far n≤60:=by
 cases k <;> first | exact Int.le_refl _ | (show (if 2 * n * n < 60 then 2 * n * n else 60)≤60; split <;> omega)
theorem iw {k:Kd} {n lo hi:Int} (h:tW k n lo hi):(hi+1 - lo).toNat≤121:=by
 obtain ⟨h1,h2,h3,h4⟩:=h
 have:=Rs k n
 omega
theorem nD {R:List MR} {i:Nat} {r:MR} (hnd:(R.map fun r=>zS r.1 r.2.1).Nodup) (hr:R[i]? = some r):zR ((R.take i).map wR) (zS r.1 r.2.1)=none:=by
 have hi:=(List.getElem?_eq_some_iff.mp hr).1
 refine ww fun x hx e=>?_
 obtain ⟨r',hr',rfl⟩:=List.mem_map.mp hx
 obtain ⟨j,hj⟩:=List.mem_iff_getElem?.mp hr'
 have hji:j<i:=by
  have:=(List.getElem?_eq_some_iff.mp hj).1
  rw [List.length_take] at this
  omega
 rw [List.getElem?_take_of_lt hji] at hj
 have h1:(R.map fun r=>zS r.1 r.2.1)[j]? = some (zS r'.1 r'.2.1):=by rw [List.getElem?_map,hj]; rfl
 have h2:(R.map fun r=>zS r.1 r.2.1)[i]? = some (zS r.1 r.2.1):=by rw [List.getElem?_map,hr]; rfl
 have e:zS r'.1 r'.2.1=zS r.1 r.2.1:=e
 rw [e] at h1
 have:=(List.getElem?_inj (by rw [List.length_map]; omega) hnd).mp (h1.trans h2.symm)
 omega
def mgC (k:Kd) (n:Int):Nm→List Int→Nm
 | c,[]=>c
 | c,t::ts=>mgC k n (mNx k n c t) ts
def mgF (k:Kd) (n:Int):Nm→List Int→List Int
 | _,[]=>[]
 | c,t::ts=>mFg k n c t::mgF k n (mNx k n c t) ts
theorem ur (k:Kd) (n:Int) (t:Int):∀ (ts:List Int) (c:Nm),mgC k n c (ts++[t])=mNx k n (mgC k n c ts) t
 | [],_=>rfl
 | _::ts,_=>ur k n t ts _
theorem rQ (k:Kd) (n:Int) (t:Int):∀ (ts:List Int) (c:Nm),mgF k n c (ts++[t])=mgF k n c ts++[mFg k n (mgC k n c ts) t]
 | [],_=>rfl
 | u::ts,c=>by
  show mFg k n c u::mgF k n (mNx k n c u) (ts++[t])=_
  rw [rQ k n t ts]
  rfl
theorem l9 (k:Kd) (n:Int):∀ (ts:List Int) (c:Nm),(mgF k n c ts).length=ts.length
 | [],_=>rfl
 | _::ts,_=>by
  show (mgF k n _ ts).length+1=ts.length+1
  rw [l9 k n ts]
theorem qc:∀ (R:List MR) (L:List Nm),(∀ c∈L,c∈R.foldl (fun L r=>xX L r.2.2.2) L)∧∀ r∈R,r.2.2.2∈R.foldl (fun L r=>xX L r.2.2.2) L
 | [],_=>⟨fun _ h=>h,fun _ h=>nomatch h⟩
 | r::R,L=>by
  obtain ⟨h1,h2⟩:=qc R (xX L r.2.2.2)
  have s1:∀ c∈L,c∈xX L r.2.2.2:=fun c hc=>by
   unfold xX
   split
   ·exact hc
   ·exact List.mem_append_left _ hc
  have s2:r.2.2.2∈xX L r.2.2.2:=by
   unfold xX
   split
   ·assumption
   ·exact List.mem_append_right _ (List.mem_singleton.mpr rfl)
  refine ⟨fun c hc=>h1 c (s1 c hc),fun r' hr'=>?_⟩
  rcases List.mem_cons.mp hr' with rfl | hr'
  ·exact h1 _ s2
  ·exact h2 r' hr'
theorem Mach.zero {k:Kd} {n lo hi:Int} {L:List Nm} {R:List MR} (M:Mach k n lo hi L R):k.zero∈L:=by
 rw [M.fnd]
 exact (qc R [k.zero]).1 _ (List.mem_singleton.mpr rfl)
theorem Mach.row {k:Kd} {n lo hi:Int} {L:List Nm} {R:List MR} (M:Mach k n lo hi L R) {c:Nm} {t:Int} (hc:c∈L) (h1:lo≤t) (h2:t≤hi):tG k n c t∈R:=by
 rw [M.rws]
 exact rows_mem.mpr ⟨c,t,hc,h1,h2,rfl⟩
theorem Mach.next {k:Kd} {n lo hi:Int} {L:List Nm} {R:List MR} (M:Mach k n lo hi L R) {c:Nm} {t:Int} (hc:c∈L) (h1:lo≤t) (h2:t≤hi):mNx k n c t∈L:=by
 have h:=(qc R [k.zero]).2 _ (M.row hc h1 h2)
 have e:xQ k.zero R=L:=M.fnd.symm
 rw [← e]
 exact h
theorem Mach.go {k:Kd} {n lo hi:Int} {L:List Nm} {R:List MR} (M:Mach k n lo hi L R):∀ (ts:List Int) (c:Nm),c∈L→(∀ t∈ts,lo≤t∧t≤hi)→mgC k n c ts∈L
 | [],_,h,_=>h
 | t::ts,c,h,ht=>M.go ts _ (M.next h (ht t (List.mem_cons_self ..)).1 (ht t (List.mem_cons_self ..)).2) fun u hu=>ht u (List.mem_cons_of_mem _ hu)
theorem Mach.look {k:Kd} {n lo hi:Int} {L:List Nm} {R:List MR} (M:Mach k n lo hi L R) {c:Nm} {t:Int} (hc:c∈L) (h1:lo≤t) (h2:t≤hi):zR (R.map wR) (zS c t)=some (.tup [.int (mFg k n c t),(mNx k n c t).dt]):=by
 refine rT ?_ (List.mem_map.mpr ⟨tG k n c t,M.row hc h1 h2,rfl⟩)
 have h:=M.knd
 rw [List.map_map]
 exact h
theorem Mach.none {k:Kd} {n lo hi:Int} {L:List Nm} {R:List MR} (M:Mach k n lo hi L R) {c:Nm} {t:Int} (h:¬ (lo≤t∧t≤hi)):zR (R.map wR) (zS c t)=Option.none:=by
 refine ww fun x hx e=>h ?_
 obtain ⟨r,hr,rfl⟩:=List.mem_map.mp hx
 rw [M.rws] at hr
 obtain ⟨c',t',_,h1,h2,rfl⟩:=rows_mem.mp hr
 obtain ⟨_,rfl⟩:=tH (show zS c' t'=zS c t from e)
 exact ⟨h1,h2⟩
theorem eV (k:Kd):k.mdl≠.mi:=by cases k <;> exact fun z=>nomatch z
theorem cW {p:Int→Prop} {ts:List Int} {i:Nat} {t:Int} (h:∀ u∈ts.take i,p u) (ht:p t) (hi:ts[i]? = some t):∀ u∈ts.take (i+1),p u:=by
 intro u hu
 rw [List.take_succ,hi] at hu
 rcases List.mem_append.mp hu with hu | hu
 ·exact h u hu
 ·cases List.mem_singleton.mp hu; exact ht
def Kd.nam:Kd→Str
 | .plain=>.ofString "plain"
 | .below=>.ofString "below"
 | .balanced=>.ofString "balanced"
 | .growing=>.ofString "growing"
 | .falling=>.ofString "falling"
 | .pairs=>.ofString "pairs"
theorem Rf (i:Int):∃ k:Kd,k.one=true∧atI [Dt.str (.ofString "plain"),.str (.ofString "below"),.str (.ofString "balanced"),.str (.ofString "pairs")] (i.fmod 4)=some (.str k.nam):=by
 have a0:=Int.fmod_nonneg_of_pos i (show (0:Int)<4 by decide)
 have a1:=Int.fmod_lt_of_pos i (show (0:Int)<4 by decide)
 rcases (by omega:i.fmod 4=0∨i.fmod 4=1∨i.fmod 4=2∨i.fmod 4=3) with e | e | e | e <;> rw [e]
 ·exact ⟨.plain,rfl,rfl⟩
 ·exact ⟨.below,rfl,rfl⟩
 ·exact ⟨.balanced,rfl,rfl⟩
 ·exact ⟨.pairs,rfl,rfl⟩
theorem r0 (ts:List Int) (i:Nat):(ts.map Nm.i).getD i (.i 0)=.i (ts.getD i 0):=by
 rw [List.getD_eq_getElem?_getD,List.getD_eq_getElem?_getD,List.getElem?_map]
 cases ts[i]? <;> rfl
theorem Ww {k:Kd} (h:k.one=true) (n:Int) (j:Nat) (t:Nm):sC k n j t=sC k n 0 t:=by cases k <;> first | rfl | cases h
theorem Wv {k:Kd} (h:k.one=true) (n:Int) (j:Nat) (t:Nm):sF k n j t=sF k n 0 t:=by cases k <;> first | rfl | cases h
theorem bg {k:Kd} (h:k.one=true) (n p:Int):k.ratN n p=k.ratN n 0:=by cases k <;> first | rfl | cases h
theorem e7 {k:Kd} (h:k.one=true) (n p:Int):k.low n p=k.low n 0∧k.high n p=k.high n 0:=by cases k <;> first | exact ⟨rfl,rfl⟩ | cases h
theorem eT {k:Kd} {n:Int} (h1:k.one=true) (ts:List Int):∀ i,i≤ts.length→mgC k n k.zero (ts.take i)=cAt k n (ts.map Nm.i) i∧mgF k n k.zero (ts.take i)=yd k n (ts.map Nm.i) i
 | 0,_=>⟨rfl,rfl⟩
 | i+1,h=>by
  obtain ⟨e1,e2⟩:=eT h1 ts i (by omega)
  obtain ⟨t,ht⟩:∃ t,ts[i]? = some t:=⟨_,List.getElem?_eq_getElem (by omega)⟩
  have et:ts.take (i+1)=ts.take i++[t]:=by rw [List.take_succ,ht]; rfl
  have eg:(ts.map Nm.i).getD i (.i 0)=.i t:=by rw [r0,List.getD_eq_getElem?_getD,ht]; rfl
  have c1:cAt k n (ts.map Nm.i) (i+1)=sC k n i ((cAt k n (ts.map Nm.i) i).add ((ts.map Nm.i).getD i (.i 0))):=rfl
  have c2:fAt k n (ts.map Nm.i) i=sF k n i ((cAt k n (ts.map Nm.i) i).add ((ts.map Nm.i).getD i (.i 0))):=rfl
  rw [et,ur,rQ,e1,e2,vo,c1,c2,eg,Ww h1,Wv h1]
  exact ⟨rfl,rfl⟩
theorem l5 (ts:List Int) (m j:Nat):(ts++List.replicate m 0).getD j 0=ts.getD j 0:=by
 rw [List.getD_eq_getElem?_getD,List.getD_eq_getElem?_getD]
 rcases Nat.lt_or_ge j ts.length with h | h
 ·rw [List.getElem?_append_left h]
 ·rw [List.getElem?_append_right h,List.getElem?_eq_none h,List.getElem?_replicate]
  split <;> rfl
theorem oM (k:Kd) (n:Int) (ts:List Int) (m:Nat):∀ j,cAt k n ((ts++List.replicate m 0).map Nm.i) j=cAt k n (ts.map Nm.i) j
 | 0=>rfl
 | j+1=>by
  show sC k n j ((cAt k n ((ts++List.replicate m 0).map Nm.i) j).add (((ts++List.replicate m 0).map Nm.i).getD j (.i 0)))=sC k n j ((cAt k n (ts.map Nm.i) j).add ((ts.map Nm.i).getD j (.i 0)))
  rw [oM k n ts m j,r0,r0,l5]
theorem Xc (k:Kd) (n:Int) (ts:List Int) (m j:Nat):fAt k n ((ts++List.replicate m 0).map Nm.i) j=fAt k n (ts.map Nm.i) j:=by
 show sF k n j ((cAt k n ((ts++List.replicate m 0).map Nm.i) j).add (((ts++List.replicate m 0).map Nm.i).getD j (.i 0)))=sF k n j ((cAt k n (ts.map Nm.i) j).add ((ts.map Nm.i).getD j (.i 0)))
 rw [oM,r0,r0,l5]
theorem dM (k:Kd) (n:Int) (ts:List Int) (m j:Nat):yd k n ((ts++List.replicate m 0).map Nm.i) j=yd k n (ts.map Nm.i) j:=by
 unfold yd
 exact List.map_congr_left fun i _=>Xc k n ts m i
theorem o8 {k:Kd} {n:Int} (h1:k.one=true) (ts:List Int) (m i:Nat) (hi:i≤ts.length+m):mgC k n k.zero ((ts++List.replicate m 0).take i)=cAt k n (ts.map Nm.i) i∧mgF k n k.zero ((ts++List.replicate m 0).take i)=yd k n (ts.map Nm.i) i:=by
 obtain ⟨e1,e2⟩:=eT (n:=n) h1 (ts++List.replicate m 0) i (by rw [List.length_append,List.length_replicate]; exact hi)
 exact ⟨e1.trans (oM k n ts m i),e2.trans (dM k n ts m i)⟩
theorem ma {k:Kd} {n:Int} (h1:k.one=true) (hn:k.ok n) (j:Nat):sC k n j k.zero=k.zero∧sF k n j k.zero=0:=by
 obtain ⟨b1,b2⟩:=tV hn
 obtain ⟨f1,f2,g1,g2⟩:=xc (j:=j) (yP h1) hn (yb k)
 obtain ⟨l1,l2⟩:=xt hn j
 have hz:=yb k
 have hx:=o7 k n j k.zero
 have:=tq (j:=j) (f:=sF k n j k.zero) (g:=0) (c:=sC k n j k.zero) (d:=k.zero) (yP h1) hn f1 f2 l1 l2 hx hz
 have key:(Nm.i (sF k n j k.zero)).add ((k.ratN n j).mul (sC k n j k.zero))=(Nm.i 0).add ((k.ratN n j).mul k.zero):=by
  generalize sC k n j k.zero=c at *
  generalize sF k n j k.zero=f at *
  rw [zM] at g1
  rw [zX] at g2
  cases k <;> try cases h1
  ·obtain ⟨a,rfl⟩:=hx
   have g1:(0:Int)=f+(n*a - 0*0):=g1
   show Nm.i (f+n*a)=Nm.i (0+n*0)
   rw [Int.mul_zero]
   exact congrArg Nm.i (by omega)
  ·obtain ⟨a,rfl⟩:=hx
   have g1:(0:Int)=f+(-n*a - 0*0):=g1
   show Nm.i (f + -n*a)=Nm.i (0 + -n*0)
   rw [Int.mul_zero]
   exact congrArg Nm.i (by omega)
  ·obtain ⟨a,rfl⟩:=hx
   have g1:(0:Int)=f+((2*n+1)*a - 0*0):=g1
   show Nm.i (f+(2*n+1)*a)=Nm.i (0+(2*n+1)*0)
   rw [Int.mul_zero]
   exact congrArg Nm.i (by omega)
  ·obtain ⟨a,b,rfl⟩:=hx
   have g1:(0:Int)=f+(-n*a - 1*b):=g1
   have g2:(0:Int)=-n*b+1*a:=g2
   show Nm.p (f+(-n*a - 1*b)) (0+(-n*b+1*a))=Nm.p (0+(-n*0 - 1*0)) (0+(-n*0+1*0))
   rw [Int.mul_zero,← g1,← g2]
   rfl
 exact ⟨(this key).2,(this key).1⟩
theorem oV {k:Kd} {n:Int} {ts:List Nm} (h1:k.one=true) (hn:k.ok n) {J:Nat} (hl:ts.length≤J) (hz:cAt k n ts J=k.zero):∀ m,cAt k n ts (J+m)=k.zero∧yd k n ts (J+m)=yd k n ts J++List.replicate m 0
 | 0=>⟨hz,(List.append_nil _).symm⟩
 | m+1=>by
  obtain ⟨e1,e2⟩:=oV h1 hn hl hz m
  obtain ⟨z1,z2⟩:=ma h1 hn (J+m)
  have eg:ts.getD (J+m) (.i 0)=.i 0:=by rw [List.getD_eq_getElem?_getD,List.getElem?_eq_none (by omega)]; rfl
  have ef:fAt k n ts (J+m)=0:=by
   show sF k n (J+m) ((cAt k n ts (J+m)).add (ts.getD (J+m) (.i 0)))=0
   rw [e1,eg,Wd (yb k),z2]
  refine ⟨?_,?_⟩
  ·show cAt k n ts (J+m+1)=_
   rw [sU (by omega),e1,z1]
  ·show yd k n ts (J+m+1)=_
   rw [vo,e2,ef,List.append_assoc,List.replicate_succ']
theorem o0 (r:List Int):∀ m,trim (r++List.replicate m 0)=trim r
 | 0=>by rw [List.replicate_zero,List.append_nil]
 | m+1=>by rw [List.replicate_succ',← List.append_assoc,xS,o0 r m]
theorem Tu {k:Kd} {n:Int} {ts:List Nm} (h1:k.one=true) (hn:k.ok n) (hb:mBd k (cAt k n ts ts.length)) (hh:yw k (cAt k n ts ts.length)=true):∃ J,Fin k n ts J∧J≤ts.length+40:=by
 have h5:=yP h1
 have main:∃ m,m≤40∧cAt k n ts (ts.length+m)=k.zero∧∀ i,yw k (cAt k n ts (ts.length+i))=true:=by
  have hc:∀ i,cAt k n ts (ts.length+(i+1))=sC k n (ts.length+i) (cAt k n ts (ts.length+i)):=fun i=>sU (j:=ts.length+i) (by omega)
  by_cases hk:k=.pairs
  ·subst hk
   obtain ⟨x,y,e,hxy⟩:=hb
   obtain ⟨m,hm,em⟩:=X7 hn.1 hn.2 9 ts.length (fun i=>cAt .pairs n ts (ts.length+i)) x y e hc (Int.le_trans hxy (by decide))
   refine ⟨m,by omega,em,fun i=>?_⟩
   obtain ⟨u,v,e'⟩:=ya .pairs n ts (ts.length+i)
   rw [e']
   rfl
  ·have h4:=sO h5 hk
   obtain ⟨t,et⟩:=xI hk (ya k n ts ts.length)
   rw [et] at hh hb
   have bd':t.natAbs≤2 ^ 7:=by
    cases k <;> first | (obtain ⟨a,ea,l1,l2⟩:=hb; cases ea; show t.natAbs≤128; omega) | exact absurd rfl hk
   obtain ⟨m,hm,em⟩:=dQ h4 hn 7 ts.length (fun i=>cAt k n ts (ts.length+i)) t et hc hh bd'
   refine ⟨m,by omega,em,fun i=>?_⟩
   obtain ⟨a,e',h'⟩:=rh h4 hn (c:=fun i=>cAt k n ts (ts.length+i)) et hc hh i
   have e':cAt k n ts (ts.length+i)=.i a:=e'
   rw [e']
   exact h'
 obtain ⟨m,hm,em,hall⟩:=main
 obtain ⟨i,hi,pi,hl⟩:=least (P:=fun i=>cAt k n ts (ts.length+i)=k.zero) m em
 refine ⟨ts.length+i,⟨by omega,pi,fun j h1 h2=>?_⟩,by omega⟩
 have e:j=ts.length+(j - ts.length):=by omega
 rw [e]
 exact ⟨hl _ (by omega),hall _⟩
theorem eS {n:Int} {ts:List Nm} (hn:Kd.plain.ok n) {l:Nat} (hl:ts.length≤l) {a:Int} (ha:cAt .plain n ts l=.i a) (h0:a<0):∀ m,∃ b,cAt .plain n ts (l+m)=.i b∧b<0
 | 0=>⟨a,ha,h0⟩
 | m+1=>by
  obtain ⟨b,eb,hb⟩:=eS hn hl ha h0 m
  obtain ⟨f1,f2,g1,_⟩:=xc (k:=.plain) (n:=n) (j:=l+m) (t:=.i b) rfl hn ⟨b,rfl⟩
  obtain ⟨d,ed⟩:=o7 .plain n (l+m) (.i b)
  refine ⟨d,by show cAt .plain n ts (l+m+1)=_; rw [sU (by omega),eb,ed],?_⟩
  rw [ed,zM] at g1
  have f1:0≤sF .plain n (l+m) (.i b):=f1
  have f2:sF .plain n (l+m) (.i b)≤n - 1:=f2
  have g1:b=sF .plain n (l+m) (.i b)+(n*d - 0*0):=g1
  have n2:(2:Int)≤n:=hn.1
  refine Int.not_le.mp fun hd=>?_
  have:=Int.mul_nonneg (show 0≤n by omega) hd
  omega
def c5 (k:Kd) (n:Int):Prop:=2*k.high n 0≤k.far n∧-(k.far n)≤2*k.low n 0∧k.high n 0 - k.low n 0≤k.far n∧k.high n 0 - k.low n 0≤30
def cL:DSp:=fun ds Q=>∃ c,ds=[.int c]∧∀ k n,k.one=true→k.ok n→c5 k n→Q (.tup [.str (Kd.nam k),.int n])
def oU:DSp:=fun ds Q=>∃ k n,ds=[.str (Kd.nam k),.int n]∧k.one=true∧k.ok n∧Q (.tup [.int (k.low n 0),.int (k.high n 0)])
def cC:DSp:=fun ds Q=>∃ k n,∃ cs:List Int,ds=[.tup [.int (Kd.low k n 0),.int (k.high n 0)],zB cs]∧k.one=true∧k.ok n∧cs.length≤1000∧∀ r,Legal k n r→r.length≤cs.length→Q (zB r)
def lD:DSp:=fun ds Q=>∃ (a b:List Int) (s:Int),ds=[zB a,zB b,.int s]∧(s=1∨s=-1)∧a.length≤1000∧b.length≤1000∧Q (zB (zE a (zY b s)))
def lE:DSp:=fun ds Q=>∃ r:List Int,ds=[zB r]∧r.length≤1000∧Q (zB (trim r))
def cH:DSp:=fun ds Q=>∃ k n,∃ m:Nm,ds=[.str (Kd.nam k),.int n,.tup [.int m.re,.int m.im]]∧k.one=true∧k.ok n∧m.ty k∧Q (.tup [.int ((k.ratN n 0).mul m).re,.int ((k.ratN n 0).mul m).im])
def cG:DSp:=fun ds Q=>∃ k n,∃ r:List Int,ds=[.str (Kd.nam k),.int n,zB r]∧k.one=true∧k.ok n∧r.length≤1000∧Q (.tup [.int (zk k n r).re,.int (zk k n r).im])
def xF (k:Kd) (n:Int) (ts:List Int) (m:Nat):List Dt:=(List.range m).map fun i=>(mgC k n k.zero (ts.take i)).dt
structure Adr where
 Plain:Addr
 Below:Addr
 Balanced:Addr
 Growing:Addr
 Falling:Addr
 Pairs:Addr
 Machine:Addr
 TooLess:Addr
 NoRatio:Addr
 NoSpan:Addr
 NoTotal:Addr
structure Txt (K:PySem.W.Frag) (mg:Str→Option Value) (A:Adr):Prop where
 kt:XG K
 isinstance:mg "isinstance"=none
 n_int:mg "int"=none
 n_bool:mg "bool"=none
 n_tuple:mg "tuple"=none
 n_list:mg "list"=none
 len:mg "len"=none
 range:mg "range"=none
 n_enumerate:mg "enumerate"=none
 n_min:mg "min"=none
 n_max:mg "max"=none
 Pt:Cls K A.Plain
 ON:NoAttr K A.Plain "base"
 Pu:Cls K A.Below
 OO:NoAttr K A.Below "base"
 Pr:Cls K A.Balanced
 Of:NoAttr K A.Balanced "half"
 Pw:Cls K A.Growing
 NH:NoAttr K A.Growing "first"
 PF:Cls K A.Falling
 NI:NoAttr K A.Falling "most"
 Pk:Cls K A.Pairs
 Ps:NoAttr K A.Pairs "most"
 cl_Machine:Cls K A.Machine
 na_Machine_found:NoAttr K A.Machine "found"
 na_Machine_made:NoAttr K A.Machine "made"
 na_Machine_leads:NoAttr K A.Machine "leads"
 NR:mg "Pairs"=some (.ref A.Pairs)
 NS:mg "Growing"=some (.ref A.Growing)
 PP:mg "Falling"=some (.ref A.Falling)
 NJ:vc K A.Plain
 PQ:PySem.W.kitOne K (.ref A.Plain) (.ref A.Pairs)=some false
 PR:PySem.W.kitOne K (.ref A.Plain) (.ref A.Growing)=some false
 PH:PySem.W.kitOne K (.ref A.Plain) (.ref A.Falling)=some false
 NL:vc K A.Below
 PU:PySem.W.kitOne K (.ref A.Below) (.ref A.Pairs)=some false
 PV:PySem.W.kitOne K (.ref A.Below) (.ref A.Growing)=some false
 PJ:PySem.W.kitOne K (.ref A.Below) (.ref A.Falling)=some false
 NM:vc K A.Balanced
 PX:PySem.W.kitOne K (.ref A.Balanced) (.ref A.Pairs)=some false
 PY:PySem.W.kitOne K (.ref A.Balanced) (.ref A.Growing)=some false
 PK:PySem.W.kitOne K (.ref A.Balanced) (.ref A.Falling)=some false
 NN:vc K A.Growing
 PZ:PySem.W.kitOne K (.ref A.Growing) (.ref A.Pairs)=some false
 P0:PySem.W.kitOne K (.ref A.Growing) (.ref A.Growing)=some true
 PL:PySem.W.kitOne K (.ref A.Growing) (.ref A.Falling)=some false
 NO:vc K A.Falling
 P3:PySem.W.kitOne K (.ref A.Falling) (.ref A.Pairs)=some false
 P4:PySem.W.kitOne K (.ref A.Falling) (.ref A.Growing)=some false
 PM:PySem.W.kitOne K (.ref A.Falling) (.ref A.Falling)=some true
 NP:vc K A.Pairs
 P5:PySem.W.kitOne K (.ref A.Pairs) (.ref A.Pairs)=some true
 P6:PySem.W.kitOne K (.ref A.Pairs) (.ref A.Growing)=some false
 PN:PySem.W.kitOne K (.ref A.Pairs) (.ref A.Falling)=some false
 NQ:mg "TooLess"=some (.ref A.TooLess)
 NT:mg "NoRatio"=some (.ref A.NoRatio)
 NU:mg "NoSpan"=some (.ref A.NoSpan)
 NV:mg "NoTotal"=some (.ref A.NoTotal)
 P7:ExcK K A.TooLess
 Og:se K A.TooLess
 P8:PySem.W.exmOne K (.ref A.TooLess) (.ref A.TooLess)=some true
 Oh:PySem.W.kitOne K (.ref A.TooLess) (.ref A.TooLess)=some true
 Oi:PySem.W.kitOne K (.ref A.TooLess) (.ref A.NoRatio)=some false
 Oj:PySem.W.kitOne K (.ref A.TooLess) (.ref A.NoSpan)=some false
 Ol:PySem.W.kitOne K (.ref A.TooLess) (.ref A.NoTotal)=some false
 P9:ExcK K A.NoRatio
 Om:se K A.NoRatio
 On:PySem.W.exmOne K (.ref A.NoRatio) (.ref A.TooLess)=some false
 Oo:PySem.W.kitOne K (.ref A.NoRatio) (.ref A.TooLess)=some false
 Op:PySem.W.kitOne K (.ref A.NoRatio) (.ref A.NoRatio)=some true
 Oq:PySem.W.kitOne K (.ref A.NoRatio) (.ref A.NoSpan)=some false
 Os:PySem.W.kitOne K (.ref A.NoRatio) (.ref A.NoTotal)=some false
 Oa:ExcK K A.NoSpan
 Ot:se K A.NoSpan
 Ou:PySem.W.exmOne K (.ref A.NoSpan) (.ref A.TooLess)=some false
 Ov:PySem.W.kitOne K (.ref A.NoSpan) (.ref A.TooLess)=some false
 Ow:PySem.W.kitOne K (.ref A.NoSpan) (.ref A.NoRatio)=some false
 Ox:PySem.W.kitOne K (.ref A.NoSpan) (.ref A.NoSpan)=some true
 Oy:PySem.W.kitOne K (.ref A.NoSpan) (.ref A.NoTotal)=some false
 Ob:ExcK K A.NoTotal
 Oz:se K A.NoTotal
 OA:PySem.W.exmOne K (.ref A.NoTotal) (.ref A.TooLess)=some false
 OB:PySem.W.kitOne K (.ref A.NoTotal) (.ref A.TooLess)=some false
 OC:PySem.W.kitOne K (.ref A.NoTotal) (.ref A.NoRatio)=some false
 OE:PySem.W.kitOne K (.ref A.NoTotal) (.ref A.NoSpan)=some false
 OF:PySem.W.kitOne K (.ref A.NoTotal) (.ref A.NoTotal)=some true
def Adr.at (A:Adr):Kd→Addr
 | .plain=>A.Plain | .below=>A.Below | .balanced=>A.Balanced | .growing=>A.Growing | .falling=>A.Falling | .pairs=>A.Pairs
def z6 (A:Adr) (k:Kd) (n:Int):Dt:=.way (A.at k) k.fld n
def x_ (A:Adr) (k:Kd) (g:Int→Int→Int):DSp:=fun ds Q=>∃ n p,ds=[z6 A k n,.int p]∧k.ok n∧Q (.int (g n p))
def vZ (A:Adr) (k:Kd) (g:Int→Int→Nm):DSp:=fun ds Q=>∃ n p,ds=[z6 A k n,.int p]∧k.ok n∧Q (g n p).dt
def T9:DSp:=fun ds Q=>∃ o p,ds=[o,p]∧Q (.int 0)
def R8:DSp:=fun ds Q=>∃ o,ds=[o]∧Q (.int 0)
def R7:DSp:=fun ds Q=>∃ o,ds=[o]∧Q (.tup [.int 0,.int 0])
def T_ (k:Kd):DSp:=fun ds Q=>∃ o,ds=[o]∧Q k.zero.dt
theorem kh {K:PySem.W.Frag} {mg:Str→Option Value} {A:Adr} (T:Txt K mg A) (k:Kd):vc K (A.at k):=by
 cases k
 ·exact T.NJ
 ·exact T.NL
 ·exact T.NM
 ·exact T.NN
 ·exact T.NO
 ·exact T.NP
theorem kiF {K:PySem.W.Frag} {mg:Str→Option Value} {A:Adr} (T:Txt K mg A) (k:Kd):PySem.W.kitOne K (.ref (A.at k)) (.ref A.Falling)=some k.isF:=by
 cases k
 ·exact T.PH
 ·exact T.PJ
 ·exact T.PK
 ·exact T.PL
 ·exact T.PM
 ·exact T.PN
def Wf (A:Adr):DSp:=fun ds Q=>∃ k n r,ds=[z6 A k n,zB r]∧k.ok n∧r.length≤1000∧Q (.bl (nC k n r))
def cI (A:Adr):DSp:=fun ds Q=>∃ k n r,ds=[z6 A k n,zB r]∧k.ok n∧r.length≤1000∧∀ b:Bool,(b=true↔∀ p,p<r.length→k.low n p≤r.getD p 0∧r.getD p 0≤k.high n p)→Q (.bl b)
def kE (A:Adr):DSp:=fun ds Q=>∃ n r,ds=[z6 A .falling n,zB r]∧Kd.falling.ok n∧r.length≤1000∧∀ b:Bool,(b=true↔∀ p,p+1<r.length→r.getD (p+1) 0=n→r.getD p 0=0)→Q (.bl b)
theorem X8 (k:Kd):(("low":Str) == k.fld)=false:=by cases k <;> decide +kernel
theorem dR (k:Kd):(("high":Str) == k.fld)=false:=by cases k <;> decide +kernel
def cA (A:Adr):DSp:=fun ds Q=>∃ k n t j,ds=[z6 A k n,.int t,.int ((j:Nat):Int)]∧k.four=true∧k.ok n∧j≤100000∧Q (.tup [.int (sF k n j (.i t)),(sC k n j (.i t)).dt])
def cB (A:Adr):DSp:=fun ds Q=>∃ n d m j,ds=[z6 A .pairs n,d,.int ((j:Nat):Int)]∧rK d=some m∧Kd.pairs.ok n∧Q (.tup [.int (sF .pairs n j m),(sC .pairs n j m).dt])
def oQ (A:Adr) (k:Kd):DSp:=fun ds Q=>∃ n m j,ds=[z6 A k n,Nm.dt m,.int ((j:Nat):Int)]∧m.ty k∧k.ok n∧j≤100000∧Q (.tup [.int (sF k n j m),(sC k n j m).dt])
theorem oG (k:Kd):(("split":Str) == k.fld)=false:=by cases k <;> decide +kernel
theorem Xe (k:Kd):(("ratio":Str) == k.fld)=false:=by cases k <;> decide +kernel
theorem x5 (k:Kd):(("nought":Str) == k.fld)=false:=by cases k <;> decide +kernel
theorem X9 (k:Kd):(("has":Str) == k.fld)=false:=by cases k <;> decide +kernel
def cN (A:Adr):zV:=fun ds Q R=>∃ k n ts,ds=[z6 A k n,ud ts]∧k.five=true∧k.ok n∧(∀ t∈ts,tot k t)∧ts.length≤20000∧((∃ J,Fin k n ts J∧J≤50000∧Q (.lst (yW k n ts (J+1))))∨(yw k (cAt k n ts ts.length)=false∧R A.TooLess))
def cJ (A:Adr):zV:=fun ds Q R=>∃ k n ts,ds=[z6 A k n,ud ts]∧k.five=true∧k.ok n∧(∀ t∈ts,tot k t)∧ts.length≤20000∧((∃ J,Fin k n ts J∧J≤50000∧Q (.tup [zB (yd k n ts J),.lst (yW k n ts (J+1))]))∨(yw k (cAt k n ts ts.length)=false∧R A.TooLess))
def vY (A:Adr):zV:=fun ds Q R=>∃ k n ts,ds=[z6 A k n,ud ts]∧k.five=true∧k.ok n∧(∀ t∈ts,tot k t)∧ts.length≤20000∧((∃ J,Fin k n ts J∧J≤50000∧Q (zB (qu k n ts J)))∨(yw k (cAt k n ts ts.length)=false∧R A.TooLess))
def lI (A:Adr):DSp:=fun ds Q=>∃ k n,∃ rs:List (List Int),ds=[z6 A k n,.lst (rs.map zB)]∧k.ok n∧(∀ r∈rs,Legal k n r∧r.length≤1000)∧Q .non
def oR:DSp:=fun ds Q=>∃ a b,ds=[ud a,ud b]∧a.length≤1000∧b.length≤1000∧Q (ud (YO a b))
def n8:DSp:=fun ds Q=>∃ a f,ds=[zB a,Nm.dt f]∧a.length≤1000∧(-1000000≤f.re∧f.re≤1000000∧-1000000≤f.im∧f.im≤1000000)∧Q (ud (kR a f))
def Wg (A:Adr):DSp:=fun ds Q=>∃ k n,ds=[z6 A k n]∧k.ok n∧Q (.int (k.far n))
def cE (A:Adr):zV:=fun ds Q R=>∃ k n,ds=[z6 A k n]∧((k.one=true∧Q .non)∨(k.one=false∧R A.NoRatio))
def We (A:Adr):zV:=fun ds Q R=>∃ k n lo hi,ds=[z6 A k n,.int lo,.int hi]∧k.ok n∧((tW k n lo hi∧Q .non)∨(¬ tW k n lo hi∧R A.NoSpan))
def cO (A:Adr):DSp:=fun ds Q=>∃ k n lo hi,ds=[z6 A k n,.int lo,.int hi]∧k.one=true∧k.ok n∧tW k n lo hi∧∀ L R,Mach k n lo hi L R→Q (.tup [.lst (L.map Nm.dt),.lst (R.map mDt)])
def kF (P:Program) (w:World) (K:PySem.W.Frag):DSp:=fun ds Q=>∃ (k:Kd) (R:List MR),ds=[.lst (R.map mDt)]∧(∀ r∈R,r.1.ty k)∧(R.map fun r=>zS r.1 r.2.1).Nodup∧R.length≤16000000∧Q (.opq (jV (xz P w K k.mdl (R.map wR))))
def oT (P:Program) (w:World) (K:PySem.W.Frag) (A:Adr):zV:=fun ds Q R=>∃ k n lo hi,ds=[z6 A k n,.int lo,.int hi]∧k.ok n∧((k.one=false∧R A.NoRatio)∨(k.one=true∧¬ tW k n lo hi∧R A.NoSpan)∨(k.one=true∧tW k n lo hi∧∀ L Rw,Mach k n lo hi L Rw→Q (.tup [.lst (L.map Nm.dt),.lst (Rw.map mDt),.opq (jV (xz P w K k.mdl (Rw.map wR)))])))
def rS (P:Program) (w:World) (K:PySem.W.Frag) (A:Adr) (k:Kd) (L:List Nm) (R:List MR):Dt:=.opq (rH K A.Machine "found" "made" "leads" (.lst (L.map Nm.dt)) (.lst (R.map mDt)) (.opq (jV (xz P w K k.mdl (R.map wR)))))
def lH (P:Program) (w:World) (K:PySem.W.Frag) (A:Adr):DSp:=fun ds Q=>∃ k L R,ds=[rS P w K A k L R]∧R.length≤100000∧Q (.lst (R.map mDt))
theorem X2 {K:PySem.W.Frag} {mg:Str→Option Value} {A:Adr} (T:Txt K mg A) (k:Kd):vc K (A.at k):=by
 cases k
 ·exact T.NJ
 ·exact T.NL
 ·exact T.NM
 ·exact T.NN
 ·exact T.NO
 ·exact T.NP
theorem QH {K:PySem.W.Frag} {mg:Str→Option Value} {A:Adr} (T:Txt K mg A) (k:Kd):PySem.W.kitOne K (.ref (A.at k)) (.ref A.Growing)=some (match k with | .growing=>true | _=>false):=by
 cases k
 ·exact T.PR
 ·exact T.PV
 ·exact T.PY
 ·exact T.P0
 ·exact T.P4
 ·exact T.P6
theorem QI {K:PySem.W.Frag} {mg:Str→Option Value} {A:Adr} (T:Txt K mg A) (k:Kd):PySem.W.kitOne K (.ref (A.at k)) (.ref A.Falling)=some (match k with | .falling=>true | _=>false):=by
 cases k
 ·exact T.PH
 ·exact T.PJ
 ·exact T.PK
 ·exact T.PL
 ·exact T.PM
 ·exact T.PN
theorem QG {K:PySem.W.Frag} {mg:Str→Option Value} {A:Adr} (T:Txt K mg A) (k:Kd):PySem.W.kitOne K (.ref (A.at k)) (.ref A.Pairs)=some (match k with | .pairs=>true | _=>false):=by
 cases k
 ·exact T.PQ
 ·exact T.PU
 ·exact T.PX
 ·exact T.PZ
 ·exact T.P3
 ·exact T.P5
def oS (P:Program) (w:World) (K:PySem.W.Frag) (A:Adr):zV:=fun ds Q E=>∃ k n lo hi L R,∃ ts:List Int,ds=[rS P w K A k L R,zB ts]∧Mach k n lo hi L R∧ts.length≤1000∧(((∀ t∈ts,lo≤t∧t≤hi)∧Q (.tup [zB (mgF k n k.zero ts),(mgC k n k.zero ts).dt]))∨(¬ (∀ t∈ts,lo≤t∧t≤hi)∧E A.NoTotal))
def cy (A:Adr):DSp:=fun ds Q=>∃ k n,ds=[.str (Kd.nam k),.int n]∧k.one=true∧k.ok n∧Q (z6 A k n)
theorem bH (L:List Nm):okE 40 (.lst (L.map Nm.dt))=true:=by
 show (L.map Nm.dt).all (okE 39)=true
 rw [List.all_eq_true]
 intro d hd
 obtain ⟨c,_,rfl⟩:=List.mem_map.mp hd
 cases c <;> rfl
theorem oi (c:Nm):okE 40 c.dt=true:=by cases c <;> rfl
def oP (A:Adr):zV:=fun ds Q R=>∃ k n ts b,ds=[z6 A k n,ud ts]∧k.five=true∧k.ok n∧ts.length≤900∧(∀ t∈ts,tot k t)∧(∀ t∈ts,t.re.natAbs≤2 ^ b∧t.im.natAbs≤2 ^ b)∧7≤b∧b≤1000∧(∀ r,Legal k n r→zk k n r=xH k n ts→r.length≤ts.length+4*b+60→Q (zB r))∧(uk k→(xH k n ts).re<0→R A.TooLess)
def kD (A:Adr):DSp:=fun ds Q=>∃ k n a b,ds=[z6 A k n,zB a,zB b]∧k.five=true∧k.ok n∧Legal k n a∧Legal k n b∧a.length≤200∧b.length≤200∧∀ r,Legal k n r→zk k n r=(zk k n a).add (zk k n b)→r.length≤400→Q (zB r)
def cF (A:Adr):zV:=fun ds Q R=>∃ k n a b,ds=[z6 A k n,zB a,zB b]∧k.five=true∧k.ok n∧Legal k n a∧Legal k n b∧a.length≤200∧b.length≤200∧(∀ r,Legal k n r→zk k n r=zk k n (zE a (zY b (-1)))→r.length≤400→Q (zB r))∧(uk k→(zk k n (zE a (zY b (-1)))).re<0→R A.TooLess)
theorem cV (a b:List Int) (s:Int):(zE a (zY b s)).map Dt.int=(List.range (max a.length b.length)).map fun p=>Dt.int (hf a p+s*hf b p):=by
 unfold zE
 rw [List.map_map,show (zY b s).length=b.length from List.length_map _]
 refine List.map_congr_left fun p _=>?_
 show Dt.int (hf a p+hf (zY b s) p)=_
 rw [oE,Int.mul_comm]
def rW (r:MR):KD × Dt:=(zS r.1 r.2.1,r.2.2.2.dt)
theorem jM {R:List MR} {i:Nat} {r:MR} (hnd:(R.map fun r=>zS r.1 r.2.1).Nodup) (hr:R[i]? = some r):zR ((R.take i).map rW) (zS r.1 r.2.1)=none:=by
 have h:=nD hnd hr
 refine ww fun x hx e=>?_
 obtain ⟨r',hr',rfl⟩:=List.mem_map.mp hx
 unfold zR at h
 rw [Option.map_eq_none_iff,List.find?_eq_none] at h
 exact h (wR r') (List.mem_map.mpr ⟨r',hr',rfl⟩) (decide_eq_true e)
theorem Mach.lookW {k:Kd} {n lo hi:Int} {L:List Nm} {R:List MR} (M:Mach k n lo hi L R) {c:Nm} {t:Int} (hc:c∈L) (h1:lo≤t) (h2:t≤hi):zR (R.map rW) (zS c t)=some (mNx k n c t).dt:=by
 refine rT ?_ (List.mem_map.mpr ⟨tG k n c t,M.row hc h1 h2,rfl⟩)
 have h:=M.knd
 rw [List.map_map]
 exact h
theorem qY (k:Kd) (n:Int) (ts:List Int) (i:Nat):xF k n ts (i+1)=xF k n ts i++[(mgC k n k.zero (ts.take i)).dt]:=by
 unfold xF
 rw [List.range_succ,List.map_append]
 rfl
theorem iW (k:Kd) (n:Int) (ts:List Int) (m:Nat):(xF k n ts m).length=m:=by unfold xF; rw [List.length_map,List.length_range]
theorem cw (l:List Dt) (x:Dt):atI (l++[x]) (-1)=some x:=by
 unfold atI
 rw [nJ (by rw [List.length_append]; exact Nat.succ_pos _)]
 show (l++[x])[(l++[x]).length - 1]? = _
 rw [List.length_append]
 show (l++[x])[l.length+1 - 1]? = _
 rw [Nat.add_sub_cancel,List.getElem?_append_right (Nat.le_refl _),Nat.sub_self]
 rfl
theorem jZ {ds:List Dt} (a:Nat):ck ds none (some (a:Int))=ds.take a:=by
 unfold ck
 rw [HT.sIx_nat,HT.sIx_none,List.drop_zero,Nat.sub_zero]
 rcases Nat.le_total a ds.length with h | h
 ·rw [Nat.min_eq_left h]
 ·rw [Nat.min_eq_right h,List.take_length,List.take_of_length_le h]
theorem T5 {k:Kd} {n:Int} {ts:List Nm} {m j:Nat} (h:j<m):(yW k n ts m)[j]? = some (cAt k n ts j).dt:=by
 unfold yW crs
 rw [List.getElem?_map,List.getElem?_map,List.getElem?_range h]
 rfl
theorem cm {k:Kd} {n:Int} {ts:List Nm} {m j:Nat} (h:j≤m):(yW k n ts m).take j=yW k n ts j:=by
 unfold yW crs
 rw [← List.map_take,← List.map_take,List.take_range,Nat.min_eq_left h]
theorem iX {k:Kd} {n:Int} (h1:k.one=true) (tt:List Int):xF k n (tt++List.replicate 40 0) ((tt++List.replicate 40 0).length+1)=yW k n (tt.map Nm.i) (tt.length+41):=by
 unfold xF yW crs
 rw [List.map_map,List.length_append,List.length_replicate]
 refine List.map_congr_left fun i hi=>?_
 rw [List.mem_range] at hi
 show Nm.dt _=Nm.dt _
 rw [(o8 (n:=n) h1 tt 40 i (by omega)).1]
theorem tK {ns:List Int}:∀ {es:List Dt},(∀ e∈es,e∈ns.map Dt.int)→∃ zs:List Int,es=zs.map Dt.int
 | [],_=>⟨[],rfl⟩
 | e::es,h=>by
  obtain ⟨z,rfl⟩:=eU (h e List.mem_cons_self)
  obtain ⟨zs,rfl⟩:=tK (fun e he=>h e (List.mem_cons_of_mem _ he))
  exact ⟨z::zs,rfl⟩
theorem du (b:List Int):zY b 1=b:=by
 unfold zY
 rw [show (fun x:Int=>x*1)=id from funext Int.mul_one,List.map_id]
theorem ko {k:Kd} {n:Int} {a:List Int} (h1:k.one=true) (hn:k.ok n) (h:Legal k n a) (p:Nat):k.low n 0≤hf a p∧hf a p≤k.high n 0:=by
 by_cases hp:p<a.length
 ·obtain ⟨e1,e2⟩:=e7 h1 n p
  have:=h.fig p hp
  rw [e1,e2] at this
  exact this
 ·rw [wz (by omega)]
  exact ⟨(xt hn 0).1,(xt hn 0).2⟩
theorem iE {k:Kd} {n lo hi:Int} {L:List Nm} {R:List MR} (h1:k.one=true) (hn:k.ok n) (M:Mach k n lo hi L R) (z1:lo≤0) (z2:0≤hi) {T:List Int} (hin:∀ t∈T,lo≤t∧t≤hi):
  (∀ t∈T++List.replicate 40 0,lo≤t∧t≤hi)∧mgC k n k.zero (T++List.replicate 40 0)=cAt k n (T.map Nm.i) (T.length+40)∧mgF k n k.zero (T++List.replicate 40 0)=yd k n (T.map Nm.i) (T.length+40)∧
  (yw k (cAt k n (T.map Nm.i) T.length)=true→∃ J,Fin k n (T.map Nm.i) J∧J≤T.length+40∧cAt k n (T.map Nm.i) (T.length+40)=k.zero∧trim (yd k n (T.map Nm.i) (T.length+40))=qu k n (T.map Nm.i) J):=by
 have hl:(T++List.replicate 40 0).length=T.length+40:=by rw [List.length_append,List.length_replicate]
 obtain ⟨r1,r2⟩:=o8 (n:=n) h1 T 40 (T.length+40) (Nat.le_refl _)
 rw [← hl,List.take_length,hl] at r1 r2
 refine ⟨fun t ht=>?_,r1,r2,fun hh=>?_⟩
 ·rcases List.mem_append.mp ht with ht | ht
  ·exact hin t ht
  ·rw [List.eq_of_mem_replicate ht]; exact ⟨z1,z2⟩
 ·have hm:=M.go T k.zero M.zero hin
  have e:=(eT (n:=n) h1 T T.length (Nat.le_refl _)).1
  rw [List.take_length] at e
  rw [e] at hm
  have hll:(T.map Nm.i).length=T.length:=List.length_map _
  obtain ⟨J,F,hJ⟩:=Tu (ts:=T.map Nm.i) h1 hn (by rw [hll]; exact M.bd _ hm) (by rw [hll]; exact hh)
  rw [hll] at hJ
  obtain ⟨w1,w2⟩:=oV h1 hn F.le F.z (T.length+40 - J)
  rw [show J+(T.length+40 - J)=T.length+40 by omega] at w1 w2
  exact ⟨J,F,hJ,w1,by rw [w2,o0]; rfl⟩
theorem X3 {k:Kd} {n:Int} {T:List Int} (h5:k.five=true) (hn:k.ok n) (hp:uk k→0≤(zk k n T).re):yw k (cAt k n (T.map Nm.i) T.length)=true:=by
 by_cases h:uk k
 ·have:=(vT h hn (ts:=T.map Nm.i) yp (T.map Nm.i).length).mp (by
   have:=hp h
   rw [← ye] at this
   exact this)
  rwa [List.length_map] at this
 ·exact rL h5 h (ya k n _ _)
def cD (P:Program) (w:World) (K:PySem.W.Frag) (A:Adr):DSp:=fun ds Q=>∃ k n lo hi L R,∃ ts:List Int,ds=[rS P w K A k L R,zB ts,k.zero.dt]∧Mach k n lo hi L R∧R.length≤100000∧ts.length≤1000∧(∀ t∈ts,lo≤t∧t≤hi)∧Q (.lst (xF k n ts (ts.length+1)))
def cK (A:Adr):DSp:=fun ds Q=>∃ k n a b,ds=[z6 A k n,zB a,zB b]∧k.five=true∧k.ok n∧Legal k n a∧Legal k n b∧a.length≤200∧b.length≤200∧(∀ r,Legal k n r→zk k n r=zk k n (zE a (zY b (-1)))→r.length≤400→Q (zB r))∧(uk k→(zk k n (zE a (zY b (-1)))).re<0→Q .non)
def sV (A:Adr):DSp:=fun ds Q=>∃ k n a b,ds=[.str (Kd.nam k),.int n,z6 A k n,zB a,zB b,k.zero.dt]∧k.one=true∧k.ok n∧c5 k n∧Legal k n a∧Legal k n b∧a.length≤63∧b.length≤63∧Q (.bl true)
section
variable {P:Program} {w:World} {K:PySem.W.Frag} {mg:Str→Option Value} {base:Heap} {f:Addr} {fd:FuncData} {A:Adr}
abbrev wj:Stmt:=top 63
theorem sc_law_chosen:zh ["_law_cell","_law_name","_law_part"] ["_law_cell"] (defScope wj):=by walk_at "sc"
theorem qH (T:Txt K mg A) (F:Fun K "_law_chosen" "_law_chosen" wj f fd):FnOk P w K mg base CX0 1 f fd ["_law_cell"] (zp K (cL)):=by
 refine okD F sc_law_chosen (by walk_at "ln") fun _ _ _ _ _ _ hr ds Q h=>?_
 obtain ⟨c,rfl,q⟩:=h
 refine ⟨_,(zc (zq (i:=1) sc_law_chosen.nd rfl (Or.inl rfl) (zr (vQ (zb z_ (zb z_ (zb z_ (zb z_ zf))))) (zn vy (dv 0) zd) (fun _ _=>rfl)))
 (zc (zq (i:=2) sc_law_chosen.nd rfl (Or.inl rfl) (zn tE (dv 0) zd))
 (zc (zI (zw (vz) (dv 1) z_ (zt _)) (ze (zm (zG (zb (dv 1) (zb (zn yg zd (zn vy (dv 2) zd)) zf))))) zu)
 (zc (zI (zw (vz) (dv 1) z_ (zt _)) (ze (zm (zG (zb (dv 1) (zb (zn yg zd (zn vy (dv 2) zd)) zf))))) zu)
 (ze (zm (zG (zb (dv 1) (zb (zn yg zd (zn vy (dv 2) zd)) zf))))))))),?_⟩
 obtain ⟨k,h1,hk⟩:=Rf c
 refine ⟨rfl,_,rfl,_,_,rfl,rfl,n4 (by decide),_,_,_,rfl,rfl,hk,?_⟩
 have b0:=Int.fmod_nonneg_of_pos (c.fdiv 4) (show (0:Int)<29 by decide)
 have b1:=Int.fmod_lt_of_pos (c.fdiv 4) (show (0:Int)<29 by decide)
 have c0:=Int.fmod_nonneg_of_pos (c.fdiv 4) (show (0:Int)<15 by decide)
 have c1:=Int.fmod_lt_of_pos (c.fdiv 4) (show (0:Int)<15 by decide)
 have d0:=Int.fmod_nonneg_of_pos (c.fdiv 4) (show (0:Int)<5 by decide)
 have d1:=Int.fmod_lt_of_pos (c.fdiv 4) (show (0:Int)<5 by decide)
 cases k
 ·walk_at "rd"
  exact q .plain _ rfl ⟨by show (2:Int)≤_; omega,by show _≤(60:Int); omega⟩ ⟨by show 2*(2+(c.fdiv 4).fmod 29 - 1)≤60; omega,by show -60≤2*(0:Int); decide,by show 2+(c.fdiv 4).fmod 29 - 1 - 0≤60; omega,by show 2+(c.fdiv 4).fmod 29 - 1 - 0≤30; omega⟩
 ·walk_at "rd"
  exact q .below _ rfl ⟨by show (2:Int)≤_; omega,by show _≤(60:Int); omega⟩ ⟨by show 2*(2+(c.fdiv 4).fmod 29 - 1)≤60; omega,by show -60≤2*(0:Int); decide,by show 2+(c.fdiv 4).fmod 29 - 1 - 0≤60; omega,by show 2+(c.fdiv 4).fmod 29 - 1 - 0≤30; omega⟩
 ·walk_at "rd"
  exact q .balanced _ rfl ⟨by show (1:Int)≤_; omega,by show _≤(30:Int); omega⟩ ⟨by show 2*(1+(c.fdiv 4).fmod 15)≤60; omega,by show -60≤2 * -(1+(c.fdiv 4).fmod 15); omega,by show 1+(c.fdiv 4).fmod 15 - -(1+(c.fdiv 4).fmod 15)≤60; omega,by show 1+(c.fdiv 4).fmod 15 - -(1+(c.fdiv 4).fmod 15)≤30; omega⟩
 ·cases h1
 ·cases h1
 ·walk_at "rd"
  have key:∀ m:Int,1≤m→m≤5→c5 .pairs m:=fun m m1 m2=>by
   have h25:m*m≤25:=by
    have:=Int.mul_le_mul m2 m2 (by omega) (by omega)
    omega
   have h0:0≤m*m:=Int.mul_nonneg (by omega) (by omega)
   have ef:Kd.far .pairs m=2*(m*m):=by
    show (if 2*m*m<60 then 2*m*m else 60)=_
    rw [Int.mul_assoc,if_pos (by omega)]
   unfold c5
   rw [ef]
   refine ⟨?_,?_,?_,?_⟩
   ·show 2*(m*m)≤_; omega
   ·show _≤2*(0:Int); omega
   ·show m*m - 0≤_; omega
   ·show m*m - 0≤_; omega
  exact q .pairs _ rfl ⟨by show (1:Int)≤_; omega,by show _≤(9:Int); omega⟩ (key _ (by omega) (by omega))
abbrev xK:Stmt:=top 62
theorem rj:zh ["_law_script","_law_k"] ["_law_script","_law_k"] (defScope xK):=by walk_at "sc"
theorem rC (T:Txt K mg A) (F:Fun K "_law_cell_at" "_law_cell_at" xK f fd):FnOk P w K mg base CX0 1 f fd ["_law_script","_law_k"] (zp K (cM)):=by
 refine okD F rj (by walk_at "ln") fun _ _ _ _ _ _ hr ds Q h=>?_
 obtain ⟨ns,k,rfl,hk,q⟩:=h
 refine ⟨_,(zc (zI (zw (rJ) (dv 1) (yG rfl T.len (dv 0)) (zt _)) (ze (zm (zr (dv 0) (dv 1) (fun _ _=>rfl)))) zu)
 (ze (zm zd))),?_⟩
 walk_at "rd"
 refine Rh (fun hlt=>?_) (fun _=>q 0)
 have hlt:k<(ns.map Dt.int).length:=of_decide_eq_true hlt
 rw [List.length_map] at hlt
 exact ⟨_,rfl,_,rfl,_,_,_,rfl,rfl,oN hk hlt,q _⟩
abbrev wk:Stmt:=top 65
theorem qv:zh ["_law_name","_law_number"] ["_law_name","_law_number"] (defScope wk):=by walk_at "sc"
theorem qI (T:Txt K mg A) (F:Fun K "_law_bounds" "_law_bounds" wk f fd):FnOk P w K mg base CX0 1 f fd ["_law_name","_law_number"] (zp K (oU)):=by
 refine okD F qv (by walk_at "ln") fun _ _ _ _ _ _ hr ds Q h=>?_
 obtain ⟨k,n,rfl,h1,hn,q⟩:=h
 refine ⟨_,(zc (zI (zw (vz) (dv 0) z_ (zt _)) (ze (zm (zG (zb (zn yD zd (dv 1)) (zb (dv 1) zf))))) zu)
 (zc (zI (zw (vz) (dv 0) z_ (zt _)) (ze (zm (zG (zb zd (zb (zn yA (dv 1) (dv 1)) zf))))) zu)
 (ze (zm (zG (zb zd (zb (zn yD (dv 1) zd) zf))))))),?_⟩
 obtain ⟨b1,b2⟩:=tV hn
 cases k
 ·walk_at "rd"
  exact q
 ·walk_at "rd"
  exact q
 ·have q:Q (.tup [.int (-n),.int n]):=q
  rw [← Int.zero_sub] at q
  walk_at "rd"
  exact q
 ·cases h1
 ·cases h1
 ·walk_at "rd"
  refine ⟨small (by omega) (by omega) _,?_⟩
  walk_at "rd"
  exact q
abbrev wg:Stmt:=top 66
theorem sc_law_row_by:zh ["_law_bounds_here","_law_cells","_law_row","_law_cell","_law_mixed"] ["_law_bounds_here","_law_cells"] (defScope wg):=by walk_at "sc"
theorem qG (T:Txt K mg A) (F:Fun K "_law_row_by" "_law_row_by" wg f fd):FnOk P w K mg base CX0 1 f fd ["_law_bounds_here","_law_cells"] (zp K (cC)):=by
 refine okD F sc_law_row_by (by walk_at "ln") fun _ _ _ _ _ _ hr ds Q h=>?_
 obtain ⟨k,n,cs,rfl,h1,hn,hl,q⟩:=h
 refine ⟨_,(zc (yO (i:=2) sc_law_row_by.nd rfl (Or.inl rfl) (w9 zf))
 (zc (tQ (j:=3) rfl sc_law_row_by.nd rfl (Or.inl rfl) PassesOwn.never (dv 1) (zc (zq (i:=4) sc_law_row_by.nd rfl (Or.inl rfl) (zn vy (zn yA (dv 3) zd) zd))
 (ze (zI (zw (rJ) (zn vy (zn tE (dv 4) zd) zd) zd (zt _)) (ze (w6 2 (zr (vQ (zb (zr (dv 0) zd (fun _ _=>rfl)) (zb (zr (dv 0) zd (fun _ _=>rfl)) (zb zd zf)))) (zn vy (zn tE (dv 4) zd) zd) (fun _ _=>rfl)))) (ze (w6 2 (zn yg (zr (dv 0) zd (fun _ _=>rfl)) (zn vy (dv 4) (zn yg (zn yD (zr (dv 0) zd (fun _ _=>rfl)) (zr (dv 0) zd (fun _ _=>rfl))) zd)))))))))
 (zc (x8 PassesOwn.never (DW.dt (wA (zw (jb) (uJ 2 rfl T.len) zd (zt _)) (y7 (zw (nt hr) (qj 2 (yy zd) (fun _ _=>rfl)) zd (zt _))))) (ze (lp 2)))
 (ze (uF 2))))),?_⟩
 have l1:k.low n 0≤0:=(xt hn 0).1
 have l2:0≤k.high n 0:=(xt hn 0).2
 refine ⟨rfl,_,rfl,?_⟩
 refine ⟨_,rfl,_,fun i ρ=>∃ (r:List Int) (v3 v4:Sl),ρ=[.some (.tup [.int (k.low n 0),.int (k.high n 0)]),.some (zB cs),.own (r.map Dt.int),v3,v4]∧r.length=i∧∀ z∈r,k.low n 0≤z∧z≤k.high n 0,rfl,⟨[],_,_,rfl,rfl,fun _ h=>nomatch h⟩,?_,?_⟩
 ·rintro i e ρ' he ⟨r,v3,v4,rfl,hr,hz⟩
  rw [List.getElem?_map] at he
  obtain ⟨c,hc,rfl⟩:=Option.map_eq_some_iff.mp he
  have hi:i<cs.length:=(List.getElem?_eq_some_iff.mp hc).1
  refine ⟨_,rfl,_,_,rfl,rfl,Tg (by decide),_,_,rfl,rfl,n4 (by decide),?_⟩
  dsimp only
  generalize (c*48271).fmod 2147483647=m
  have fin:∀ z:Int,k.low n 0≤z→z≤k.high n 0→∃ (r':List Int) (v3 v4:Sl),[Sl.some (.tup [.int (k.low n 0),.int (k.high n 0)]),.some (zB cs),.own (r.map Dt.int++[.int z]),.some (.int c),.some (.int m)]=[.some (.tup [.int (k.low n 0),.int (k.high n 0)]),.some (zB cs),.own (r'.map Dt.int),v3,v4]∧r'.length=i+1∧∀ z∈r',k.low n 0≤z∧z≤k.high n 0:=fun z z1 z2=>by
   refine ⟨r++[z],_,_,by rw [List.map_append]; rfl,by rw [List.length_append,hr]; rfl,fun u hu=>?_⟩
   rcases List.mem_append.mp hu with hu | hu
   ·exact hz u hu
   ·rw [List.mem_singleton.mp hu]; exact ⟨z1,z2⟩
  have lr:(r.map Dt.int).length≤100000:=by rw [List.length_map]; omega
  have a0:=Int.fmod_nonneg_of_pos (m.fdiv 7919) (show (0:Int)<7 by decide)
  refine ⟨_,rfl,_,_,rfl,rfl,cr (by decide),_,_,rfl,rfl,n4 (by decide),_,_,rfl,rfl,_,rfl,ifB (fun h=>?_) (fun _=>?_)⟩
  ·have h3:=of_decide_eq_true h
   have key:∃ z,atI [Dt.int (k.low n 0),.int (k.high n 0),.int 0] ((m.fdiv 7919).fmod 7)=some (.int z)∧k.low n 0≤z∧z≤k.high n 0:=by
    rcases (by omega:(m.fdiv 7919).fmod 7=0∨(m.fdiv 7919).fmod 7=1∨(m.fdiv 7919).fmod 7=2) with e | e | e <;> rw [e]
    ·exact ⟨_,rfl,Int.le_refl _,Int.le_trans l1 l2⟩
    ·exact ⟨_,rfl,Int.le_trans l1 l2,Int.le_refl _⟩
    ·exact ⟨_,rfl,l1,l2⟩
   obtain ⟨z,hat,z1,z2⟩:=key
   exact ⟨_,rfl,_,rfl,_,_,_,rfl,rfl,rfl,_,rfl,_,_,_,rfl,rfl,rfl,rfl,_,rfl,_,_,rfl,rfl,cr (by decide),_,_,rfl,rfl,n4 (by decide),_,_,_,rfl,rfl,hat,lr,fin z z1 z2⟩
  ·have hp:(0:Int)<k.high n 0 - k.low n 0+1:=by omega
   have b0:=Int.fmod_nonneg_of_pos m hp
   have b1:=Int.fmod_lt_of_pos m hp
   exact ⟨_,rfl,_,rfl,_,_,_,rfl,rfl,rfl,_,rfl,_,rfl,_,_,_,rfl,rfl,rfl,_,rfl,_,_,_,rfl,rfl,rfl,_,_,rfl,rfl,_,_,rfl,rfl,_,_,rfl,rfl,(show k.high n 0 - k.low n 0+1≠0 by omega),_,_,rfl,rfl,lr,fin _ (by omega) (by omega)⟩
 rintro ρ' ⟨r,v3,v4,rfl,hr,hz⟩
 rw [List.length_map] at hr
 refine s_ rfl ⟨_,rfl,q _ (Lg.trim ⟨fun p hp=>?_,fun hF=>?_⟩) (by have:=rb r; omega)⟩
 ·obtain ⟨e1,e2⟩:=e7 h1 n p
  rw [e1,e2,List.getD_eq_getElem?_getD,List.getElem?_eq_getElem hp]
  exact hz _ (List.getElem_mem hp)
 ·cases k <;> first | exact absurd hF (by decide) | exact absurd h1 (by decide)
abbrev vH:Stmt:=top 11
theorem o6:zh ["value"] ["value"] (defScope vH):=by walk_at "sc"
theorem nq (T:Txt K mg A) (F:Fun K "is_whole" "is_whole" vH f fd):FnOk P w K mg base CX0 1 f fd ["value"] (zp K (y9)):=by
 refine okD F o6 (by walk_at "ln") fun _ _ _ _ _ _ hr ds Q h=>?_
 obtain ⟨d,b,rfl,hw,q⟩:=h
 refine ⟨_,(ze (zm (vR (lv (T:=.int) T.kt T.isinstance T.n_int PyProof.Rows.boot_int (dv 0)) (qi (TJ (lv (T:=.bool) T.kt T.isinstance T.n_bool PyProof.Rows.boot_bool (dv 0))))))),?_⟩
 cases d <;> cases hw
 all_goals
  walk_at "rd"
  exact q
abbrev uY:Stmt:=top 17
theorem mw:zh ["number","least","most"] ["number","least","most"] (defScope uY):=by walk_at "sc"
theorem mK (T:Txt K mg A) (G_is_whole:DOk P w K mg base 1 "is_whole" (y9)) (F:Fun K "bounded" "bounded" uY f fd):FnOk P w K mg base CX0 2 f fd ["number","least","most"] (zp K (wa)):=by
 refine okD F mw (by walk_at "ln") fun _ _ _ _ _ _ hr ds Q h=>?_
 obtain ⟨n,lo,hi,rfl,h1,h2,q⟩:=h
 refine ⟨_,(zc (zI (DW.dt (uE (qe (yn (zj G_is_whole (hr.mono (by decide)) rfl (zb (dv 0) zf)))) (uE (zw (rJ) (dv 0) (dv 1) (zt _)) (qd (zw (jb) (dv 0) (dv 2) (zt _)))))) (ze wZ) zu)
 (ze (zm (dv 0)))),?_⟩
 walk_at "rd"
 rw [decide_eq_false (by omega:¬ n<lo)]
 walk_at "rd"
 rw [decide_eq_false (by omega:¬ hi<n)]
 walk_at "rd"
 exact q
abbrev yY:Stmt:=inClass (top 19) 0
theorem qy:zh ["self","base"] ["self","base"] (defScope yY):=by walk_at "sc"
theorem qK (T:Txt K mg A) (G_bounded:DOk P w K mg base 2 "bounded" (wa)) (F:Fun K "__init__" "Plain.__init__" yY f fd):FnOk P w K mg base CX0 3 f fd ["self","base"] (vf A.Plain "base" (Kd.ok .plain)):=by
 refine sM F qy T.Pt T.ON (fun cdv A outer s H E hr=>?_)
 obtain ⟨te,p,l⟩:=((zj G_bounded (hr.mono (by decide)) rfl (zb (dv 1) (zb zd (zb zd zf)))):DE (yo CX0 P w K mg base ["self","base"] "Plain.__init__" (defScope yY) f cdv A outer s H E).nox _ _)
 refine ⟨te,_,vg (vI (pv 0) p rfl),l,fun i hi=>?_⟩
 exact ⟨_,rfl,_,_,_,rfl,hi.1,hi.2,rfl⟩
abbrev y0:Stmt:=inClass (top 20) 0
theorem qC:zh ["self","base"] ["self","base"] (defScope y0):=by walk_at "sc"
theorem qO (T:Txt K mg A) (G_bounded:DOk P w K mg base 2 "bounded" (wa)) (F:Fun K "__init__" "Below.__init__" y0 f fd):FnOk P w K mg base CX0 3 f fd ["self","base"] (vf A.Below "base" (Kd.ok .below)):=by
 refine sM F qC T.Pu T.OO (fun cdv A outer s H E hr=>?_)
 obtain ⟨te,p,l⟩:=((zj G_bounded (hr.mono (by decide)) rfl (zb (dv 1) (zb zd (zb zd zf)))):DE (yo CX0 P w K mg base ["self","base"] "Below.__init__" (defScope y0) f cdv A outer s H E).nox _ _)
 refine ⟨te,_,vg (vI (pv 0) p rfl),l,fun i hi=>?_⟩
 exact ⟨_,rfl,_,_,_,rfl,hi.1,hi.2,rfl⟩
abbrev yt:Stmt:=inClass (top 21) 0
theorem uR:zh ["self","half"] ["self","half"] (defScope yt):=by walk_at "sc"
theorem tx (T:Txt K mg A) (G_bounded:DOk P w K mg base 2 "bounded" (wa)) (F:Fun K "__init__" "Balanced.__init__" yt f fd):FnOk P w K mg base CX0 3 f fd ["self","half"] (vf A.Balanced "half" (Kd.ok .balanced)):=by
 refine sM F uR T.Pr T.Of (fun cdv A outer s H E hr=>?_)
 obtain ⟨te,p,l⟩:=((zj G_bounded (hr.mono (by decide)) rfl (zb (dv 1) (zb zd (zb zd zf)))):DE (yo CX0 P w K mg base ["self","half"] "Balanced.__init__" (defScope yt) f cdv A outer s H E).nox _ _)
 refine ⟨te,_,vg (vI (pv 0) p rfl),l,fun i hi=>?_⟩
 exact ⟨_,rfl,_,_,_,rfl,hi.1,hi.2,rfl⟩
abbrev yZ:Stmt:=inClass (top 24) 0
theorem qA:zh ["self","most"] ["self","most"] (defScope yZ):=by walk_at "sc"
theorem qM (T:Txt K mg A) (G_bounded:DOk P w K mg base 2 "bounded" (wa)) (F:Fun K "__init__" "Pairs.__init__" yZ f fd):FnOk P w K mg base CX0 3 f fd ["self","most"] (vf A.Pairs "most" (Kd.ok .pairs)):=by
 refine sM F qA T.Pk T.Ps (fun cdv A outer s H E hr=>?_)
 obtain ⟨te,p,l⟩:=((zj G_bounded (hr.mono (by decide)) rfl (zb (dv 1) (zb zd (zb zd zf)))):DE (yo CX0 P w K mg base ["self","most"] "Pairs.__init__" (defScope yZ) f cdv A outer s H E).nox _ _)
 refine ⟨te,_,vg (vI (pv 0) p rfl),l,fun i hi=>?_⟩
 exact ⟨_,rfl,_,_,_,rfl,hi.1,hi.2,rfl⟩
abbrev uV:Stmt:=top 64
theorem mr:zh ["_law_name","_law_number"] ["_law_name","_law_number"] (defScope uV):=by walk_at "sc"
theorem mH (T:Txt K mg A) (OP:KOk P w K mg base 3 "Plain" A.Plain "base" (Kd.ok .plain)) (OQ:KOk P w K mg base 3 "Below" A.Below "base" (Kd.ok .below)) (OR:KOk P w K mg base 3 "Balanced" A.Balanced "half" (Kd.ok .balanced)) (OS:KOk P w K mg base 3 "Pairs" A.Pairs "most" (Kd.ok .pairs)) (F:Fun K "_law_way" "_law_way" uV f fd):FnOk P w K mg base CX0 5 f fd ["_law_name","_law_number"] (zp K (cy A)):=by
 refine okD F mr (by walk_at "ln") fun _ _ _ _ _ _ hr ds Q h=>?_
 obtain ⟨k,n,rfl,h1,hn,q⟩:=h
 refine ⟨_,(zc (zI (zw (vz) (dv 0) z_ (zt _)) (ze (zm (sT OP (hr.mono (by decide)) rfl (zb (dv 1) zf)))) zu)
 (zc (zI (zw (vz) (dv 0) z_ (zt _)) (ze (zm (sT OQ (hr.mono (by decide)) rfl (zb (dv 1) zf)))) zu)
 (zc (zI (zw (vz) (dv 0) z_ (zt _)) (ze (zm (sT OR (hr.mono (by decide)) rfl (zb (dv 1) zf)))) zu)
 (ze (zm (sT OS (hr.mono (by decide)) rfl (zb (dv 1) zf))))))),?_⟩
 cases k <;> try cases h1
 all_goals
  walk_at "rd"
  exact ⟨hn,q⟩
abbrev wd:Stmt:=top 67
theorem sc_law_totals:zh ["_law_one","_law_other","_law_sign","_law_totals_here","_law_k","_law_total"] ["_law_one","_law_other","_law_sign"] (defScope wd):=by walk_at "sc"
theorem qF (T:Txt K mg A) (F:Fun K "_law_totals" "_law_totals" wd f fd):FnOk P w K mg base CX0 1 f fd ["_law_one","_law_other","_law_sign"] (zp K (lD)):=by
 refine okD F sc_law_totals (by walk_at "ln") fun _ _ _ _ _ _ hr ds Q h=>?_
 obtain ⟨a,b,s,rfl,hs,la,lb,q⟩:=h
 refine ⟨_,(zc (yO (i:=3) sc_law_totals.nd rfl (Or.inl rfl) (w9 zf))
 (zc (Xi (j:=4) rfl sc_law_totals.nd rfl (Or.inl rfl) PassesOwn.never rfl T.range (ce rfl rfl T.n_max (zb (yG rfl T.len (dv 0)) (zb (yG rfl T.len (dv 1)) zf))) (zc (zq (i:=5) sc_law_totals.nd rfl (Or.inl rfl) zd)
 (x6 (zI (zw (rJ) (dv 4) (yG rfl T.len (dv 0)) (zt _)) (ze (zq (i:=5) sc_law_totals.nd rfl (Or.inl rfl) (zr (dv 0) (dv 4) (fun _ _=>rfl)))) zu)
 (x6 (zI (zw (rJ) (dv 4) (yG rfl T.len (dv 1)) (zt _)) (ze (zq (i:=5) sc_law_totals.nd rfl (Or.inl rfl) (zn yg (dv 5) (zn yA (dv 2) (zr (dv 1) (dv 4) (fun _ _=>rfl)))))) zu)
 (ze (w6 3 (dv 5)))))))
 (ze (uF 3)))),?_⟩
 have lA:(a.map Dt.int).length=a.length:=List.length_map _
 have lB:(b.map Dt.int).length=b.length:=List.length_map _
 have sb:-1000000≤s∧s≤1000000:=by rcases hs with rfl | rfl <;> decide
 have q:Q (.lst ((zE a (zY b s)).map Dt.int)):=q
 rw [cV] at q
 refine ⟨rfl,_,rfl,?_⟩
 have em:(if ((b.map Dt.int).length:Int)>((a.map Dt.int).length:Int) then ((b.map Dt.int).length:Int) else ((a.map Dt.int).length:Int))=((max a.length b.length:Nat):Int):=by
  rw [lA,lB]; split <;> omega
 refine ⟨_,rfl,_,rfl,_,rfl,_,rfl,_,_,rfl,?_⟩
 rw [em]
 refine ⟨_,fun i ρ=>∃ v4 v5,ρ=[.some (zB a),.some (zB b),.some (.int s),.own ((List.range i).map fun p=>Dt.int (hf a p+s*hf b p)),v4,v5],rfl,by omega,by omega,⟨_,_,rfl⟩,?_,?_⟩
 ·rintro i ρ' hi ⟨v4,v5,rfl⟩
  have hi:i<max a.length b.length:=by omega
  have ll:((List.range i).map fun p=>Dt.int (hf a p+s*hf b p)).length=i:=by rw [List.length_map,List.length_range]
  refine ⟨fun ρ=>ρ=[.some (zB a),.some (zB b),.some (.int s),.own ((List.range i).map fun p=>Dt.int (hf a p+s*hf b p)),.some (.int i),.some (.int (hf a i))],?_,?_⟩
  ·refine ⟨_,rfl,_,rfl,_,rfl,_,_,rfl,rfl,_,rfl,ifB (fun h=>?_) (fun h=>?_)⟩
   ·have h:i<a.length:=by have:=of_decide_eq_true h; omega
    exact ⟨_,rfl,_,rfl,_,_,_,rfl,rfl,iD h,rfl⟩
   ·have h:¬ i<a.length:=by have:=of_decide_eq_false h; omega
    rw [wz (by omega)]
    rfl
  rintro ρ' rfl
  refine ⟨fun ρ=>ρ=[.some (zB a),.some (zB b),.some (.int s),.own ((List.range i).map fun p=>Dt.int (hf a p+s*hf b p)),.some (.int i),.some (.int (hf a i+s*hf b i))],?_,?_⟩
  ·refine ⟨_,rfl,_,rfl,_,rfl,_,_,rfl,rfl,_,rfl,ifB (fun h=>?_) (fun h=>?_)⟩
   ·have h:i<b.length:=by have:=of_decide_eq_true h; omega
    exact ⟨_,rfl,_,rfl,_,rfl,_,rfl,_,_,_,rfl,rfl,iD h,_,_,rfl,rfl,rd sb.1 sb.2 _,_,_,rfl,rfl,rfl⟩
   ·have h:¬ i<b.length:=by have:=of_decide_eq_false h; omega
    rw [wz (show b.length≤i by omega),Int.mul_zero,Int.add_zero]
    rfl
  rintro ρ' rfl
  refine ⟨_,rfl,_,rfl,by rw [ll]; omega,.some (.int i),.some (.int (hf a i+s*hf b i)),?_⟩
  rw [List.range_succ,List.map_append]
  rfl
 ·rintro ρ' ⟨v4,v5,rfl⟩
  rw [Int.toNat_natCast]
  exact ⟨_,rfl,q⟩
abbrev xg:Stmt:=top 68
theorem sc_law_stripped:zh ["_law_figures","_law_made"] ["_law_figures"] (defScope xg):=by walk_at "sc"
theorem sw (T:Txt K mg A) (F:Fun K "_law_stripped" "_law_stripped" xg f fd):FnOk P w K mg base CX0 1 f fd ["_law_figures"] (y_ K (lE)):=by
 refine okF F sc_law_stripped (by walk_at "ln") fun _ _ _ _ _ _ hr ds Q h=>?_
 obtain ⟨r,rfl,hl,q⟩:=h
 refine ⟨_,(zc (yO (i:=1) sc_law_stripped.nd rfl (Or.inl rfl) (y8 rfl T.n_list (dv 0)))
 (zc (x8 PassesOwn.never (DW.dt (wA (zw (jb) (uJ 1 rfl T.len) zd (zt _)) (y7 (zw (nt hr) (qj 1 (yy zd) (fun _ _=>rfl)) zd (zt _))))) (ze (lp 1)))
 (ze (uF 1)))),?_⟩
 refine ⟨_,rfl,_,rfl,_,rfl,?_⟩
 exact s_ rfl ⟨_,rfl,q⟩
abbrev zF:Stmt:=top 49
theorem sc_has_mosts_above_noughts_alone:zh ["way","row","place"] ["way","row"] (defScope zF):=by walk_at "sc"
theorem yC (T:Txt K mg A) (F:Fun K "has_mosts_above_noughts_alone" "has_mosts_above_noughts_alone" zF f fd):FnOk P w K mg base CX0 1 f fd ["way","row"] (zp K (kE A)):=by
 refine okD F sc_has_mosts_above_noughts_alone (by walk_at "ln") fun _ _ _ _ _ _ hr ds Q h=>?_
 obtain ⟨n,r,rfl,hn,hl,q⟩:=h
 refine ⟨_,(zc (nU (j:=2) rfl sc_has_mosts_above_noughts_alone.nd rfl (Or.inl rfl) PassesOwn.never rfl T.range (zb zd (zb (yG rfl T.len (dv 1)) zf)) (ze (zI (DW.dt (wA (zw (nt hr) (zr (dv 1) (dv 2) (fun _ _=>rfl)) (zZ (dv 0)) (zt _)) (y7 (zw (nr hr) (zr (dv 1) (zn yD (dv 2) zd) (fun _ _=>rfl)) zd (zt _))))) (ze (zm va)) zu)))
 (ze (zm va))),?_⟩
 walk_at "rd"
 have ll:=xu r
 refine ⟨_,_,fun i ρ=>∃ v,ρ=[.some (z6 A .falling n),.some (zB r),v]∧∀ p:Nat,p<i→r.getD (p+1) 0=n→r.getD p 0=0,rfl,by decide,by decide,by omega,by omega,⟨_,rfl,fun p hp=>absurd hp (Nat.not_lt_zero _)⟩,?_,?_⟩
 ·rintro i ρ' hi ⟨v,rfl,hp⟩
  rw [ll] at hi
  have e1:(1+(i:Int)).toNat=i+1:=by omega
  have e2:(1+(i:Int) - 1).toNat=i:=by omega
  refine ⟨_,rfl,_,rfl,_,_,_,rfl,rfl,oN (by omega) (by omega),_,rfl,_,_,_,rfl,rfl,T.PF,T.NI,rfl,rfl,_,rfl,?_⟩
  rw [e1]
  refine ifB (fun h=>?_) (fun h=>ifF rfl ?_)
  ·refine ⟨_,rfl,_,rfl,_,_,rfl,rfl,_,_,_,rfl,rfl,oN (by omega) (by omega),rfl,rfl,_,rfl,?_⟩
   rw [e2]
   refine ifB (fun h'=>?_) (fun h'=>?_)
   ·refine q false ⟨fun z=>(Bool.false_ne_true z).elim,fun z=>?_⟩
    exact absurd (z i (by omega) (i8 h)) (i7 (XW h'))
   ·refine ⟨.some (.int (1+i)),rfl,fun p hp'=>?_⟩
    rcases (by omega:p<i∨p=i) with z | z
    ·exact hp p z
    ·subst z
     exact fun _=>i8 (XX h')
  ·refine ⟨.some (.int (1+i)),rfl,fun p hp'=>?_⟩
   rcases (by omega:p<i∨p=i) with z | z
   ·exact hp p z
   ·subst z
    exact fun z=>absurd z (i7 h)
 ·rintro ρ' ⟨v,rfl,hp⟩
  rw [ll] at hp
  exact q true ⟨fun _ p hp'=>hp p (by omega),fun _=>rfl⟩
abbrev u_:Stmt:=inClass (top 18) 1
theorem mz:zh ["self","place"] ["self","place"] (defScope u_):=by walk_at "sc"
theorem xr (T:Txt K mg A) (F:Fun K "low" "Way.low" u_ f fd):FnOk P w K mg base CX0 1 f fd ["self","place"] (zp K (T9)):=by
 refine okD F mz (by walk_at "ln") fun _ _ _ _ _ _ hr ds Q h=>?_
 obtain ⟨o,p,rfl,q⟩:=h
 refine ⟨_,(ze (zm zd)),?_⟩
 exact q
abbrev xn:Stmt:=inClass (top 21) 1
theorem su:zh ["self","place"] ["self","place"] (defScope xn):=by walk_at "sc"
theorem sG (T:Txt K mg A) (F:Fun K "low" "Balanced.low" xn f fd):FnOk P w K mg base CX0 1 f fd ["self","place"] (zp K (x_ A .balanced (Kd.low .balanced))):=by
 refine okD F su (by walk_at "ln") fun _ _ _ _ _ _ hr ds Q h=>?_
 obtain ⟨n,p,rfl,hn,q⟩:=h
 refine ⟨_,(ze (zm (yy (zZ (dv 0))))),?_⟩
 exact ⟨_,rfl,_,_,_,rfl,rfl,T.Pr,T.Of,_,rfl,q⟩
abbrev wn:Stmt:=inClass (top 19) 1
theorem qz:zh ["self","place"] ["self","place"] (defScope wn):=by walk_at "sc"
theorem qL (T:Txt K mg A) (F:Fun K "high" "Plain.high" wn f fd):FnOk P w K mg base CX0 1 f fd ["self","place"] (zp K (x_ A .plain (Kd.high .plain))):=by
 refine okD F qz (by walk_at "ln") fun _ _ _ _ _ _ hr ds Q h=>?_
 obtain ⟨n,p,rfl,hn,q⟩:=h
 refine ⟨_,(ze (zm (zn yD (zZ (dv 0)) zd))),?_⟩
 exact ⟨_,rfl,_,_,_,rfl,rfl,T.Pt,T.ON,_,_,rfl,rfl,q⟩
abbrev wq:Stmt:=inClass (top 20) 1
theorem qD:zh ["self","place"] ["self","place"] (defScope wq):=by walk_at "sc"
theorem qP (T:Txt K mg A) (F:Fun K "high" "Below.high" wq f fd):FnOk P w K mg base CX0 1 f fd ["self","place"] (zp K (x_ A .below (Kd.high .below))):=by
 refine okD F qD (by walk_at "ln") fun _ _ _ _ _ _ hr ds Q h=>?_
 obtain ⟨n,p,rfl,hn,q⟩:=h
 refine ⟨_,(ze (zm (zn yD (zZ (dv 0)) zd))),?_⟩
 exact ⟨_,rfl,_,_,_,rfl,rfl,T.Pu,T.OO,_,_,rfl,rfl,q⟩
abbrev yT:Stmt:=inClass (top 21) 2
theorem uS:zh ["self","place"] ["self","place"] (defScope yT):=by walk_at "sc"
theorem tz (T:Txt K mg A) (F:Fun K "high" "Balanced.high" yT f fd):FnOk P w K mg base CX0 1 f fd ["self","place"] (zp K (x_ A .balanced (Kd.high .balanced))):=by
 refine okD F uS (by walk_at "ln") fun _ _ _ _ _ _ hr ds Q h=>?_
 obtain ⟨n,p,rfl,hn,q⟩:=h
 refine ⟨_,(ze (zm (zZ (dv 0)))),?_⟩
 exact ⟨_,rfl,_,_,_,rfl,rfl,T.Pr,T.Of,q⟩
abbrev xl:Stmt:=inClass (top 22) 1
theorem sj:zh ["self","place"] ["self","place"] (defScope xl):=by walk_at "sc"
theorem sD (T:Txt K mg A) (F:Fun K "high" "Growing.high" xl f fd):FnOk P w K mg base CX0 1 f fd ["self","place"] (zp K (x_ A .growing (Kd.high .growing))):=by
 refine okD F sj (by walk_at "ln") fun _ _ _ _ _ _ hr ds Q h=>?_
 obtain ⟨n,p,rfl,hn,q⟩:=h
 refine ⟨_,(ze (zm (zn yD (zn yg (zZ (dv 0)) (dv 1)) zd))),?_⟩
 exact ⟨_,rfl,_,_,_,rfl,rfl,T.Pw,T.NH,_,rfl,_,_,rfl,rfl,_,_,rfl,rfl,q⟩
abbrev xm:Stmt:=inClass (top 23) 1
theorem sr:zh ["self","place"] ["self","place"] (defScope xm):=by walk_at "sc"
theorem sE (T:Txt K mg A) (F:Fun K "high" "Falling.high" xm f fd):FnOk P w K mg base CX0 1 f fd ["self","place"] (zp K (x_ A .falling (Kd.high .falling))):=by
 refine okD F sr (by walk_at "ln") fun _ _ _ _ _ _ hr ds Q h=>?_
 obtain ⟨n,p,rfl,hn,q⟩:=h
 refine ⟨_,(ze (zm (zZ (dv 0)))),?_⟩
 exact ⟨_,rfl,_,_,_,rfl,rfl,T.PF,T.NI,q⟩
abbrev wo:Stmt:=inClass (top 24) 2
theorem qB:zh ["self","place"] ["self","place"] (defScope wo):=by walk_at "sc"
theorem qN (T:Txt K mg A) (F:Fun K "high" "Pairs.high" wo f fd):FnOk P w K mg base CX0 1 f fd ["self","place"] (zp K (x_ A .pairs (Kd.high .pairs))):=by
 refine okD F qB (by walk_at "ln") fun _ _ _ _ _ _ hr ds Q h=>?_
 obtain ⟨n,p,rfl,hn,q⟩:=h
 refine ⟨_,(ze (zm (zn yA (zZ (dv 0)) (zZ (dv 0))))),?_⟩
 obtain ⟨h1,h2⟩:=tV hn
 exact ⟨_,rfl,_,_,_,rfl,rfl,T.Pk,T.Ps,_,rfl,_,_,_,rfl,rfl,T.Pk,T.Ps,_,_,rfl,rfl,small (by omega) (by omega) _,q⟩
abbrev yl:Stmt:=top 48
theorem sc_has_figures_alone:zh ["way","row","place","thing"] ["way","row"] (defScope yl):=by walk_at "sc"
theorem wQ (T:Txt K mg A) (HLo:∀ k:Kd,MOk P w K mg base 1 (A.at k) "low" (x_ A k (k.low))∧MOk P w K mg base 1 (A.at k) "high" (x_ A k (k.high))) (F:Fun K "has_figures_alone" "has_figures_alone" yl f fd):FnOk P w K mg base CX0 2 f fd ["way","row"] (zp K (cI A)):=by
 refine okD F sc_has_figures_alone (by walk_at "ln") fun _ _ _ _ _ _ hr ds Q h=>?_
 obtain ⟨k,n,r,rfl,hn,hl,q⟩:=h
 refine ⟨_,(zc (tP (i:=2) (j:=3) rfl sc_has_figures_alone.nd rfl rfl (Or.inl rfl) (Or.inl rfl) PassesOwn.never rfl T.n_enumerate (zb (dv 1) zf) (ze (zI (DW.dt (uE (zw (rJ) (dv 3) (xG hr (dv 0) (zb (dv 2) zf)) (zt _)) (qd (zw (jb) (dv 3) (xG hr (dv 0) (zb (dv 2) zf)) (zt _))))) (ze (zm va)) zu)))
 (ze (zm va))),?_⟩
 obtain ⟨M1,M2⟩:=HLo k
 walk_at "rd"
 refine ⟨_,_,fun i ρ=>∃ v u,ρ=[.some (z6 A k n),.some (zB r),v,u]∧∀ p:Nat,p<i→k.low n p≤r.getD p 0∧r.getD p 0≤k.high n p,rfl,rfl,⟨_,_,rfl,fun p hp=>absurd hp (Nat.not_lt_zero _)⟩,?_,?_⟩
 ·rintro i x ρ' hx ⟨v,u,rfl,hp⟩
  obtain ⟨rfl,hi⟩:=dF hx
  refine ⟨_,rfl,_,rfl,_,_,_,_,rfl,X8 k,M1.mono (by decide),_,rfl,n,i,rfl,hn,_,_,rfl,rfl,_,rfl,?_⟩
  refine ifB (fun h=>ifT rfl ?_) (fun h=>?_)
  ·refine q false ⟨fun z=>(Bool.false_ne_true z).elim,fun z=>?_⟩
   have:=z i hi
   have h:=of_decide_eq_true h
   omega
  ·refine ⟨_,rfl,_,rfl,_,_,_,_,rfl,dR k,M2.mono (by decide),_,rfl,n,i,rfl,hn,_,_,rfl,rfl,_,rfl,?_⟩
   have h:=of_decide_eq_false h
   refine ifB (fun h'=>?_) (fun h'=>?_)
   ·refine q false ⟨fun z=>(Bool.false_ne_true z).elim,fun z=>?_⟩
    have:=z i hi
    have h':=of_decide_eq_true h'
    omega
   ·have h':=of_decide_eq_false h'
    refine ⟨.some (.int i),.some (.int (r.getD i 0)),rfl,fun p hp'=>?_⟩
    rcases (by omega:p<i∨p=i) with z | z
    ·exact hp p z
    ·subst z
     omega
 ·rintro ρ' ⟨v,u,rfl,hp⟩
  rw [xu] at hp
  exact q true ⟨fun _=>hp,fun _=>rfl⟩
abbrev wl:Stmt:=top 50
theorem qw:zh ["way","row"] ["way","row"] (defScope wl):=by walk_at "sc"
theorem qJ (T:Txt K mg A) (G_has_mosts_above_noughts_alone:DOk P w K mg base 1 "has_mosts_above_noughts_alone" (kE A)) (G_has_figures_alone:DOk P w K mg base 2 "has_figures_alone" (cI A)) (F:Fun K "is_writing" "is_writing" wl f fd):FnOk P w K mg base CX0 3 f fd ["way","row"] (zp K (Wf A)):=by
 refine okD F qw (by walk_at "ln") fun _ _ _ _ _ _ hr ds Q h=>?_
 obtain ⟨k,n,r,rfl,hn,hl,q⟩:=h
 refine ⟨_,(x6 (zI (DW.dt (wA (Tv (dv 1)) (y7 (zw (nt hr) (zr (dv 1) (yy zd) (fun _ _=>rfl)) zd (zt _))))) (ze (zm va)) zu)
 (x6 (zI (DW.dt (wA (yn (uK T.isinstance T.PP (dv 0))) (y7 (qe (yn (zj G_has_mosts_above_noughts_alone (hr.mono (by decide)) rfl (zb (dv 0) (zb (dv 1) zf)))))))) (ze (zm va)) zu)
 (ze (zm (zj G_has_figures_alone (hr.mono (by decide)) rfl (zb (dv 0) (zb (dv 1) zf))))))),?_⟩
 refine ⟨fun ρ=>ρ=[.some (z6 A k n),.some (zB r)]∧(r=[]∨r.getD (r.length - 1) 0≠0),?_,?_⟩
 ·walk_at "rd"
  rcases zO r with rfl | ⟨l,z,rfl⟩
  ·exact ifF rfl (ifF rfl ⟨rfl,.inl rfl⟩)
  ·have ez:(l++[z]).getD ((l++[z]).length - 1) 0=z:=by rw [List.length_append]; simp [List.getD_eq_getElem?_getD]
   refine ifT (by simp) ⟨_,rfl,_,rfl,_,_,_,rfl,rfl,atI_last,rfl,rfl,_,rfl,?_⟩
   by_cases hz:z=0
   ·refine ifT (eqI hz) ?_
    rw [ox (fun L=>by
     rcases L.end_ with h | h
     ·simp at h
     ·rw [ez] at h; exact h hz)] at q
    exact q
   ·refine ifF (neI hz) ⟨rfl,.inr (by rw [ez]; exact hz)⟩
 ·rintro ρ' ⟨rfl,hend⟩
  refine ⟨fun ρ=>ρ=[.some (z6 A k n),.some (zB r)]∧(k.isF=true→∀ p,p+1<r.length→r.getD (p+1) 0=n→r.getD p 0=0),?_,?_⟩
  ·refine ⟨_,rfl,_,_,_,_,rfl,kh T k,kiF T k,_,rfl,?_⟩
   cases hk:k.isF with
   | false=>exact ifF rfl (ifF rfl ⟨rfl,fun z=>(Bool.false_ne_true z).elim⟩)
   | true=>
    have ek:k=.falling:=by cases k <;> first | rfl | cases hk
    subst ek
    refine ifT rfl ⟨_,rfl,_,rfl,n,r,rfl,hn,hl,fun b hb=>⟨_,rfl,?_⟩⟩
    cases b with
    | true=>exact ifF rfl ⟨rfl,fun _=>hb.mp rfl⟩
    | false=>
     refine ifT rfl ?_
     rw [ox (fun L=>Bool.false_ne_true (hb.mpr (L.fal rfl)))] at q
     exact q
  ·rintro ρ' ⟨rfl,hf⟩
   refine ⟨_,rfl,_,rfl,k,n,r,rfl,hn,hl,fun b hb=>?_⟩
   cases b with
   | true=>rw [kf ⟨hb.mp rfl,hf,hend⟩] at q; exact q
   | false=>rw [ox (fun L=>Bool.false_ne_true (hb.mpr L.fig))] at q; exact q
abbrev z8:Stmt:=top 51
theorem sc_held_to_be_writings:zh ["way","rows","row"] ["way","rows"] (defScope z8):=by walk_at "sc"
theorem wr (T:Txt K mg A) (G_is_writing:DOk P w K mg base 3 "is_writing" (Wf A)) (F:Fun K "held_to_be_writings" "held_to_be_writings" z8 f fd):FnOk P w K mg base CX0 4 f fd ["way","rows"] (zp K (lI A)):=by
 refine okD F sc_held_to_be_writings (by walk_at "ln") fun _ _ _ _ _ _ hr ds Q h=>?_
 obtain ⟨k,n,rs,rfl,hn,hrs,q⟩:=h
 refine ⟨_,(ze (tQ (j:=2) rfl sc_held_to_be_writings.nd rfl (Or.inl rfl) PassesOwn.never (dv 1) (ze (zI (qe (yn (zj G_is_writing (hr.mono (by decide)) rfl (zb (dv 0) (zb (dv 2) zf))))) (ze wZ) zu)))),?_⟩
 refine ⟨_,rfl,_,fun i ρ=>∃ v,ρ=[.some (z6 A k n),.some (.lst (rs.map zB)),v],rfl,⟨_,rfl⟩,?_,?_⟩
 ·rintro i e ρ' he ⟨v,rfl⟩
  obtain ⟨r,hm,rfl⟩:=List.mem_map.mp (List.mem_of_getElem? he)
  obtain ⟨hL,hl⟩:=hrs r hm
  refine ⟨_,rfl,_,rfl,k,n,r,rfl,hn,hl,_,rfl,?_⟩
  rw [kf hL]
  exact ifF rfl ⟨_,rfl⟩
 ·rintro ρ' ⟨v,rfl⟩
  exact q
abbrev uT:Stmt:=top 34
theorem sc_trimmed:zh ["row","things"] ["row"] (defScope uT):=by walk_at "sc"
theorem mF (T:Txt K mg A) (F:Fun K "trimmed" "trimmed" uT f fd):FnOk P w K mg base CX0 1 f fd ["row"] (y_ K (cz)):=by
 refine okF F sc_trimmed (by walk_at "ln") fun _ _ _ _ _ _ hr ds Q h=>?_
 obtain ⟨r,rfl,q⟩:=h
 refine ⟨_,(zc (yO (i:=1) sc_trimmed.nd rfl (Or.inl rfl) (y8 rfl T.n_list (dv 0)))
 (zc (x8 PassesOwn.never (DW.dt (wA (Xf 1) (y7 (zw (nt hr) (qj 1 (yy zd) (fun _ _=>rfl)) zd (zt _))))) (ze (lp 1)))
 (ze (uF 1)))),?_⟩
 refine ⟨_,rfl,_,rfl,_,rfl,?_⟩
 exact oY rfl ⟨_,rfl,q⟩
abbrev uZ:Stmt:=top 13
theorem mx:zh ["number"] ["number"] (defScope uZ):=by walk_at "sc"
theorem mL (T:Txt K mg A) (G_is_whole:DOk P w K mg base 1 "is_whole" (y9)) (F:Fun K "as_pair" "as_pair" uZ f fd):FnOk P w K mg base CX0 2 f fd ["number"] (zp K (vq)):=by
 refine okD F mx (by walk_at "ln") fun _ _ _ _ _ _ hr ds Q h=>?_
 obtain ⟨d,m,rfl,hm,q⟩:=h
 refine ⟨_,(zc (zI (yn (zj G_is_whole (hr.mono (by decide)) rfl (zb (dv 0) zf))) (ze (zm (zG (zb (dv 0) (zb zd zf))))) zu)
 (ze (zm (dv 0)))),?_⟩
 obtain rfl:=yN hm
 cases m with
 | i n=>
  walk_at "rd"
  exact q
 | p a b=>
  walk_at "rd"
  exact q
abbrev pT:Stmt:=top 14
theorem sc_added:zh ["one","other","left","right"] ["one","other"] (defScope pT):=by walk_at "sc"
theorem i5 (T:Txt K mg A) (G_is_whole:DOk P w K mg base 1 "is_whole" (y9)) (G_as_pair:DOk P w K mg base 2 "as_pair" (vq)) (F:Fun K "added" "added" pT f fd):FnOk P w K mg base CX0 3 f fd ["one","other"] (zp K (sW)):=by
 refine okD F sc_added (by walk_at "ln") fun _ _ _ _ _ _ hr ds Q h=>?_
 obtain ⟨d,e,m,n,rfl,hm,hn,q⟩:=h
 refine ⟨_,(zc (zI (DW.dt (wA (yn (zj G_is_whole (hr.mono (by decide)) rfl (zb (dv 0) zf))) (y7 (yn (zj G_is_whole (hr.mono (by decide)) rfl (zb (dv 1) zf)))))) (ze (zm (zn yg (dv 0) (dv 1)))) zu)
 (zc (zq (i:=2) sc_added.nd rfl (Or.inl rfl) (zj G_as_pair (hr.mono (by decide)) rfl (zb (dv 0) zf)))
 (zc (zq (i:=3) sc_added.nd rfl (Or.inl rfl) (zj G_as_pair (hr.mono (by decide)) rfl (zb (dv 1) zf)))
 (ze (zm (zG (zb (zn yg (zr (dv 2) zd (fun _ _=>rfl)) (zr (dv 3) zd (fun _ _=>rfl))) (zb (zn yg (zr (dv 2) zd (fun _ _=>rfl)) (zr (dv 3) zd (fun _ _=>rfl))) zf)))))))),?_⟩
 obtain rfl:=yN hm
 obtain rfl:=yN hn
 cases m <;> cases n
 all_goals
  walk_at "rd"
  exact q
abbrev vC:Stmt:=top 33
theorem o5:zh ["row","place"] ["row","place"] (defScope vC):=by walk_at "sc"
theorem nh (T:Txt K mg A) (F:Fun K "thing_at" "thing_at" vC f fd):FnOk P w K mg base CX0 1 f fd ["row","place"] (zp K (vX)):=by
 refine okD F o5 (by walk_at "ln") fun _ _ _ _ _ _ hr ds Q h=>?_
 obtain ⟨xs,p,rfl,hp,q⟩:=h
 refine ⟨_,(zc (zI (zw (rJ) (dv 1) (yG rfl T.len (dv 0)) (zt _)) (ze (zm (zr (dv 0) (dv 1) (fun _ _=>rfl)))) zu)
 (ze (zm zd))),?_⟩
 refine ⟨_,rfl,_,rfl,_,rfl,_,_,rfl,rfl,_,rfl,Rh (fun h=>?_) (fun h=>?_)⟩
 ·have h:p<(xs.length:Int):=of_decide_eq_true h
  have hl:p.toNat<xs.length:=by omega
  have e:((p.toNat:Nat):Int)=p:=Int.toNat_of_nonneg hp
  have:=wC (List.getElem?_eq_getElem hl)
  rw [e] at this
  rw [List.getD_eq_getElem?_getD,List.getElem?_eq_getElem hl] at q
  exact ⟨_,rfl,_,rfl,_,_,_,rfl,rfl,this,q⟩
 ·have h:¬ p<(xs.length:Int):=fun z=>h (decide_eq_true z)
  rw [List.getD_eq_getElem?_getD,List.getElem?_eq_none (by omega)] at q
  exact q
abbrev wm:Stmt:=inClass (top 18) 0
theorem qx:zh ["self"] ["self"] (defScope wm):=by walk_at "sc"
theorem yq (T:Txt K mg A) (F:Fun K "nought" "Way.nought" wm f fd):FnOk P w K mg base CX0 1 f fd ["self"] (zp K (R8)):=by
 refine okD F qx (by walk_at "ln") fun _ _ _ _ _ _ hr ds Q h=>?_
 obtain ⟨o,rfl,q⟩:=h
 refine ⟨_,(ze (zm zd)),?_⟩
 exact q
abbrev xh:Stmt:=inClass (top 24) 1
theorem sf:zh ["self"] ["self"] (defScope xh):=by walk_at "sc"
theorem sx (T:Txt K mg A) (F:Fun K "nought" "Pairs.nought" xh f fd):FnOk P w K mg base CX0 1 f fd ["self"] (zp K (R7)):=by
 refine okD F sf (by walk_at "ln") fun _ _ _ _ _ _ hr ds Q h=>?_
 obtain ⟨o,rfl,q⟩:=h
 refine ⟨_,(ze (zm (zG (zb zd (zb zd zf))))),?_⟩
 exact ⟨rfl,q⟩
abbrev tj:Stmt:=inClass (top 18) 5
theorem mB:zh ["self","number"] ["self","number"] (defScope tj):=by walk_at "sc"
theorem vL (T:Txt K mg A) (G_is_whole:DOk P w K mg base 1 "is_whole" (y9)) (F:Fun K "has" "Way.has" tj f fd):FnOk P w K mg base CX0 2 f fd ["self","number"] (zp K (tS .plain)):=by
 refine okD F mB (by walk_at "ln") fun _ _ _ _ _ _ hr ds Q h=>?_
 obtain ⟨o,d,m,rfl,hm,q⟩:=h
 refine ⟨_,(ze (zm (vR (zj G_is_whole (hr.mono (by decide)) rfl (zb (dv 1) zf)) (qi (qk (SL) (dv 1) zd (zt _)))))),?_⟩
 obtain rfl:=yN hm
 cases m
 all_goals
  walk_at "rd"
  exact q
abbrev wL:Stmt:=inClass (top 20) 3
theorem pR:zh ["self","number"] ["self","number"] (defScope wL):=by walk_at "sc"
theorem oh (T:Txt K mg A) (G_is_whole:DOk P w K mg base 1 "is_whole" (y9)) (F:Fun K "has" "Below.has" wL f fd):FnOk P w K mg base CX0 2 f fd ["self","number"] (zp K (tS .below)):=by
 refine okD F pR (by walk_at "ln") fun _ _ _ _ _ _ hr ds Q h=>?_
 obtain ⟨o,d,m,rfl,hm,q⟩:=h
 refine ⟨_,(ze (zm (zj G_is_whole (hr.mono (by decide)) rfl (zb (dv 1) zf)))),?_⟩
 obtain rfl:=yN hm
 cases m
 all_goals
  walk_at "rd"
  exact q
abbrev xo:Stmt:=inClass (top 21) 4
theorem sv:zh ["self","number"] ["self","number"] (defScope xo):=by walk_at "sc"
theorem sH (T:Txt K mg A) (G_is_whole:DOk P w K mg base 1 "is_whole" (y9)) (F:Fun K "has" "Balanced.has" xo f fd):FnOk P w K mg base CX0 2 f fd ["self","number"] (zp K (tS .balanced)):=by
 refine okD F sv (by walk_at "ln") fun _ _ _ _ _ _ hr ds Q h=>?_
 obtain ⟨o,d,m,rfl,hm,q⟩:=h
 refine ⟨_,(ze (zm (zj G_is_whole (hr.mono (by decide)) rfl (zb (dv 1) zf)))),?_⟩
 obtain rfl:=yN hm
 cases m
 all_goals
  walk_at "rd"
  exact q
abbrev uW:Stmt:=top 12
theorem mt:zh ["value"] ["value"] (defScope uW):=by walk_at "sc"
theorem mI (T:Txt K mg A) (G_is_whole:DOk P w K mg base 1 "is_whole" (y9)) (F:Fun K "is_pair" "is_pair" uW f fd):FnOk P w K mg base CX0 2 f fd ["value"] (zp K (pH)):=by
 refine okD F mt (by walk_at "ln") fun _ _ _ _ _ _ hr ds Q h=>?_
 obtain ⟨d,m,rfl,hm,q⟩:=h
 refine ⟨_,(ze (zm (vR (lv (T:=.tuple) T.kt T.isinstance T.n_tuple PyProof.Rows.boot_tuple (dv 0)) (vR (qk (nt hr) (yG rfl T.len (dv 0)) zd (zt _)) (vR (zj G_is_whole (hr.mono (by decide)) rfl (zb (zr (dv 0) zd (fun _ _=>rfl)) zf)) (qi (zj G_is_whole (hr.mono (by decide)) rfl (zb (zr (dv 0) zd (fun _ _=>rfl)) zf)))))))),?_⟩
 obtain rfl:=yN hm
 cases m
 all_goals
  walk_at "rd"
  exact q
abbrev wK:Stmt:=inClass (top 24) 5
theorem pQ:zh ["self","number"] ["self","number"] (defScope wK):=by walk_at "sc"
theorem og (T:Txt K mg A) (G_is_pair:DOk P w K mg base 2 "is_pair" (pH)) (F:Fun K "has" "Pairs.has" wK f fd):FnOk P w K mg base CX0 3 f fd ["self","number"] (zp K (tS .pairs)):=by
 refine okD F pQ (by walk_at "ln") fun _ _ _ _ _ _ hr ds Q h=>?_
 obtain ⟨o,d,m,rfl,hm,q⟩:=h
 refine ⟨_,(ze (zm (zj G_is_pair (hr.mono (by decide)) rfl (zb (dv 1) zf)))),?_⟩
 obtain rfl:=yN hm
 refine ⟨_,rfl,_,m,rfl,hm,?_⟩
 cases m <;> exact q
abbrev xL:Stmt:=inClass (top 19) 2
theorem rk:zh ["self","place"] ["self","place"] (defScope xL):=by walk_at "sc"
theorem rD (T:Txt K mg A) (F:Fun K "ratio" "Plain.ratio" xL f fd):FnOk P w K mg base CX0 1 f fd ["self","place"] (zp K (vZ A .plain (Kd.ratN .plain))):=by
 refine okD F rk (by walk_at "ln") fun _ _ _ _ _ _ hr ds Q h=>?_
 obtain ⟨n,p,rfl,hn,q⟩:=h
 refine ⟨_,(ze (zm (zZ (dv 0)))),?_⟩
 exact ⟨_,rfl,_,_,_,rfl,rfl,T.Pt,T.ON,q⟩
abbrev xO:Stmt:=inClass (top 20) 2
theorem rn:zh ["self","place"] ["self","place"] (defScope xO):=by walk_at "sc"
theorem rG (T:Txt K mg A) (F:Fun K "ratio" "Below.ratio" xO f fd):FnOk P w K mg base CX0 1 f fd ["self","place"] (zp K (vZ A .below (Kd.ratN .below))):=by
 refine okD F rn (by walk_at "ln") fun _ _ _ _ _ _ hr ds Q h=>?_
 obtain ⟨n,p,rfl,hn,q⟩:=h
 refine ⟨_,(ze (zm (yy (zZ (dv 0))))),?_⟩
 exact ⟨_,rfl,_,_,_,rfl,rfl,T.Pu,T.OO,_,rfl,q⟩
abbrev yJ:Stmt:=inClass (top 21) 3
theorem uh:zh ["self","place"] ["self","place"] (defScope yJ):=by walk_at "sc"
theorem uq (T:Txt K mg A) (F:Fun K "ratio" "Balanced.ratio" yJ f fd):FnOk P w K mg base CX0 1 f fd ["self","place"] (zp K (vZ A .balanced (Kd.ratN .balanced))):=by
 refine okD F uh (by walk_at "ln") fun _ _ _ _ _ _ hr ds Q h=>?_
 obtain ⟨n,p,rfl,hn,q⟩:=h
 refine ⟨_,(ze (zm (zn yg (zn yA zd (zZ (dv 0))) zd))),?_⟩
 exact ⟨_,rfl,_,_,_,rfl,rfl,T.Pr,T.Of,_,_,rfl,rfl,om (by decide),_,_,rfl,rfl,q⟩
abbrev yS:Stmt:=inClass (top 22) 2
theorem uQ:zh ["self","place"] ["self","place"] (defScope yS):=by walk_at "sc"
theorem tw (T:Txt K mg A) (F:Fun K "ratio" "Growing.ratio" yS f fd):FnOk P w K mg base CX0 1 f fd ["self","place"] (zp K (vZ A .growing (Kd.ratN .growing))):=by
 refine okD F uQ (by walk_at "ln") fun _ _ _ _ _ _ hr ds Q h=>?_
 obtain ⟨n,p,rfl,hn,q⟩:=h
 refine ⟨_,(ze (zm (zn yg (zZ (dv 0)) (dv 1)))),?_⟩
 exact ⟨_,rfl,_,_,_,rfl,rfl,T.Pw,T.NH,_,rfl,_,_,rfl,rfl,q⟩
abbrev xN:Stmt:=inClass (top 24) 3
theorem rm:zh ["self","place"] ["self","place"] (defScope xN):=by walk_at "sc"
theorem rF (T:Txt K mg A) (F:Fun K "ratio" "Pairs.ratio" xN f fd):FnOk P w K mg base CX0 1 f fd ["self","place"] (zp K (vZ A .pairs (Kd.ratN .pairs))):=by
 refine okD F rm (by walk_at "ln") fun _ _ _ _ _ _ hr ds Q h=>?_
 obtain ⟨n,p,rfl,hn,q⟩:=h
 refine ⟨_,(ze (zm (zG (zb (yy (zZ (dv 0))) (zb zd zf))))),?_⟩
 exact ⟨_,rfl,_,_,_,rfl,rfl,T.Pk,T.Ps,_,rfl,rfl,q⟩
abbrev wJ:Stmt:=inClass (top 18) 4
theorem sc_Way_split:zh ["self","total","place","low","figures","figure"] ["self","total","place"] (defScope wJ):=by walk_at "sc"
theorem y4 (T:Txt K mg A) (HLo:∀ k:Kd,MOk P w K mg base 1 (A.at k) "low" (x_ A k (k.low))∧MOk P w K mg base 1 (A.at k) "high" (x_ A k (k.high))) (HR:∀ k:Kd,k.five=true→MOk P w K mg base 1 (A.at k) "ratio" (vZ A k (k.ratN))) (F:Fun K "split" "Way.split" wJ f fd):FnOk P w K mg base CX0 2 f fd ["self","total","place"] (zp K (cA A)):=by
 refine okD F sc_Way_split (by walk_at "ln") fun _ _ _ _ _ _ hr ds Q h=>?_
 obtain ⟨k,n,t,j,rfl,h4,hn,hj,q⟩:=h
 refine ⟨_,(zc (zq (i:=3) sc_Way_split.nd rfl (Or.inl rfl) (xG hr (dv 0) (zb (dv 2) zf)))
 (zc (zq (i:=4) sc_Way_split.nd rfl (Or.inl rfl) (zn yg (zn yD (xG hr (dv 0) (zb (dv 2) zf)) (dv 3)) zd))
 (zc (zq (i:=5) sc_Way_split.nd rfl (Or.inl rfl) (zn yg (dv 3) (zn vy (zn yD (dv 1) (dv 3)) (dv 4))))
 (ze (zm (zG (zb (dv 5) (zb (zn tE (zn yD (dv 1) (dv 5)) (xG hr (dv 0) (zb (dv 2) zf))) zf)))))))),?_⟩
 obtain ⟨M1,M2⟩:=HLo k
 have h5:k.five=true:=by cases k <;> first | rfl | cases h4
 have M3:=HR k h5
 obtain ⟨e1,e2⟩:=pN h4 n j
 have hp:=rg h4 hn j
 have hr:k.ratN n j=.i (k.rat n j):=by cases k <;> first | rfl | cases h4
 have hb:(k.rat n j).natAbs<1073741824:=by
  obtain ⟨b1,b2⟩:=tV hn
  cases k <;> cases h4 <;> simp only [Kd.rat] <;> omega
 refine ⟨_,rfl,_,_,_,_,rfl,X8 k,M1.mono (by decide),_,rfl,n,j,rfl,hn,?_⟩
 refine ⟨_,rfl,_,_,_,_,rfl,dR k,M2.mono (by decide),_,rfl,n,j,rfl,hn,_,rfl,_,_,rfl,rfl,_,_,rfl,rfl,?_⟩
 refine ⟨_,rfl,_,rfl,_,rfl,_,_,rfl,rfl,_,rfl,_,_,rfl,rfl,(show k.high n j - k.low n j+1≠0 by omega),_,_,rfl,rfl,?_⟩
 refine ⟨_,rfl,_,rfl,_,rfl,_,_,rfl,rfl,_,rfl,_,_,_,_,rfl,Xe k,M3.mono (by decide),_,rfl,n,j,rfl,hn,?_⟩
 rw [hr]
 refine ⟨_,_,rfl,rfl,⟨by omega,hb⟩,rfl,?_⟩
 cases k <;> cases h4 <;> exact q
abbrev wc:Stmt:=top 15
theorem sc_multiplied:zh ["one","other","left","right"] ["one","other"] (defScope wc):=by walk_at "sc"
theorem qE (T:Txt K mg A) (G_is_whole:DOk P w K mg base 1 "is_whole" (y9)) (G_as_pair:DOk P w K mg base 2 "as_pair" (vq)) (F:Fun K "multiplied" "multiplied" wc f fd):FnOk P w K mg base CX0 3 f fd ["one","other"] (zp K (lG)):=by
 refine okD F sc_multiplied (by walk_at "ln") fun _ _ _ _ _ _ hr ds Q h=>?_
 obtain ⟨d,e,m,n,rfl,hm,hn,k1,q⟩:=h
 refine ⟨_,(zc (zI (DW.dt (wA (yn (zj G_is_whole (hr.mono (by decide)) rfl (zb (dv 0) zf))) (y7 (yn (zj G_is_whole (hr.mono (by decide)) rfl (zb (dv 1) zf)))))) (ze (zm (zn yA (dv 0) (dv 1)))) zu)
 (zc (zq (i:=2) sc_multiplied.nd rfl (Or.inl rfl) (zj G_as_pair (hr.mono (by decide)) rfl (zb (dv 0) zf)))
 (zc (zq (i:=3) sc_multiplied.nd rfl (Or.inl rfl) (zj G_as_pair (hr.mono (by decide)) rfl (zb (dv 1) zf)))
 (ze (zm (zG (zb (zn yD (zn yA (zr (dv 2) zd (fun _ _=>rfl)) (zr (dv 3) zd (fun _ _=>rfl))) (zn yA (zr (dv 2) zd (fun _ _=>rfl)) (zr (dv 3) zd (fun _ _=>rfl)))) (zb (zn yg (zn yA (zr (dv 2) zd (fun _ _=>rfl)) (zr (dv 3) zd (fun _ _=>rfl))) (zn yA (zr (dv 2) zd (fun _ _=>rfl)) (zr (dv 3) zd (fun _ _=>rfl)))) zf)))))))),?_⟩
 obtain rfl:=yN hm
 obtain rfl:=yN hn
 obtain ⟨h1,h2,h3,h4⟩:=k1
 cases m <;> cases n
 all_goals
  walk_at "rd"
  first | refine ⟨h1,?_⟩ | skip
  walk_at "rd"
  first | exact q | skip
  try refine ⟨h2,?_⟩
  walk_at "rd"
  try refine ⟨h3,?_⟩
  walk_at "rd"
  try refine ⟨h4,?_⟩
  walk_at "rd"
  try exact q
abbrev xM:Stmt:=inClass (top 24) 4
theorem Oc:zh ["self","total","place","pair","figures","figure","turned"] ["self","total","place"] (defScope xM):=by walk_at "sc"
theorem rE (T:Txt K mg A) (G_as_pair:DOk P w K mg base 2 "as_pair" (vq)) (G_multiplied:DOk P w K mg base 3 "multiplied" (lG)) (F:Fun K "split" "Pairs.split" xM f fd):FnOk P w K mg base CX0 4 f fd ["self","total","place"] (zp K (cB A)):=by
 refine okD F Oc (by walk_at "ln") fun _ _ _ _ _ _ hr ds Q h=>?_
 obtain ⟨n,d,m,j,rfl,hm,hn,q⟩:=h
 refine ⟨_,(zc (zq (i:=3) Oc.nd rfl (Or.inl rfl) (zj G_as_pair (hr.mono (by decide)) rfl (zb (dv 1) zf)))
 (zc (zq (i:=4) Oc.nd rfl (Or.inl rfl) (zn yg (zn yA (zZ (dv 0)) (zZ (dv 0))) zd))
 (zc (zq (i:=5) Oc.nd rfl (Or.inl rfl) (zn vy (zn yg (zr (dv 3) zd (fun _ _=>rfl)) (zn yA (zZ (dv 0)) (zr (dv 3) zd (fun _ _=>rfl)))) (dv 4)))
 (zc (zq (i:=6) Oc.nd rfl (Or.inl rfl) (zj G_multiplied (hr.mono (by decide)) rfl (zb (zG (zb (zn yD (zr (dv 3) zd (fun _ _=>rfl)) (dv 5)) (zb (zr (dv 3) zd (fun _ _=>rfl)) zf))) (zb (zG (zb (yy (zZ (dv 0))) (zb (yy zd) zf))) zf))))
 (ze (zm (zG (zb (dv 5) (zb (zG (zb (zn tE (zr (dv 6) zd (fun _ _=>rfl)) (dv 4)) (zb (zn tE (zr (dv 6) zd (fun _ _=>rfl)) (dv 4)) zf))) zf))))))))),?_⟩
 have hn1:1≤n:=hn.1
 have hn2:n≤9:=hn.2
 have sq:n*n≤81:=by
  have:=Int.mul_le_mul hn2 hn2 (by omega) (by omega)
  omega
 have sq0:0≤n*n:=Int.mul_nonneg (by omega) (by omega)
 have hN:kH 0 (n*n+1):=⟨by omega,by omega⟩
 refine ⟨_,rfl,_,m,rfl,hm,?_⟩
 refine ⟨_,rfl,_,_,_,rfl,rfl,T.Pk,T.Ps,_,rfl,_,_,_,rfl,rfl,T.Pk,T.Ps,_,_,rfl,rfl,small (by omega) (by omega) _,_,_,rfl,rfl,?_⟩
 refine ⟨_,rfl,_,_,_,rfl,rfl,rfl,_,rfl,_,_,_,rfl,rfl,T.Pk,T.Ps,_,rfl,_,_,_,rfl,rfl,rfl,_,_,rfl,rfl,rd (by omega) (by omega) _,_,_,rfl,rfl,_,rfl,_,_,rfl,rfl,(show n*n+1≠0 by omega),?_⟩
 repeat (first | (walk_at "rd1") | refine ⟨_,_,_,rfl,rfl,T.Pk,T.Ps,?_⟩)
 refine ⟨⟨small (show -1000000≤-n by omega) (show -n≤1000000 by omega) _,small (show (-1000000:Int)≤-1 by decide) (show (-1:Int)≤1000000 by decide) _,small (show (-1000000:Int)≤-1 by decide) (show (-1:Int)≤1000000 by decide) _,small (show -1000000≤-n by omega) (show -n≤1000000 by omega) _⟩,?_⟩
 repeat (first | (walk_at "rd1") | refine ⟨hN,?_⟩)
 exact q
abbrev z9:Stmt:=top 36
theorem sc_figures_and_carries:zh ["way","totals","figures","carry","found","place","parts"] ["way","totals"] (defScope z9):=by walk_at "sc"
theorem wu (T:Txt K mg A) (G_added:DOk P w K mg base 3 "added" (sW)) (G_thing_at:DOk P w K mg base 1 "thing_at" (vX)) (HNo:∀ k:Kd,MOk P w K mg base 1 (A.at k) "nought" (T_ k)) (HHas:∀ k:Kd,MOk P w K mg base 3 (A.at k) "has" (tS k)) (HSp:∀ k:Kd,k.five=true→MOk P w K mg base 4 (A.at k) "split" (oQ A k)) (F:Fun K "figures_and_carries" "figures_and_carries" z9 f fd):FnOk P w K mg base (CX1 P w) 5 f fd ["way","totals"] (vW K (.t true true) (cJ A)):=by
 refine SJ F sc_figures_and_carries (by walk_at "ln") fun _ _ _ _ _ _ hr ds Q R h rz=>?_
 obtain ⟨k,n,ts,rfl,h5,hn,ht,hlt0,hw⟩:=h
 refine ⟨_,(zc (zI (yn (uK T.isinstance T.PP (dv 0))) (ze wZ) zu)
 (zc (yO (i:=2) sc_figures_and_carries.nd rfl (Or.inl rfl) (w9 zf))
 (zc (zq (i:=3) sc_figures_and_carries.nd rfl (Or.inl rfl) (uI hr (dv 0)))
 (zc (yO (i:=4) sc_figures_and_carries.nd rfl (Or.inl rfl) (w9 (zb (dv 3) zf)))
 (zc (x8 SD (DW.dt (uE (zw (rJ) (uJ 2 rfl T.len) (yG rfl T.len (dv 1)) (zt _)) (qd (zw (nr hr) (dv 3) (uI hr (dv 0)) (zt _))))) (zc (zq (i:=5) sc_figures_and_carries.nd rfl (Or.inl rfl) (uJ 2 rfl T.len))
 (x6 (zI (DW.dt (wA (zw (SL) (dv 5) (yG rfl T.len (dv 1)) (zt _)) (y7 (qe (yn (xG hr (dv 0) (zb (dv 3) zf))))))) (ze (uG rfl rfl T.NQ T.P7 z_)) zu)
 (zc (zq (i:=6) sc_figures_and_carries.nd rfl (Or.inl rfl) (xG hr (dv 0) (zb (zj G_added (hr.mono (by decide)) rfl (zb (dv 3) (zb (zj G_thing_at (hr.mono (by decide)) rfl (zb (dv 1) (zb (dv 5) zf))) zf))) (zb (dv 5) zf))))
 (zc (w6 2 (zr (dv 6) zd (fun _ _=>rfl)))
 (zc (zq (i:=3) sc_figures_and_carries.nd rfl (Or.inl rfl) (zr (dv 6) zd (fun _ _=>rfl)))
 (ze (w6 4 (dv 3)))))))))
 (ze (nS 2 4))))))),?_⟩
 have ll:(ts.map Nm.dt).length=ts.length:=List.length_map _
 refine ⟨_,rfl,_,_,_,_,rfl,kh T k,kiF T k,_,rfl,?_⟩
 refine ifF (uA h5) ?_
 refine ⟨rfl,_,rfl,_,rfl,_,_,_,_,rfl,x5 k,(HNo k).mono (by decide),_,rfl,_,rfl,rfl,_,rfl,?_⟩
 rcases hw with ⟨J,F,hJ,q⟩ | ⟨hneg,hR⟩
 ·refine ⟨fun m ρ=>∃ j v5 v6,ρ=[.some (z6 A k n),.some (ud ts),.own ((yd k n ts j).map Dt.int),.some (cAt k n ts j).dt,.own (yW k n ts (j+1)),v5,v6]∧m=J - j∧j≤J,⟨J,0,_,_,rfl,rfl,Nat.zero_le _⟩,?_⟩
  rintro m ρ' ⟨j,v5,v6,rfl,rfl,hj⟩
  have fl:=yQ k n ts j
  have fl':((yd k n ts j).map Dt.int).length=j:=by rw [List.length_map,fl]
  have cl:(yW k n ts (j+1)).length=j+1:=by unfold yW; rw [List.length_map,kz]
  have hcz:cAt k n ts j=k.zero↔eqD (cAt k n ts j).dt k.zero.dt=true:=(lm (ya k n ts j) (yb k)).symm
  refine ⟨_,rfl,_,rfl,_,rfl,_,_,rfl,rfl,_,rfl,?_⟩
  by_cases hjJ:j<J
  ·refine ifB (fun _=>ifT rfl ?_) (fun hlt=>⟨_,rfl,_,rfl,_,_,_,_,rfl,x5 k,(HNo k).mono (by decide),_,rfl,tD _,tD _,_,rfl,ifT (nF ?_) ?_⟩)
   rotate_left
   ·have hle:ts.length≤j:=by have:=of_decide_eq_false hlt; omega
    cases e:eqD (cAt k n ts j).dt k.zero.dt with
    | false=>rfl
    | true=>exact absurd (hcz.mpr e) (F.nz j hle hjJ).1
   all_goals
    refine ⟨_,rfl,?_⟩
    rw [fl']
    refine ⟨fun ρ=>ρ=[.some (z6 A k n),.some (ud ts),.own ((yd k n ts j).map Dt.int),.some (cAt k n ts j).dt,.own (yW k n ts (j+1)),.some (.int j),v6],?_,?_⟩
    ·refine ⟨_,rfl,_,rfl,_,rfl,_,_,rfl,rfl,_,rfl,?_⟩
     refine ifB (fun hge=>?_) (fun _=>ifF rfl rfl)
     have hge:ts.length≤j:=by have:=of_decide_eq_true hge; omega
     refine ⟨_,rfl,_,_,_,_,rfl,X9 k,(HHas k).mono (by decide),_,rfl,_,_,_,rfl,yE _,_,rfl,?_⟩
     rw [(F.nz j hge hjJ).2]
     exact ifF rfl rfl
    ·rintro ρ' rfl
     refine ⟨_,rfl,_,_,_,_,rfl,oG k,(HSp k h5).mono (by decide),_,rfl,_,rfl,_,rfl,_,_,rfl,by omega,?_⟩
     rw [Int.toNat_natCast,sN]
     refine ⟨_,_,_,_,rfl,yE _,yE _,_,rfl,n,_,j,rfl,xA (ya k n ts j) (xb ht j),hn,by omega,?_⟩
     refine ⟨_,rfl,_,rfl,_,_,_,rfl,rfl,rfl,by omega,?_⟩
     refine ⟨_,rfl,_,_,_,rfl,rfl,rfl,?_⟩
     refine ⟨_,rfl,_,rfl,by omega,J - (j+1),by omega,j+1,.some (.int j),.some (.tup [.int (fAt k n ts j),(cAt k n ts (j+1)).dt]),?_,rfl,hjJ⟩
     have ef:(yd k n ts j).map Dt.int++[Dt.int (fAt k n ts j)]=(yd k n ts (j+1)).map Dt.int:=by rw [vo,n5]
     have ec:yW k n ts (j+1)++[(cAt k n ts (j+1)).dt]=yW k n ts (j+1+1):=by unfold yW; rw [nZ k n ts (j+1),List.map_append]; rfl
     rw [← ec,← ef]
     rfl
  ·have ej:j=J:=by omega
   subst ej
   refine ifF (decide_eq_false (by rw [fl',ll]; have:=F.le; omega)) ?_
   refine ⟨_,rfl,_,rfl,_,_,_,_,rfl,x5 k,(HNo k).mono (by decide),_,rfl,tD _,tD _,_,rfl,ifF (nT (hcz.mp F.z)) ?_⟩
   exact ⟨_,rfl,_,rfl,q⟩
 ·have hcn:cAt k n ts ts.length≠k.zero:=fun e=>by rw [e,dA] at hneg; cases hneg
  refine ⟨fun m ρ=>∃ j v5 v6,ρ=[.some (z6 A k n),.some (ud ts),.own ((yd k n ts j).map Dt.int),.some (cAt k n ts j).dt,.own (yW k n ts (j+1)),v5,v6]∧m=ts.length - j∧j≤ts.length,⟨ts.length,0,_,_,rfl,rfl,Nat.zero_le _⟩,?_⟩
  rintro m ρ' ⟨j,v5,v6,rfl,rfl,hj⟩
  have fl:=yQ k n ts j
  have fl':((yd k n ts j).map Dt.int).length=j:=by rw [List.length_map,fl]
  have cl:(yW k n ts (j+1)).length=j+1:=by unfold yW; rw [List.length_map,kz]
  have hcz:cAt k n ts j=k.zero↔eqD (cAt k n ts j).dt k.zero.dt=true:=(lm (ya k n ts j) (yb k)).symm
  refine ⟨_,rfl,_,rfl,_,rfl,_,_,rfl,rfl,_,rfl,?_⟩
  by_cases hjl:j<ts.length
  ·refine ifT (decide_eq_true (by rw [fl',ll]; omega)) (ifT rfl ?_)
   refine ⟨_,rfl,?_⟩
   rw [fl']
   refine ⟨fun ρ=>ρ=[.some (z6 A k n),.some (ud ts),.own ((yd k n ts j).map Dt.int),.some (cAt k n ts j).dt,.own (yW k n ts (j+1)),.some (.int j),v6],?_,?_⟩
   ·exact ⟨_,rfl,_,rfl,_,rfl,_,_,rfl,rfl,_,rfl,ifF (decide_eq_false (by rw [ll]; omega)) (ifF rfl rfl)⟩
   ·rintro ρ' rfl
    refine ⟨_,rfl,_,_,_,_,rfl,oG k,(HSp k h5).mono (by decide),_,rfl,_,rfl,_,rfl,_,_,rfl,by omega,?_⟩
    rw [Int.toNat_natCast,sN]
    refine ⟨_,_,_,_,rfl,yE _,yE _,_,rfl,n,_,j,rfl,xA (ya k n ts j) (xb ht j),hn,by omega,?_⟩
    refine ⟨_,rfl,_,rfl,_,_,_,rfl,rfl,rfl,by omega,?_⟩
    refine ⟨_,rfl,_,_,_,rfl,rfl,rfl,?_⟩
    refine ⟨_,rfl,_,rfl,by omega,ts.length - (j+1),by omega,j+1,.some (.int j),.some (.tup [.int (fAt k n ts j),(cAt k n ts (j+1)).dt]),?_,rfl,hjl⟩
    have ef:(yd k n ts j).map Dt.int++[Dt.int (fAt k n ts j)]=(yd k n ts (j+1)).map Dt.int:=by rw [vo,n5]
    have ec:yW k n ts (j+1)++[(cAt k n ts (j+1)).dt]=yW k n ts (j+1+1):=by unfold yW; rw [nZ k n ts (j+1),List.map_append]; rfl
    rw [← ec,← ef]
    rfl
  ·have ej:j=ts.length:=by omega
   subst ej
   refine ifF (decide_eq_false (by rw [fl',ll]; omega)) ?_
   refine ⟨_,rfl,_,rfl,_,_,_,_,rfl,x5 k,(HNo k).mono (by decide),_,rfl,tD _,tD _,_,rfl,ifT (nF ?_) ?_⟩
   ·cases e:eqD (cAt k n ts ts.length).dt k.zero.dt with
    | false=>rfl
    | true=>exact absurd (hcz.mpr e) hcn
   ·refine ⟨_,rfl,?_⟩
    rw [fl']
    refine ⟨fun _=>False,?_,fun _ h=>h.elim⟩
    refine ⟨_,rfl,_,rfl,_,rfl,_,_,rfl,rfl,_,rfl,ifT (decide_eq_true (by rw [ll]; omega)) ?_⟩
    refine ⟨_,rfl,_,_,_,_,rfl,X9 k,(HHas k).mono (by decide),_,rfl,_,_,_,rfl,yE _,_,rfl,?_⟩
    rw [hneg]
    exact ifT rfl (rz _ hR)
abbrev uU:Stmt:=top 37
theorem mq:zh ["way","totals"] ["way","totals"] (defScope uU):=by walk_at "sc"
theorem mG (T:Txt K mg A) (G_trimmed:FOk P w K mg base 1 "trimmed" (cz)) (G_figures_and_carries:TOkX P w K mg base 5 "figures_and_carries" (.t true true) (cJ A)) (F:Fun K "settled" "settled" uU f fd):FnOk P w K mg base (CX1 P w) 6 f fd ["way","totals"] (xB K (vY A)):=by
 refine bG F mq (by walk_at "ln") fun _ _ _ _ _ _ hr ds Q R h rz=>?_
 obtain ⟨k,n,ts,rfl,h5,hn,ht,hl,hw⟩:=h
 refine ⟨_,(ze (vp (sS G_trimmed (hr.mono (by decide)) rfl (zb (zr (ql G_figures_and_carries.dok (hr.mono (by decide)) rfl (zb (dv 0) (zb (dv 1) zf))) zd (fun _ _=>rfl)) zf)))),?_⟩
 refine ⟨_,rfl,_,rfl,k,n,ts,rfl,h5,hn,ht,hl,?_⟩
 rcases hw with ⟨J,F,hJ,q⟩ | ⟨hneg,hR⟩
 ·exact .inl ⟨J,F,hJ,_,_,_,rfl,rfl,rfl,_,rfl,q⟩
 ·exact .inr ⟨hneg,rz _ hR⟩
abbrev xJ:Stmt:=top 52
theorem ri:zh ["way","row"] ["way","row"] (defScope xJ):=by walk_at "sc"
theorem rB (T:Txt K mg A) (G_settled:FOkX P w K mg base 6 "settled" (vY A)) (F:Fun K "written_row" "written_row" xJ f fd):FnOk P w K mg base (CX1 P w) 7 f fd ["way","row"] (xB K (oP A)):=by
 refine bG F ri (by walk_at "ln") fun _ _ _ _ _ _ hr ds Q R h rz=>?_
 obtain ⟨k,n,ts,b,rfl,h5,hn,hl,ht,hb,b7,b8,q,hR⟩:=h
 refine ⟨_,(zc (zI (yn (uK T.isinstance T.PP (dv 0))) (ze wZ) zu)
 (ze (vp (w_ G_settled (hr.mono (by decide)) rfl (zb (dv 0) (zb (dv 1) zf)))))),?_⟩
 refine ⟨_,rfl,_,_,_,_,rfl,kh T k,kiF T k,_,rfl,?_⟩
 refine ifF (uA h5) ?_
 refine ⟨_,rfl,_,rfl,k,n,ts,rfl,h5,hn,ht,by omega,?_⟩
 by_cases hh:yw k (cAt k n ts ts.length)=true
 ·obtain ⟨J,F,hJ,_⟩:=c7 h5 hn ht hb b7 hh
  refine .inl ⟨J,F,by omega,q _ (vB h5 hn ht) (vA F h5 hn ht) ?_⟩
  have:=rb (yd k n ts J)
  rw [yQ] at this
  show (trim (yd k n ts J)).length≤_
  omega
 ·have hneg:yw k (cAt k n ts ts.length)=false:=by cases e:yw k (cAt k n ts ts.length) with | false=>rfl | true=>exact absurd e hh
  have hp:uk k:=Classical.byContradiction fun z=>hh (rL h5 z (ya k n ts _))
  refine .inr ⟨hneg,rz _ (hR hp ?_)⟩
  have:¬ 0≤(xH k n ts).re:=fun z=>hh ((vT hp hn ht _).mp z)
  omega
abbrev wb:Stmt:=top 54
theorem sc_row_plus:zh ["one","other","many"] ["one","other"] (defScope wb):=by walk_at "sc"
theorem ni (T:Txt K mg A) (G_added:DOk P w K mg base 3 "added" (sW)) (G_thing_at:DOk P w K mg base 1 "thing_at" (vX)) (F:Fun K "row_plus" "row_plus" wb f fd):FnOk P w K mg base CX0 4 f fd ["one","other"] (zp K (oR)):=by
 refine okD F sc_row_plus (by walk_at "ln") fun _ _ _ _ _ _ hr ds Q h=>?_
 obtain ⟨a,b,rfl,ha,hb,q⟩:=h
 refine ⟨_,(zc (zq (i:=2) sc_row_plus.nd rfl (Or.inl rfl) (ce rfl rfl T.n_max (zb (yG rfl T.len (dv 0)) (zb (yG rfl T.len (dv 1)) zf))))
 (ze (zm (DF.de (R4 (nW (osc:=defScope wb) (N0:=["one","other","many"]) (bs:=["place"]) (caps:=["one","other"]) (js:=[0,1]) rfl (by decide +kernel) rfl rfl rfl (d6 rfl T.range (dv 2)) (fun _ _ _ _ _=>(yM (i:=0) (show List.Nodup [("place":Str),("one":Str),("other":Str)] by decide +kernel) rfl (Or.inl (lookup_relabel_local rfl)) (.inl rfl))) l_ (fun _ _ _ _ _=>cf) (fun _ _ _ _ _=>(zj G_added (hr.mono (by decide)) rfl (zb (zj G_thing_at (hr.mono (by decide)) rfl (zb (dv 1) (zb (dv 0) zf))) (zb (zj G_thing_at (hr.mono (by decide)) rfl (zb (dv 2) (zb (dv 0) zf))) zf)))))))))),?_⟩
 have l1:(a.map Nm.dt).length=a.length:=List.length_map _
 have l2:(b.map Nm.dt).length=b.length:=List.length_map _
 walk_at "rd"
 have em:(if ((b.map Nm.dt).length:Int)>((a.map Nm.dt).length:Int) then ((b.map Nm.dt).length:Int) else ((a.map Nm.dt).length:Int))=((max a.length b.length:Nat):Int):=by
  rw [l1,l2]; split <;> omega
 rw [em]
 refine ⟨_,fun i es=>es=((List.range i).map fun p=>(a.getD p (.i 0)).add (b.getD p (.i 0))).map Nm.dt,rfl,by omega,by omega,rfl,?_,?_⟩
 ·rintro i es hi rfl
  refine ⟨_,rfl,_,rfl,_,i,rfl,by omega,?_⟩
  refine ⟨_,rfl,_,rfl,_,i,rfl,by omega,?_⟩
  rw [Int.toNat_natCast,sN,sN]
  refine ⟨_,_,a.getD i (.i 0),b.getD i (.i 0),rfl,yE _,yE _,?_⟩
  show List.map Nm.dt (List.map (fun p=>(a.getD p (.i 0)).add (b.getD p (.i 0))) (List.range i))++[_]=List.map Nm.dt (List.map (fun p=>(a.getD p (.i 0)).add (b.getD p (.i 0))) (List.range (i+1)))
  rw [List.range_succ,List.map_append,List.map_append]
  rfl
 ·rintro es rfl
  rw [Int.toNat_natCast]
  exact q
abbrev mC:Stmt:=top 59
theorem c9:zh ["way","one","other"] ["way","one","other"] (defScope mC):=by walk_at "sc"
theorem bF (T:Txt K mg A) (G_held_to_be_writings:DOk P w K mg base 4 "held_to_be_writings" (lI A)) (G_written_row:FOkX P w K mg base 7 "written_row" (oP A)) (G_row_plus:DOk P w K mg base 4 "row_plus" (oR)) (F:Fun K "plus" "plus" mC f fd):FnOk P w K mg base CX0 8 f fd ["way","one","other"] (y_ K (kD A)):=by
 refine okF F c9 (by walk_at "ln") fun _ _ _ _ _ _ hr ds Q h=>?_
 obtain ⟨k,n,a,b,rfl,h5,hn,hLa,hLb,la,lb,q⟩:=h
 refine ⟨_,(zc (sR (zj G_held_to_be_writings (hr.mono (by decide)) rfl (zb (dv 0) (zb (vQ (zb (dv 1) (zb (dv 2) zf))) zf))))
 (ze (vp (w_ G_written_row (hr.mono (by decide)) rfl (zb (dv 0) (zb (zj G_row_plus (hr.mono (by decide)) rfl (zb (dv 1) (zb (dv 2) zf))) zf)))))),?_⟩
 refine ⟨_,rfl,_,rfl,_,rfl,rfl,k,n,[a,b],rfl,hn,fun r' h'=>?_,?_⟩
 ·rcases List.mem_cons.mp h' with rfl | h'
  ·exact ⟨hLa,by omega⟩
  ·rw [List.mem_singleton.mp h']; exact ⟨hLb,by omega⟩
 have hl:=xU a b
 refine ⟨_,rfl,_,rfl,_,rfl,a.map Nm.i,b.map Nm.i,by rw [uc,uc],by rw [List.length_map]; omega,by rw [List.length_map]; omega,?_⟩
 have hw:xH k n ((zE a b).map Nm.i)=(zk k n a).add (zk k n b):=by rw [ye,sY]
 refine ⟨k,n,(zE a b).map Nm.i,14,by rw [q0],h5,hn,by rw [List.length_map]; omega,yp,fun t ht=>?_,by decide,by decide,fun r hr hwr hlr=>?_,fun hk hneg=>?_⟩
 ·obtain ⟨z,hz,rfl⟩:=List.mem_map.mp ht
  obtain ⟨p,rfl⟩:=ui hz
  have f1:=sP hn hLa (by omega) p
  have f2:=sP hn hLb (by omega) p
  have:=Int.natAbs_add_le (hf a p) (hf b p)
  exact ⟨by show (hf a p+hf b p).natAbs≤16384; omega,by show (0:Int).natAbs≤_; decide⟩
 ·rw [List.length_map] at hlr
  exact q r hr (hwr.trans hw) (by omega)
 ·rw [hw,yi] at hneg
  have:=xY hn hLa hk
  have:=xY hn hLb hk
  omega
abbrev wI:Stmt:=top 70
theorem pP:zh ["_law_name","_law_number","_law_carry"] ["_law_name","_law_number","_law_carry"] (defScope wI):=by walk_at "sc"
theorem oe (T:Txt K mg A) (F:Fun K "_law_times" "_law_times" wI f fd):FnOk P w K mg base CX0 1 f fd ["_law_name","_law_number","_law_carry"] (zp K (cH)):=by
 refine okD F pP (by walk_at "ln") fun _ _ _ _ _ _ hr ds Q h=>?_
 obtain ⟨k,n,m,rfl,h1,hn,hm,q⟩:=h
 refine ⟨_,(zc (zI (zw (vz) (dv 0) z_ (zt _)) (ze (zm (zG (zb (zn yD (zn yD zd (zn yA (dv 1) (zr (dv 2) zd (fun _ _=>rfl)))) (zr (dv 2) zd (fun _ _=>rfl))) (zb (zn yD (zr (dv 2) zd (fun _ _=>rfl)) (zn yA (dv 1) (zr (dv 2) zd (fun _ _=>rfl)))) zf))))) zu)
 (ze (zm (zG (zb (zn yA (Rv (by decide) (by decide) (by decide) (dv 1) (zn yD zd (dv 1)) (zn yg (zn yA zd (dv 1)) zd) (dv 0) (fun _ _=>rfl)) (zr (dv 2) zd (fun _ _=>rfl))) (zb zd zf)))))),?_⟩
 obtain ⟨b1,b2⟩:=tV hn
 have sm:=fun z=>rd (n:=n) (by omega) (by omega) z
 cases k
 ·obtain ⟨a,rfl⟩:=hm
  exact ⟨_,rfl,_,_,rfl,rfl,_,rfl,ifF rfl ⟨_,rfl,_,rfl,_,_,rfl,rfl,_,rfl,_,_,rfl,rfl,om (by decide),_,_,rfl,rfl,_,rfl,_,rfl,.inl ⟨rfl,_,rfl,_,_,_,rfl,rfl,rfl,_,_,rfl,rfl,sm _,rfl,q⟩⟩⟩
 ·obtain ⟨a,rfl⟩:=hm
  have q:Q (.tup [.int (-n*a),.int 0]):=q
  rw [← Int.zero_sub] at q
  exact ⟨_,rfl,_,_,rfl,rfl,_,rfl,ifF rfl ⟨_,rfl,_,rfl,_,_,rfl,rfl,_,rfl,_,_,rfl,rfl,om (by decide),_,_,rfl,rfl,_,rfl,_,rfl,.inr (.inl ⟨rfl,_,rfl,_,_,_,rfl,rfl,rfl,_,_,rfl,rfl,rd (by omega) (by omega) _,rfl,q⟩)⟩⟩
 ·obtain ⟨a,rfl⟩:=hm
  exact ⟨_,rfl,_,_,rfl,rfl,_,rfl,ifF rfl ⟨_,rfl,_,rfl,_,_,rfl,rfl,_,rfl,_,_,rfl,rfl,om (by decide),_,_,rfl,rfl,_,rfl,_,rfl,.inr (.inr ⟨rfl,_,rfl,_,_,_,rfl,rfl,rfl,_,_,rfl,rfl,rd (by omega) (by omega) _,rfl,q⟩)⟩⟩
 ·cases h1
 ·cases h1
 ·obtain ⟨a,b,rfl⟩:=hm
  have q:Q (.tup [.int (-n*a - 1*b),.int (-n*b+1*a)]):=q
  have e1:-n*a - 1*b=0 - n*a - b:=by rw [Int.neg_mul]; omega
  have e2:-n*b+1*a=a - n*b:=by rw [Int.neg_mul]; omega
  rw [e1,e2] at q
  walk_at "rd"
  refine ⟨sm _,?_⟩
  walk_at "rd"
  refine ⟨sm _,?_⟩
  walk_at "rd"
  exact q
abbrev wH:Stmt:=top 71
theorem sc_law_worth:zh ["_law_name","_law_number","_law_row","_law_found","_law_k"] ["_law_name","_law_number","_law_row"] (defScope wH):=by walk_at "sc"
theorem p9 (T:Txt K mg A) (G__law_times:DOk P w K mg base 1 "_law_times" (cH)) (F:Fun K "_law_worth" "_law_worth" wH f fd):FnOk P w K mg base CX0 2 f fd ["_law_name","_law_number","_law_row"] (zp K (cG)):=by
 refine okD F sc_law_worth (by walk_at "ln") fun _ _ _ _ _ _ hr ds Q h=>?_
 obtain ⟨k,n,r,rfl,h1,hn,hl,q⟩:=h
 refine ⟨_,(zc (zq (i:=3) sc_law_worth.nd rfl (Or.inl rfl) (zG (zb zd (zb zd zf))))
 (zc (Xj (j:=4) rfl sc_law_worth.nd rfl (Or.inl rfl) PassesOwn.never rfl T.range (zb (zn yD (yG rfl T.len (dv 2)) zd) (zb (yy zd) (zb (yy zd) zf))) (zc (zq (i:=3) sc_law_worth.nd rfl (Or.inl rfl) (zj G__law_times (hr.mono (by decide)) rfl (zb (dv 0) (zb (dv 1) (zb (dv 3) zf)))))
 (ze (zq (i:=3) sc_law_worth.nd rfl (Or.inl rfl) (zG (zb (zn yg (zr (dv 3) zd (fun _ _=>rfl)) (zr (dv 2) (dv 4) (fun _ _=>rfl))) (zb (zr (dv 3) zd (fun _ _=>rfl)) zf)))))))
 (ze (zm (dv 3))))),?_⟩
 have h5:=yP h1
 have lr:(r.map Dt.int).length=r.length:=List.length_map _
 rw [s9 h5] at q
 refine ⟨rfl,?_⟩
 refine ⟨_,rfl,_,rfl,_,_,rfl,rfl,_,rfl,_,rfl,_,_,fun i ρ=>∃ v4,ρ=[.some (.str k.nam),.some (.int n),.some (zB r),.some (.tup [.int (Vt k n (r.length - i) (r.drop (r.length - i))).re,.int (Vt k n (r.length - i) (r.drop (r.length - i))).im]),v4],rfl,by omega,by omega,by decide,by decide,⟨.none,?_⟩,?_,?_⟩
 ·rw [Nat.sub_zero,List.drop_length]
  show _=[Sl.some (.str k.nam),.some (.int n),.some (zB r),.some (.tup [.int (k.zero).re,.int (k.zero).im]),.none]
  rw [yr,yL]
  rfl
 ·rintro i ρ' hi ⟨v4,rfl⟩
  have hi:i<r.length:=by omega
  have e1:((r.map Dt.int).length:Int) - 1 - i=((r.length - (i+1):Nat):Int):=by omega
  dsimp only
  rw [e1]
  obtain ⟨t,ht⟩:∃ t,r[r.length - (i+1)]? = some t:=⟨_,List.getElem?_eq_getElem (by omega)⟩
  have e2:r.drop (r.length - (i+1))=t::r.drop (r.length - i):=by
   rw [List.drop_eq_getElem_cons (by omega:r.length - (i+1)<r.length),show r.length - (i+1)+1=r.length - i by omega]
   rw [List.getElem?_eq_getElem (by omega:r.length - (i+1)<r.length)] at ht
   rw [Option.some.inj ht]
  have e3:Vt k n (r.length - (i+1)) (t::r.drop (r.length - i))=(Nm.i t).add ((k.ratN n ((r.length - (i+1):Nat):Int)).mul (Vt k n (r.length - (i+1)+1) (r.drop (r.length - i)))):=rfl
  rw [show r.length - (i+1)+1=r.length - i by omega,bg h1] at e3
  have hat:(r.map Dt.int)[r.length - (i+1)]? = some (.int t):=by rw [List.getElem?_map,ht]; rfl
  have hv:=pG (n:=n) h5 (r.drop (r.length - i)) (r.length - i)
  refine ⟨_,rfl,_,rfl,_,rfl,k,n,_,rfl,h1,hn,hv,?_⟩
  refine ⟨_,rfl,_,_,_,rfl,rfl,rfl,_,rfl,_,rfl,_,_,_,rfl,rfl,wC hat,_,_,rfl,rfl,_,rfl,_,_,_,rfl,rfl,rfl,rfl,.some (.int ((r.length - (i+1):Nat):Int)),?_⟩
  rw [e2,e3,yi,yK,Int.add_comm (Nm.re (.i t))]
  show _=[_,_,_,Sl.some (.tup [.int (_+t),.int (0+_)]),_]
  rw [Int.zero_add]
  rfl
 ·rintro ρ' ⟨v4,rfl⟩
  have e:(((r.map Dt.int).length:Int) - 1 - -1).toNat=r.length:=by omega
  dsimp only at *
  rw [e,Nat.sub_self,List.drop_zero]
  exact ⟨_,rfl,q⟩
abbrev xi:Stmt:=inClass (top 31) 2
theorem si:zh ["self"] ["self"] (defScope xi):=by walk_at "sc"
theorem sy (T:Txt K mg A) (F:Fun K "rows" "Machine.rows" xi f fd):FnOk P w K mg base CX0 1 f fd ["self"] (y_ K (lH P w K A)):=by
 refine okF F si (by walk_at "ln") fun _ _ _ _ _ _ hr ds Q h=>?_
 obtain ⟨k,L,R,rfl,hl,q⟩:=h
 refine ⟨_,(ze (vp (y8 rfl T.n_list (oI (C:=A.Machine) (f1:="found") (f2:="made") (f3:="leads") (j:=1) (dv 0))))),?_⟩
 exact ⟨_,rfl,_,_,_,rfl,T.cl_Machine,T.na_Machine_made,_,rfl,rfl,by decide,by decide,by decide,_,rfl,q⟩
abbrev vG:Stmt:=top 69
theorem sc_law_path:zh ["_law_machine","_law_totals_here","_law_first","_law_table","_law_row","_law_path_here","_law_total"] ["_law_machine","_law_totals_here","_law_first"] (defScope vG):=by walk_at "sc"
theorem nn (T:Txt K mg A) (HMr:FMOk P w K mg base 1 A.Machine "rows" (lH P w K A)) (F:Fun K "_law_path" "_law_path" vG f fd):FnOk P w K mg base CX0 2 f fd ["_law_machine","_law_totals_here","_law_first"] (zp K (cD P w K A)):=by
 refine okD F sc_law_path (by walk_at "ln") fun _ _ _ _ _ _ hr ds Q h=>?_
 obtain ⟨k,n,lo,hi,L,R,ts,rfl,M,hR,hl,ht,q⟩:=h
 refine ⟨_,(zc (dU (i:=3) sc_law_path.nd rfl (Or.inl rfl))
 (zc (tQ (j:=4) rfl sc_law_path.nd rfl (Or.inl rfl) PassesOwn.never (DF.de (jX hr (dv 0))) (ze (oH 3 hr.u9 (zG (zb (zr (dv 4) zd (fun _ _=>rfl)) (zb (zr (dv 4) zd (fun _ _=>rfl)) zf))) (zr (dv 4) zd (fun _ _=>rfl)))))
 (zc (yO (i:=5) sc_law_path.nd rfl (Or.inl rfl) (w9 (zb (dv 2) zf)))
 (zc (tQ (j:=6) rfl sc_law_path.nd rfl (Or.inl rfl) PassesOwn.never (dv 1) (ze (w6 5 (TM 3 hr.u9 (zG (zb (qj 5 (yy zd) (fun _ _=>rfl)) (zb (dv 6) zf))) (fun _ _=>rfl)))))
 (ze (uF 5)))))),?_⟩
 obtain ⟨b,eb⟩:∃ b:Bool,(if b=true then KM.mp else KM.mn)=k.mdl:=by
  cases k <;> first | exact ⟨true,rfl⟩ | exact ⟨false,rfl⟩
 refine ⟨rfl,b,?_⟩
 rw [eb]
 refine ⟨_,rfl,A.Machine,"found","made","leads",_,_,_,_,rfl,⟨rfl,rfl,rfl⟩,HMr.mono (by decide),k,L,R,rfl,hR,_,fun i ρ=>∃ v,ρ=[.some (rS P w K A k L R),.some (zB ts),.some k.zero.dt,.obj (xz P w K k.mdl ((R.take i).map rW)),v,.none,.none],rfl,⟨_,rfl⟩,?_,?_⟩
 ·rintro i e ρ' he ⟨v,rfl⟩
  rw [List.getElem?_map] at he
  obtain ⟨r,hr,rfl⟩:=Option.map_eq_some_iff.mp he
  refine ⟨_,_,rfl,_,rfl,_,_,_,rfl,rfl,rfl,_,rfl,_,_,_,rfl,rfl,rfl,_,rfl,_,_,_,rfl,rfl,rfl,rfl,zS r.1 r.2.1,uu _ _,ut _ (M.ty r (List.mem_of_getElem? hr)),jM M.knd hr,by rw [List.length_map,List.length_take]; omega,?_⟩
  have e:(R.take (i+1)).map rW=(R.take i).map rW++[rW r]:=by rw [List.take_succ,hr,List.map_append]; rfl
  refine ⟨.some (mDt r),?_⟩
  rw [e]
  rfl
 rintro ρ' ⟨v,rfl⟩
 rw [List.length_map,List.take_length]
 refine ⟨_,rfl,rfl,_,rfl,?_⟩
 refine ⟨_,rfl,_,fun i ρ=>∃ v6,ρ=[.some (rS P w K A k L R),.some (zB ts),.some k.zero.dt,.obj (xz P w K k.mdl (R.map rW)),v,.own (xF k n ts (i+1)),v6],rfl,⟨_,rfl⟩,?_,?_⟩
 ·rintro i e ρ' he ⟨v6,rfl⟩
  rw [List.getElem?_map] at he
  obtain ⟨t,hti,rfl⟩:=Option.map_eq_some_iff.mp he
  have hi':i<ts.length:=(List.getElem?_eq_some_iff.mp hti).1
  have hc:mgC k n k.zero (ts.take i)∈L:=M.go _ _ M.zero fun u hu=>ht u (List.mem_of_mem_take hu)
  have hty:=vN (M.bd _ hc)
  have hb:=ht t (List.mem_of_getElem? hti)
  have et:ts.take (i+1)=ts.take i++[t]:=by rw [List.take_succ,hti]; rfl
  have eC:mgC k n k.zero (ts.take (i+1))=mNx k n (mgC k n k.zero (ts.take i)) t:=by rw [et,ur]
  have ep:xF k n ts (i+1)=xF k n ts i++[(mgC k n k.zero (ts.take i)).dt]:=qY k n ts i
  have ep2:xF k n ts (i+1+1)=xF k n ts (i+1)++[(mNx k n (mgC k n k.zero (ts.take i)) t).dt]:=by rw [qY k n ts (i+1),eC]
  refine ⟨_,rfl,_,_,rfl,eV k,_,rfl,_,rfl,_,_,rfl,(show atI (xF k n ts (i+1)) (-1)=some (mgC k n k.zero (ts.take i)).dt by rw [ep]; exact cw _ _),_,rfl,rfl,zS (mgC k n k.zero (ts.take i)) t,_,uu _ t,ut t hty,M.lookW hc hb.1 hb.2,by rw [iW]; omega,.some (.int t),?_⟩
  rw [ep2]
  rfl
 ·rintro ρ' ⟨v6,rfl⟩
  rw [List.length_map]
  exact ⟨_,rfl,q⟩
abbrev uX:Stmt:=top 38
theorem mv:zh ["way","totals"] ["way","totals"] (defScope uX):=by walk_at "sc"
theorem mJ (T:Txt K mg A) (G_figures_and_carries:TOkX P w K mg base 5 "figures_and_carries" (.t true true) (cJ A)) (F:Fun K "carries" "carries" uX f fd):FnOk P w K mg base (CX1 P w) 6 f fd ["way","totals"] (xB K (cN A)):=by
 refine bG F mv (by walk_at "ln") fun _ _ _ _ _ _ hr ds Q R h rz=>?_
 obtain ⟨k,n,ts,rfl,h5,hn,ht,hl,hw⟩:=h
 refine ⟨_,(ze (vp (TF (dW G_figures_and_carries (hr.mono (by decide)) rfl (zb (dv 0) (zb (dv 1) zf))) (fun _ _=>rfl)))),?_⟩
 refine ⟨_,rfl,_,rfl,k,n,ts,rfl,h5,hn,ht,hl,?_⟩
 rcases hw with ⟨J,F,hJ,q⟩ | ⟨hneg,hR⟩
 ·exact .inl ⟨J,F,hJ,_,_,rfl,q⟩
 ·exact .inr ⟨hneg,rz _ hR⟩
abbrev zU:Stmt:=top 27
theorem xC:zh ["way"] ["way"] (defScope zU):=by walk_at "sc"
theorem xD (T:Txt K mg A) (F:Fun K "held_to_have_one_ratio" "held_to_have_one_ratio" zU f fd):FnOk P w K mg base (CX1 P w) 1 f fd ["way"] (vt K (cE A)):=by
 refine SK F xC (by walk_at "ln") fun _ _ _ _ _ _ hr ds Q R h rz=>?_
 obtain ⟨k,n,rfl,hw⟩:=h
 refine ⟨_,(ze (zI (yn (Xv T.isinstance T.NS T.PP (dv 0))) (ze (uG rfl rfl T.NT T.P9 z_)) zu)),?_⟩
 refine ⟨_,rfl,_,_,_,_,_,rfl,X2 T k,QH T k,QI T k,_,rfl,?_⟩
 rcases hw with ⟨h1,q⟩ | ⟨h1,hR⟩
 ·exact ifF (by cases k <;> first | rfl | cases h1) q
 ·exact ifT (by cases k <;> first | rfl | cases h1) (rz _ hR)
abbrev yI:Stmt:=top 26
theorem uf:zh ["way"] ["way"] (defScope yI):=by walk_at "sc"
theorem uo (T:Txt K mg A) (F:Fun K "farthest_total" "farthest_total" yI f fd):FnOk P w K mg base CX0 1 f fd ["way"] (zp K (Wg A)):=by
 refine okD F uf (by walk_at "ln") fun _ _ _ _ _ _ hr ds Q h=>?_
 obtain ⟨k,n,rfl,hn,q⟩:=h
 refine ⟨_,(zc (zI (yn (uK T.isinstance T.NR (dv 0))) (ze (zm (TK rfl rfl T.n_min (zb zd (zb (zn yA (zn yA zd (zZ (dv 0))) (zZ (dv 0))) zf))))) zu)
 (ze (zm zd))),?_⟩
 refine ⟨_,rfl,_,_,_,_,rfl,X2 T k,QG T k,_,rfl,?_⟩
 by_cases hk:k=.pairs
 ·subst hk
  obtain ⟨b1,b2⟩:=tV hn
  refine ifT rfl ?_
  refine ⟨_,rfl,_,_,_,rfl,rfl,T.Pk,T.Ps,_,_,rfl,rfl,om (by decide),_,rfl,_,_,_,rfl,rfl,T.Pk,T.Ps,_,_,rfl,rfl,small (by omega) (by omega) _,_,_,rfl,?_⟩
  exact q
 ·refine ifF (by cases k <;> first | rfl | exact absurd rfl hk) ?_
  have e:k.far n=60:=by cases k <;> first | rfl | exact absurd rfl hk
  rw [e] at q
  exact q
abbrev yk:Stmt:=top 28
theorem sc_held_to_be_a_span:zh ["way","low","high","farthest"] ["way","low","high"] (defScope yk):=by walk_at "sc"
theorem wP (T:Txt K mg A) (G_farthest_total:DOk P w K mg base 1 "farthest_total" (Wg A)) (F:Fun K "held_to_be_a_span" "held_to_be_a_span" yk f fd):FnOk P w K mg base (CX1 P w) 2 f fd ["way","low","high"] (vt K (We A)):=by
 refine SK F sc_held_to_be_a_span (by walk_at "ln") fun _ _ _ _ _ _ hr ds Q R h rz=>?_
 obtain ⟨k,n,lo,hi,rfl,hn,hw⟩:=h
 refine ⟨_,(zc (zq (i:=3) sc_held_to_be_a_span.nd rfl (Or.inl rfl) (zj G_farthest_total (hr.mono (by decide)) rfl (zb (dv 0) zf)))
 (ze (zI (DW.dt (uE (zw (jb) (dv 1) zd (zt _)) (uE (zw (rJ) (dv 2) zd (zt _)) (uE (zw (rJ) (dv 1) (yy (dv 3)) (zt _)) (qd (zw (jb) (dv 2) (dv 3) (zt _))))))) (ze (uG rfl rfl T.NU T.Oa z_)) zu))),?_⟩
 refine ⟨_,rfl,k,n,rfl,hn,?_⟩
 rcases hw with ⟨⟨h1,h2,h3,h4⟩,q⟩ | ⟨h1,hR⟩
 ·refine ⟨_,rfl,_,_,rfl,rfl,_,rfl,ifF (decide_eq_false (by omega)) ?_⟩
  refine ⟨_,rfl,_,_,rfl,rfl,_,rfl,ifF (decide_eq_false (by omega)) ?_⟩
  refine ⟨_,rfl,_,rfl,_,rfl,_,_,rfl,rfl,_,rfl,ifF (decide_eq_false (by omega)) ?_⟩
  refine ⟨_,rfl,_,rfl,_,_,rfl,rfl,_,rfl,ifF (decide_eq_false (by omega)) ?_⟩
  exact q
 ·refine ⟨_,rfl,_,_,rfl,rfl,_,rfl,ifB (fun _=>ifT rfl (rz _ hR)) (fun z1=>?_)⟩
  refine ⟨_,rfl,_,_,rfl,rfl,_,rfl,ifB (fun _=>ifT rfl (rz _ hR)) (fun z2=>?_)⟩
  refine ⟨_,rfl,_,rfl,_,rfl,_,_,rfl,rfl,_,rfl,ifB (fun _=>ifT rfl (rz _ hR)) (fun z3=>?_)⟩
  refine ⟨_,rfl,_,rfl,_,_,rfl,rfl,_,rfl,ifB (fun _=>rz _ hR) (fun z4=>absurd ?_ h1)⟩
  have z1:=of_decide_eq_false z1
  have z2:=of_decide_eq_false z2
  have z3:=of_decide_eq_false z3
  have z4:=of_decide_eq_false z4
  exact ⟨by omega,by omega,by omega,by omega⟩
abbrev yu:Stmt:=top 29
theorem sc_carries_and_rows:zh ["way","low","high","carries","known","rows","at","carry","total","parts"] ["way","low","high"] (defScope yu):=by walk_at "sc"
theorem vw (T:Txt K mg A) (G_added:DOk P w K mg base 3 "added" (sW)) (HNo:∀ k:Kd,MOk P w K mg base 1 (A.at k) "nought" (T_ k)) (HSp:∀ k:Kd,k.five=true→MOk P w K mg base 4 (A.at k) "split" (oQ A k)) (F:Fun K "carries_and_rows" "carries_and_rows" yu f fd):FnOk P w K mg base CX0 5 f fd ["way","low","high"] (kC K (.t true true) (cO A)):=by
 refine okT F sc_carries_and_rows (by walk_at "ln") fun _ _ _ _ _ _ hr ds Q h=>?_
 obtain ⟨k,n,lo,hi,rfl,h1,hn,hs,q⟩:=h
 refine ⟨_,(zc (yO (i:=3) sc_carries_and_rows.nd rfl (Or.inl rfl) (w9 (zb (uI hr (dv 0)) zf)))
 (zc (Tx (i:=4) hr.u9 sc_carries_and_rows.nd rfl (Or.inl rfl) (uI hr (dv 0)) va)
 (zc (yO (i:=5) sc_carries_and_rows.nd rfl (Or.inl rfl) (w9 zf))
 (zc (zq (i:=6) sc_carries_and_rows.nd rfl (Or.inl rfl) zd)
 (zc (x8 PassesOwn.never (zw (rJ) (dv 6) (uJ 3 rfl T.len) (zt _)) (zc (zq (i:=7) sc_carries_and_rows.nd rfl (Or.inl rfl) (qj 3 (dv 6) (fun _ _=>rfl)))
 (zc (nU (j:=8) rfl sc_carries_and_rows.nd rfl (Or.inl rfl) PassesOwn.never rfl T.range (zb (dv 1) (zb (zn yg (dv 2) zd) zf)) (zc (zq (i:=9) sc_carries_and_rows.nd rfl (Or.inl rfl) (xG hr (dv 0) (zb (zj G_added (hr.mono (by decide)) rfl (zb (dv 7) (zb (dv 8) zf))) (zb zd zf))))
 (zc (Xk 5 (zG (zb (dv 7) (zb (dv 8) (zb (zr (dv 9) zd (fun _ _=>rfl)) (zb (zr (dv 9) zd (fun _ _=>rfl)) zf))))))
 (ze (zI (dS 4 hr.u9 (zr (dv 9) zd (fun _ _=>rfl))) (zc (oH 4 hr.u9 (zr (dv 9) zd (fun _ _=>rfl)) va)
 (ze (w6 3 (zr (dv 9) zd (fun _ _=>rfl))))) zu)))))
 (ze (kx (i:=6) dw sc_carries_and_rows.nd rfl (Or.inl rfl) zd)))))
 (ze (nS 3 5))))))),?_⟩
 have h5:=yP h1
 obtain ⟨s1,s2,s3,s4⟩:=hs
 have hfar:k.far n≤60:=by
  cases k <;> first | exact Int.le_refl _ | (show (if 2 * n * n < 60 then 2 * n * n else 60)≤60; split <;> omega)
 have hT:(hi+1 - lo).toNat≤121:=by omega
 obtain ⟨b,eb⟩:∃ b:Bool,(if b=true then KM.mi else KM.mp)=k.md:=by
  cases k <;> first | exact ⟨true,rfl⟩ | exact ⟨false,rfl⟩
 have hz:=yb k
 refine ⟨_,rfl,_,_,_,_,rfl,x5 k,(HNo k).mono (by decide),_,rfl,rfl,_,rfl,?_⟩
 refine ⟨rfl,b,_,rfl,_,_,_,_,rfl,x5 k,(HNo k).mono (by decide),_,rfl,k.zero.key,mT _,by rw [eb]; exact mS hz,?_⟩
 rw [eb]
 refine ⟨rfl,_,rfl,?_⟩
 refine ⟨fun m ρ=>∃ (at_:Nat) (L:List Nm) (R:List MR) (v7 v8 v9:Sl),ρ=[.some (z6 A k n),.some (.int lo),.some (.int hi),.own (L.map Nm.dt),.obj (xz P w K k.md (wV L)),.own (R.map mDt),.some (.int at_),v7,v8,v9]∧m=1600 - at_∧at_≤L.length∧R=wD k n lo hi (L.take at_)∧L=xQ k.zero R∧∀ c∈L,mBd k c,⟨1600,0,[k.zero],[],_,_,_,rfl,rfl,Nat.zero_le _,rfl,rfl,fun c hc=>by rw [List.mem_singleton.mp hc]; exact eY k⟩,?_⟩
 rintro m ρ' ⟨at_,L,R,v7,v8,v9,rfl,rfl,hat,hR,hL,hb⟩
 have hnd:L.Nodup:=by rw [hL]; exact qa _ _
 have hfew:=YR hnd hb
 have lL:(L.map Nm.dt).length=L.length:=List.length_map _
 refine ⟨_,rfl,_,rfl,_,_,rfl,rfl,_,rfl,ifB (fun hlt=>?_) (fun hge=>?_)⟩
 ·have hlt:at_<L.length:=by have:=of_decide_eq_true hlt; omega
  obtain ⟨c,hc⟩:∃ c,L[at_]? = some c:=⟨_,List.getElem?_eq_getElem hlt⟩
  have hcL:c∈L:=List.mem_of_getElem? hc
  have hcd:(L.map Nm.dt)[at_]? = some c.dt:=by rw [List.getElem?_map,hc]; rfl
  refine ⟨_,rfl,_,rfl,_,_,rfl,wC hcd,?_⟩
  have lR:R.length≤193600:=by
   have e:R.length=(L.take at_).length*(hi+1 - lo).toNat:=by rw [← uj k n lo hi,← hR]
   have:=Nat.mul_le_mul (show (L.take at_).length≤1600 by rw [List.length_take]; omega) hT
   omega
  refine ⟨_,rfl,_,rfl,_,_,rfl,rfl,lo,hi+1,fun i ρ=>∃ (L' ex:List Nm) (v8 v9:Sl),ρ=[.some (z6 A k n),.some (.int lo),.some (.int hi),.own (L'.map Nm.dt),.obj (xz P w K k.md (wV L')),.own ((R++((wv lo hi).take i).map (tG k n c)).map mDt),.some (.int at_),.some c.dt,v8,v9]∧L'=xQ k.zero (R++((wv lo hi).take i).map (tG k n c))∧L'=L++ex∧∀ c∈L',mBd k c,rfl,by omega,by omega,by omega,by omega,⟨L,[],v8,v9,?_,?_,(List.append_nil _).symm,hb⟩,?_,?_⟩
  ·rw [List.take_zero,List.map_nil,List.append_nil]; rfl
  ·rw [List.take_zero,List.map_nil,List.append_nil]; exact hL
  ·rintro i ρ' hi' ⟨L',ex,v8,v9,rfl,hL',hex,hb'⟩
   have hi':i<(hi+1 - lo).toNat:=hi'
   generalize hR':R++((wv lo hi).take i).map (tG k n c)=R' at *
   have lR':R'.length≤200000:=by
    rw [← hR',List.length_append,List.length_map,List.length_take]
    omega
   have lL':L'.length≤1600:=YR (k:=k) (by rw [hL']; exact qa _ _) hb'
   have hcb:=hb c hcL
   have hnx:mBd k (mNx k n c (lo+i)):=Ti h1 hn hcb (by omega) (by omega)
   have eR:R++((wv lo hi).take (i+1)).map (tG k n c)=R'++[tG k n c (lo+i)]:=by rw [qr hi',List.map_append,← List.append_assoc,hR']; rfl
   have eL:xQ k.zero (R'++[tG k n c (lo+i)])=xX L' (mNx k n c (lo+i)):=by rw [m9,← hL']; rfl
   refine ⟨_,rfl,_,_,_,_,rfl,oG k,(HSp k h5).mono (by decide),_,rfl,_,rfl,_,_,c,.i (lo+i),rfl,yE c,rfl,n,_,0,rfl,xA (vN hcb) (fun _=>⟨_,rfl⟩),hn,by decide,?_⟩
   refine ⟨_,rfl,_,rfl,_,rfl,_,rfl,_,_,_,rfl,rfl,rfl,_,rfl,_,_,_,rfl,rfl,rfl,rfl,by rw [List.length_map]; omega,?_⟩
   refine ⟨_,rfl,_,_,_,rfl,rfl,rfl,_,_,(mNx k n c (lo+i)).key,rfl,mT _,mS (vN hnx),?_⟩
   rw [nI]
   refine ifB (fun hnew=>?_) (fun hold=>?_)
   ·have hnew:mNx k n c (lo+i)∉L':=of_decide_eq_false (XW hnew)
    have hn0:zR (wV L') (mNx k n c (lo+i)).key=none:=by
     have z:=nI (L:=L') (c:=mNx k n c (lo+i))
     rw [decide_eq_false hnew] at z
     cases e:zR (wV L') (mNx k n c (lo+i)).key with
     | none=>rfl
     | some v=>rw [e] at z; cases z
    refine ⟨_,_,rfl,_,rfl,_,_,_,rfl,rfl,rfl,_,mT _,mS (vN hnx),hn0,by unfold wV; rw [List.length_map]; omega,?_⟩
    refine ⟨_,rfl,_,rfl,_,_,_,rfl,rfl,rfl,by rw [List.length_map]; omega,?_⟩
    have eA:xX L' (mNx k n c (lo+i))=L'++[mNx k n c (lo+i)]:=if_neg hnew
    refine ⟨L'++[mNx k n c (lo+i)],ex++[mNx k n c (lo+i)],.some (.int (lo+i)),.some (.tup [.int (mFg k n c (lo+i)),(mNx k n c (lo+i)).dt]),?_,by rw [eR,eL,eA],by rw [hex,List.append_assoc],fun d hd=>?_⟩
    ·rw [eR,List.map_append,List.map_append]
     unfold wV
     rw [List.map_append]
     rfl
    ·rcases List.mem_append.mp hd with hd | hd
     ·exact hb' d hd
     ·rw [List.mem_singleton.mp hd]; exact hnx
   ·have hold:mNx k n c (lo+i)∈L':=of_decide_eq_true (XX hold)
    have eA:xX L' (mNx k n c (lo+i))=L':=if_pos hold
    refine ⟨L',ex,.some (.int (lo+i)),.some (.tup [.int (mFg k n c (lo+i)),(mNx k n c (lo+i)).dt]),?_,by rw [eR,eL,eA],hex,hb'⟩
    rw [eR,List.map_append]
    rfl
  ·rintro ρ' ⟨L',ex,v8,v9,rfl,hL',hex,hb'⟩
   have et:(wv lo hi).take (hi+1 - lo).toNat=wv lo hi:=List.take_of_length_le (by rw [cU]; exact Nat.le_refl _)
   rw [et] at hL'
   rw [et]
   refine ⟨_,rfl,_,_,rfl,rfl,1600 - (at_+1),by omega,at_+1,L',R++(wv lo hi).map (tG k n c),_,_,_,rfl,rfl,?_,?_,hL',hb'⟩
   ·rw [hex,List.length_append]; omega
   ·have e1:L'.take (at_+1)=L.take at_++[c]:=by
     rw [hex,List.take_append_of_le_length (by omega),List.take_succ,hc]
     rfl
    rw [e1,kS,← hR]
 ·have hge:¬ at_<L.length:=by have:=of_decide_eq_false hge; omega
  refine ⟨_,rfl,_,rfl,q L R ⟨hL,?_,hb⟩⟩
  rw [List.take_of_length_le (by omega)] at hR
  exact hR
abbrev vE:Stmt:=top 30
theorem sc_leads_of:zh ["rows","leads","row"] ["rows"] (defScope vE):=by walk_at "sc"
theorem nj (T:Txt K mg A) (F:Fun K "leads_of" "leads_of" vE f fd):FnOk P w K mg base CX0 1 f fd ["rows"] (zp K (kF P w K)):=by
 refine okD F sc_leads_of (by walk_at "ln") fun _ _ _ _ _ _ hr ds Q h=>?_
 obtain ⟨k,R,rfl,hty,hnd,hl,q⟩:=h
 refine ⟨_,(zc (dU (i:=1) sc_leads_of.nd rfl (Or.inl rfl))
 (zc (tQ (j:=2) rfl sc_leads_of.nd rfl (Or.inl rfl) PassesOwn.never (dv 0) (ze (oH 1 hr.u9 (zG (zb (zr (dv 2) zd (fun _ _=>rfl)) (zb (zr (dv 2) zd (fun _ _=>rfl)) zf))) (zG (zb (zr (dv 2) zd (fun _ _=>rfl)) (zb (zr (dv 2) zd (fun _ _=>rfl)) zf))))))
 (ze (Xh 1)))),?_⟩
 obtain ⟨b,eb⟩:∃ b:Bool,(if b=true then KM.mp else KM.mn)=k.mdl:=by
  cases k <;> first | exact ⟨true,rfl⟩ | exact ⟨false,rfl⟩
 refine ⟨rfl,b,?_⟩
 rw [eb]
 refine ⟨_,rfl,_,fun i ρ=>∃ v,ρ=[.some (.lst (R.map mDt)),.obj (xz P w K k.mdl ((R.take i).map wR)),v],rfl,⟨_,rfl⟩,?_,?_⟩
 ·rintro i e ρ' he ⟨v,rfl⟩
  rw [List.getElem?_map] at he
  obtain ⟨r,hr,rfl⟩:=Option.map_eq_some_iff.mp he
  have hi:=(List.getElem?_eq_some_iff.mp hr).1
  have hno:=nD hnd hr
  refine ⟨_,_,rfl,_,rfl,_,_,_,rfl,rfl,rfl,_,rfl,_,_,_,rfl,rfl,rfl,rfl,_,rfl,_,_,_,rfl,rfl,rfl,_,rfl,_,_,_,rfl,rfl,rfl,rfl,zS r.1 r.2.1,uu _ _,ut _ (hty r (List.mem_of_getElem? hr)),hno,by rw [List.length_map,List.length_take]; omega,?_⟩
  have e:(R.take (i+1)).map wR=(R.take i).map wR++[wR r]:=by rw [List.take_succ,hr,List.map_append]; rfl
  refine ⟨.some (mDt r),?_⟩
  rw [e]
  rfl
 ·rintro ρ' ⟨v,rfl⟩
  rw [List.length_map,List.take_length]
  exact ⟨_,rfl,q⟩
abbrev xk:Stmt:=inClass (top 31) 0
theorem sc_Machine_init:zh ["self","way","low","high","made"] ["self","way","low","high"] (defScope xk):=by walk_at "sc"
theorem sB (T:Txt K mg A) (G_held_to_have_one_ratio:DOkX P w K mg base 1 "held_to_have_one_ratio" (cE A)) (G_held_to_be_a_span:DOkX P w K mg base 2 "held_to_be_a_span" (We A)) (G_carries_and_rows:TOk P w K mg base 5 "carries_and_rows" (.t true true) (cO A)) (G_leads_of:DOk P w K mg base 1 "leads_of" (kF P w K)) (F:Fun K "__init__" "Machine.__init__" xk f fd):FnOk P w K mg base (CX1 P w) 6 f fd ["self","way","low","high"] (iz K A.Machine "found" "made" "leads" (oT P w K A)):=by
 refine Rj (lf:="leads_of") F sc_Machine_init T.cl_Machine T.na_Machine_found T.na_Machine_made T.na_Machine_leads (by decide) (by decide) (by decide) (by walk_at "ln") G_leads_of (by decide) (Or.inl rfl) (Or.inl rfl) (by decide) (by decide) (by decide) (fun _ _ _ _ _ _=>rfl) rfl (fun _ _ _ _ _ _ hr p ds Q R h rz=>?_)
 obtain ⟨k,n,lo,hi,rfl,hn,hw⟩:=h
 refine ⟨_,_,_,(sR (ql G_held_to_have_one_ratio (hr.mono (by decide)) rfl (zb (dv 1) zf))),(sR (ql G_held_to_be_a_span (hr.mono (by decide)) rfl (zb (dv 1) (zb (dv 2) (zb (dv 3) zf))))),(zq (i:=4) sc_Machine_init.nd rfl (Or.inl rfl) (zj G_carries_and_rows.dok (hr.mono (by decide)) rfl (zb (dv 1) (zb (dv 2) (zb (dv 3) zf))))),?_⟩
 rcases hw with ⟨h1,hR⟩ | ⟨h1,hs,hR⟩ | ⟨h1,hs,q⟩
 ·exact ⟨_,rfl,k,n,rfl,.inr ⟨h1,rz _ hR⟩⟩
 ·exact ⟨_,rfl,k,n,rfl,.inl ⟨h1,_,rfl,_,rfl,_,rfl,k,n,lo,hi,rfl,hn,.inr ⟨hs,rz _ hR⟩⟩⟩
 ·exact ⟨_,rfl,k,n,rfl,.inl ⟨h1,_,rfl,_,rfl,_,rfl,k,n,lo,hi,rfl,hn,.inl ⟨hs,_,rfl,_,rfl,_,rfl,k,n,lo,hi,rfl,h1,hn,hs,fun L Rw M=>⟨_,_,rfl,rfl,k,Rw,rfl,M.ty,M.knd,Nat.le_trans (M.len (iw hs)) (by decide),q L Rw M⟩⟩⟩⟩
abbrev xj:Stmt:=inClass (top 31) 3
theorem sc_Machine_read:zh ["self","totals","figures","carry","total","lead"] ["self","totals"] (defScope xj):=by walk_at "sc"
theorem sA (T:Txt K mg A) (F:Fun K "read" "Machine.read" xj f fd):FnOk P w K mg base (CX1 P w) 1 f fd ["self","totals"] (vW K (.t true false) (oS P w K A)):=by
 refine SJ F sc_Machine_read (by walk_at "ln") fun _ _ _ _ _ _ hr ds Q R h rz=>?_
 obtain ⟨k,n,lo,hi,L,Rw,ts,rfl,M,hl,hw⟩:=h
 refine ⟨_,(zc (yO (i:=2) sc_Machine_read.nd rfl (Or.inl rfl) (w9 zf))
 (zc (zq (i:=3) sc_Machine_read.nd rfl (Or.inl rfl) (zr (oI (C:=A.Machine) (f1:="found") (f2:="made") (f3:="leads") (j:=0) (dv 0)) zd (fun _ _=>rfl)))
 (zc (tQ (j:=4) rfl sc_Machine_read.nd rfl (Or.inl rfl) SD (dv 1) (zc (zq (i:=5) sc_Machine_read.nd rfl (Or.inl rfl) (Xw hr.u9 (oI (C:=A.Machine) (f1:="found") (f2:="made") (f3:="leads") (j:=2) (dv 0)) (zb (zG (zb (dv 3) (zb (dv 4) zf))) zf)))
 (zc (zI (Tw (dv 5)) (ze (uG rfl rfl T.NV T.Ob z_)) zu)
 (zc (w6 2 (zr (dv 5) zd (fun _ _=>rfl)))
 (ze (zq (i:=3) sc_Machine_read.nd rfl (Or.inl rfl) (zr (dv 5) zd (fun _ _=>rfl))))))))
 (ze (Xg (Ru 2) (QS (dv 3))))))),?_⟩
 obtain ⟨ex,hex⟩:=m_ k.zero Rw
 rw [← M.fnd] at hex
 have h0:atI (L.map Nm.dt) 0=some k.zero.dt:=by rw [hex]; exact wC (show (List.map Nm.dt (k.zero::ex))[0]? = some k.zero.dt from rfl)
 refine ⟨rfl,_,rfl,?_⟩
 refine ⟨_,rfl,_,_,_,rfl,T.cl_Machine,T.na_Machine_found,_,rfl,rfl,by decide,by decide,by decide,_,_,_,rfl,rfl,h0,?_⟩
 refine ⟨_,rfl,_,fun i ρ=>∃ v4 v5,ρ=[.some (rS P w K A k L Rw),.some (zB ts),.own ((mgF k n k.zero (ts.take i)).map Dt.int),.some (mgC k n k.zero (ts.take i)).dt,v4,v5]∧∀ t∈ts.take i,lo≤t∧t≤hi,rfl,⟨_,_,rfl,fun t ht=>nomatch ht⟩,?_,?_⟩
 ·rintro i e ρ' he ⟨v4,v5,rfl,hin⟩
  rw [List.getElem?_map] at he
  obtain ⟨t,ht,rfl⟩:=Option.map_eq_some_iff.mp he
  have hc:mgC k n k.zero (ts.take i)∈L:=M.go _ _ M.zero hin
  have hty:=vN (M.bd _ hc)
  have et:ts.take (i+1)=ts.take i++[t]:=by rw [List.take_succ,ht]; rfl
  have eC:mgC k n k.zero (ts.take (i+1))=mNx k n (mgC k n k.zero (ts.take i)) t:=by rw [et,ur]
  have eF:mgF k n k.zero (ts.take (i+1))=mgF k n k.zero (ts.take i)++[mFg k n (mgC k n k.zero (ts.take i)) t]:=by rw [et,rQ]
  have lF:(mgF k n k.zero (ts.take i)).length≤1000:=by rw [l9,List.length_take]; omega
  generalize mgC k n k.zero (ts.take i)=c at *
  generalize mgF k n k.zero (ts.take i)=fs at *
  refine ⟨_,rfl,_,_,_,rfl,T.cl_Machine,T.na_Machine_leads,_,rfl,rfl,by decide,by decide,by decide,k.mdl,_,rfl,eV k,_,rfl,_,rfl,rfl,zS c t,congrArg (fun x=>[x]) (uu c t),ut t hty,?_⟩
  by_cases hb:lo≤t∧t≤hi
  ·rw [M.look hc hb.1 hb.2]
   refine ⟨_,rfl,_,rfl,ifF rfl ?_⟩
   refine ⟨_,rfl,_,rfl,_,_,_,rfl,rfl,rfl,by rw [List.length_map]; omega,?_⟩
   refine ⟨_,rfl,_,_,_,rfl,rfl,rfl,.some (.int t),.some (.tup [.int (mFg k n c t),(mNx k n c t).dt]),?_,cW hin hb ht⟩
   rw [eC,eF,List.map_append]
   rfl
  ·rw [M.none hb]
   refine ⟨_,rfl,_,rfl,ifT rfl ?_⟩
   rcases hw with ⟨hall,_⟩ | ⟨_,hR⟩
   ·exact absurd (hall t (List.mem_of_getElem? ht)) hb
   ·exact rz _ hR
 ·rintro ρ' ⟨v4,v5,rfl,hin⟩
  rw [List.length_map,List.take_length] at *
  rcases hw with ⟨_,q⟩ | ⟨hn,_⟩
  ·exact .inl ⟨_,rfl,_,rfl,q⟩
  ·exact absurd hin hn
abbrev vF:Stmt:=top 73
theorem sc_law_sums:zh ["_law_name","_law_number","_law_way_here","_law_one","_law_other","_law_first","_law_low","_law_high","_law_machine","_law_totals_here","_law_figures","_law_carry","_law_due","_law_mine","_law_its","_law_path_here","_law_last"] ["_law_name","_law_number","_law_way_here","_law_one","_law_other","_law_first"] (defScope vF):=by walk_at "sc"
theorem nk (T:Txt K mg A) (G__law_bounds:DOk P w K mg base 1 "_law_bounds" (oU)) (G__law_totals:DOk P w K mg base 1 "_law_totals" (lD)) (G__law_stripped:FOk P w K mg base 1 "_law_stripped" (lE)) (G_plus:FOk P w K mg base 8 "plus" (kD A)) (G_settled:FOkX P w K mg base 6 "settled" (vY A)) (G__law_worth:DOk P w K mg base 2 "_law_worth" (cG)) (G__law_path:DOk P w K mg base 2 "_law_path" (cD P w K A)) (G_carries:FOkX P w K mg base 6 "carries" (cN A)) (M_Machine:XH P w K mg base 6 "Machine" A.Machine "found" "made" "leads" (oT P w K A)) (HMd:TMOkX P w K mg base 1 A.Machine "read" (.t true false) (oS P w K A)) (HMr:FMOk P w K mg base 1 A.Machine "rows" (lH P w K A)) (F:Fun K "_law_sums" "_law_sums" vF f fd):FnOk P w K mg base CX0 9 f fd ["_law_name","_law_number","_law_way_here","_law_one","_law_other","_law_first"] (zp K (sV A)):=by
 refine okD F sc_law_sums (by walk_at "ln") fun _ _ _ _ _ _ hr ds Q h=>?_
 obtain ⟨k,n,a,b,rfl,h1,hn,hsm,hLa,hLb,la,lb,q⟩:=h
 refine ⟨_,(zc (qf (i:=6) (j:=7) rfl sc_law_sums.nd rfl rfl (Or.inl rfl) (Or.inl rfl) (zj G__law_bounds (hr.mono (by decide)) rfl (zb (dv 0) (zb (dv 1) zf))))
 (zc (zq (i:=8) sc_law_sums.nd rfl (Or.inl rfl) (nX M_Machine (hr.mono (by decide)) rfl (zb (dv 2) (zb (zn yA zd (dv 6)) (zb (zn yA zd (dv 7)) zf)))))
 (zc (zq (i:=9) sc_law_sums.nd rfl (Or.inl rfl) (zj G__law_totals (hr.mono (by decide)) rfl (zb (dv 3) (zb (dv 4) (zb zd zf)))))
 (zc (qf (i:=10) (j:=11) rfl sc_law_sums.nd rfl rfl (Or.inl rfl) (Or.inl rfl) (DR.de (pq (.t true false) hr (dv 8) (zb (zn i9 (dv 9) (DF.de (lu (vQ (zb zd zf)) zd))) zf))))
 (zc (zq (i:=12) sc_law_sums.nd rfl (Or.inl rfl) (DF.de (sS G__law_stripped (hr.mono (by decide)) rfl (zb (dv 10) zf))))
 (zc (zI (DW.dt (uE (zw (nr hr) (dv 11) (dv 5) (zt _)) (uE (zw (nr hr) (DF.de (sS G_plus (hr.mono (by decide)) rfl (zb (dv 2) (zb (DF.de (y8 rfl T.n_list (dv 3))) (zb (DF.de (y8 rfl T.n_list (dv 4))) zf))))) (dv 12) (zt _)) (qd (zw (nr hr) (DF.de (w_ G_settled (hr.mono (by decide)) rfl (zb (dv 2) (zb (DF.de (y8 rfl T.n_list (dv 9))) zf)))) (dv 12) (zt _)))))) (ze (zm va)) zu)
 (zc (zq (i:=13) sc_law_sums.nd rfl (Or.inl rfl) (zj G__law_worth (hr.mono (by decide)) rfl (zb (dv 0) (zb (dv 1) (zb (dv 3) zf)))))
 (zc (zq (i:=14) sc_law_sums.nd rfl (Or.inl rfl) (zj G__law_worth (hr.mono (by decide)) rfl (zb (dv 0) (zb (dv 1) (zb (dv 4) zf)))))
 (zc (zI (zw (nr hr) (zj G__law_worth (hr.mono (by decide)) rfl (zb (dv 0) (zb (dv 1) (zb (dv 12) zf)))) (zG (zb (zn yg (zr (dv 13) zd (fun _ _=>rfl)) (zr (dv 14) zd (fun _ _=>rfl))) (zb (zn yg (zr (dv 13) zd (fun _ _=>rfl)) (zr (dv 14) zd (fun _ _=>rfl))) zf))) (zt _)) (ze (zm va)) zu)
 (zc (zq (i:=15) sc_law_sums.nd rfl (Or.inl rfl) (zj G__law_path (hr.mono (by decide)) rfl (zb (dv 8) (zb (zn i9 (dv 9) (DF.de (lu (vQ (zb zd zf)) zd))) (zb (dv 5) zf)))))
 (zc (zq (i:=16) sc_law_sums.nd rfl (Or.inl rfl) (yG rfl T.len (dv 9)))
 (zc (x8 PassesOwn.never (zw (nr hr) (zr (dv 15) (dv 16) (fun _ _=>rfl)) (dv 5) (zt _)) (ze (kx (i:=16) dw sc_law_sums.nd rfl (Or.inl rfl) zd)))
 (ze (zm (qk (nt hr) (DF.de (w_ G_carries (hr.mono (by decide)) rfl (zb (dv 2) (zb (DF.de (y8 rfl T.n_list (dv 9))) zf)))) (d9 (dv 15) Xl (wB (zn yg (dv 16) zd))) (zt _)))))))))))))))),?_⟩
 have h5:=yP h1
 obtain ⟨sm1,sm2,sm3,sm4⟩:=hsm
 have l1:k.low n 0≤0:=(xt hn 0).1
 have l2:0≤k.high n 0:=(xt hn 0).2
 have hs:tW k n (2*k.low n 0) (2*k.high n 0):=⟨by omega,by omega,by omega,by omega⟩
 refine ⟨_,rfl,_,rfl,k,n,rfl,h1,hn,_,_,rfl,?_⟩
 refine ⟨_,rfl,_,rfl,_,_,rfl,rfl,om (by decide),_,rfl,_,_,rfl,rfl,om (by decide),k,n,_,_,rfl,hn,.inr (.inr ⟨h1,hs,fun L R M=>⟨_,_,_,rfl,?_⟩⟩)⟩
 have hin:∀ t∈zE a b,2*k.low n 0≤t∧t≤2*k.high n 0:=fun t ht=>by
  obtain ⟨p,rfl⟩:=ui ht
  have f1:=ko h1 hn hLa p
  have f2:=ko h1 hn hLb p
  omega
 have lT:(zE a b).length≤63:=by rw [xU]; omega
 have hw:zk k n (zE a b)=(zk k n a).add (zk k n b):=sY ..
 obtain ⟨hin40,eC,eF,hend⟩:=iE h1 hn M (by omega) (by omega) hin
 obtain ⟨J,F,hJ,hz,htr⟩:=hend (X3 h5 hn fun hk=>by
  rw [hw,yi]
  have:=xY hn hLa hk
  have:=xY hn hLb hk
  omega)
 have hLd:=vB (J:=J) h5 hn (yp (k:=k) (r:=zE a b))
 have hwd:zk k n (qu k n ((zE a b).map Nm.i) J)=(zk k n a).add (zk k n b):=(vA F h5 hn yp).trans ((ye k n _).trans hw)
 have ld:(qu k n ((zE a b).map Nm.i) J).length≤200:=by
  have:=rb (yd k n ((zE a b).map Nm.i) J)
  rw [yQ] at this
  show (trim (yd k n ((zE a b).map Nm.i) J)).length≤_
  omega
 have lRR:R.length≤100000:=by
  have lR:R.length=L.length*(2*k.high n 0+1 - 2*k.low n 0).toNat:=by rw [← uj k n _ _ L,← M.rws]
  have:=Nat.mul_le_mul (YR M.lnd M.bd) (show (2*k.high n 0+1 - 2*k.low n 0).toNat≤61 by omega)
  omega
 generalize hT:zE a b=tt at *
 refine ⟨_,rfl,_,rfl,a,b,1,rfl,.inl rfl,by omega,by omega,?_⟩
 rw [du,hT]
 have lTd:(tt.map Dt.int).length=tt.length:=List.length_map _
 have lTi:(tt.map Nm.i).length=tt.length:=List.length_map _
 have l40:(tt++List.replicate 40 0).length=tt.length+40:=by rw [List.length_append,List.length_replicate]
 refine ⟨_,rfl,A.Machine,"found","made","leads",_,_,_,_,rfl,⟨rfl,rfl,rfl⟩,HMd.mono (by decide),_,rfl,rfl,_,_,rfl,rfl,by decide,by decide,by decide,_,_,rfl,rfl,by rw [lTd,show (40:Int).toNat=40 from rfl,xV,List.length_map,List.length_replicate]; omega,?_⟩
 rw [show (40:Int).toNat=40 from rfl,xV,← List.map_append]
 refine ⟨k,n,_,_,L,R,tt++List.replicate 40 0,rfl,M,by rw [l40]; omega,.inl ⟨hin40,_,_,rfl,?_⟩⟩
 rw [eC,eF,hz]
 refine ⟨_,rfl,_,rfl,by rw [yQ]; omega,?_⟩
 rw [htr]
 generalize hdd:qu k n (tt.map Nm.i) J=dd at *
 have okz:=oi k.zero
 have okd:=l6 dd
 refine ⟨_,rfl,_,rfl,okz,okz,_,rfl,ifF (nT (xx 40 okz)) ?_⟩
 refine ⟨_,rfl,_,rfl,_,rfl,_,rfl,_,rfl,k,n,a,b,rfl,h5,hn,hLa,hLb,by omega,by omega,fun r hr hwr hlr=>?_⟩
 obtain rfl:r=dd:=Sc hn hr hLd (hwr.trans hwd.symm)
 refine ⟨_,rfl,okd,okd,_,rfl,ifF (nT (xx 40 okd)) ?_⟩
 refine ⟨_,rfl,_,rfl,_,rfl,k,n,tt.map Nm.i,(by show [z6 A k n,zB tt]=_; rw [uc]),h5,hn,yp,by omega,.inl ⟨J,F,by omega,?_⟩⟩
 rw [hdd]
 refine ⟨_,rfl,okd,okd,_,rfl,ifF (nT (xx 40 okd)) ?_⟩
 refine ⟨_,rfl,_,rfl,_,rfl,k,n,a,rfl,h1,hn,by omega,?_⟩
 refine ⟨_,rfl,_,rfl,_,rfl,k,n,b,rfl,h1,hn,by omega,?_⟩
 refine ⟨_,rfl,_,rfl,_,rfl,k,n,r,rfl,h1,hn,by omega,?_⟩
 have hre:(zk k n r).re=(zk k n a).re+(zk k n b).re:=by rw [hwd,yi]
 have him:(zk k n r).im=(zk k n a).im+(zk k n b).im:=by rw [hwd,yK]
 rw [hre,him]
 refine ⟨_,rfl,_,_,_,rfl,rfl,rfl,_,rfl,_,_,_,rfl,rfl,rfl,_,_,rfl,rfl,_,rfl,_,_,_,rfl,rfl,rfl,_,rfl,_,_,_,rfl,rfl,rfl,_,_,rfl,rfl,rfl,rfl,rfl,_,rfl,ifF (nT (xx 40 rfl)) ?_⟩
 refine ⟨_,rfl,_,rfl,rfl,_,_,rfl,rfl,by decide,by decide,by decide,_,_,rfl,rfl,by rw [lTd,show (40:Int).toNat=40 from rfl,xV,List.length_map,List.length_replicate]; omega,_,rfl,?_⟩
 rw [show (40:Int).toNat=40 from rfl,xV,← List.map_append]
 refine ⟨k,n,_,_,L,R,tt++List.replicate 40 0,rfl,M,lRR,by rw [l40]; omega,hin40,?_⟩
 rw [iX h1]
 refine ⟨_,rfl,_,rfl,?_⟩
 rw [lTd]
 have hle:=F.le
 refine ⟨fun m ρ=>∃ j:Nat,ρ=[.some (.str k.nam),.some (.int n),.some (z6 A k n),.some (zB a),.some (zB b),.some k.zero.dt,.some (.int (k.low n 0)),.some (.int (k.high n 0)),.some (rS P w K A k L R),.some (zB tt),.some (zB (yd k n (tt.map Nm.i) (tt.length+40))),.some k.zero.dt,.some (zB r),.some (.tup [.int (zk k n a).re,.int (zk k n a).im]),.some (.tup [.int (zk k n b).re,.int (zk k n b).im]),.some (.lst (yW k n (tt.map Nm.i) (tt.length+41))),.some (.int j)]∧m=J - j∧tt.length≤j∧j≤J,⟨J - tt.length,tt.length,rfl,rfl,Nat.le_refl _,by omega⟩,?_⟩
 rintro m ρ' ⟨j,rfl,rfl,j1,j2⟩
 have hcz:=lm (ya k n (tt.map Nm.i) j) (yb k)
 refine ⟨_,rfl,_,rfl,_,_,_,rfl,rfl,wC (T5 (by omega)),_,rfl,oi _,oi _,_,rfl,?_⟩
 by_cases hj:j=J
 ·subst hj
  refine ifF (nT (hcz.mpr F.z)) ?_
  refine ⟨_,rfl,_,rfl,_,rfl,k,n,tt.map Nm.i,(by show [z6 A k n,zB tt]=_; rw [uc]),h5,hn,yp,by omega,.inl ⟨j,F,by omega,?_⟩⟩
  refine ⟨_,rfl,_,rfl,_,_,rfl,rfl,_,rfl,_,rfl,?_⟩
  rw [show ((j:Int)+1)=((j+1:Nat):Int) by omega,jZ,cm (by omega)]
  have okc:okE 40 (.lst (yW k n (tt.map Nm.i) (j+1)))=true:=bH _
  exact ⟨okc,okc,(xx 40 okc).symm ▸ q⟩
 ·have hne:eqD (cAt k n (tt.map Nm.i) j).dt k.zero.dt=false:=by
   cases e:eqD (cAt k n (tt.map Nm.i) j).dt k.zero.dt with
   | false=>rfl
   | true=>exact absurd (hcz.mp e) (F.nz j (by omega) (by omega)).1
  exact ifT (nF hne) ⟨_,rfl,_,_,rfl,rfl,J - (j+1),by omega,j+1,by rw [show ((j+1:Nat):Int)=(j:Int)+1 by omega]; rfl,rfl,by omega,by omega⟩
abbrev xE:Stmt:=top 55
theorem pO:zh ["row","factor"] ["row","factor"] (defScope xE):=by walk_at "sc"
theorem p8 (T:Txt K mg A) (G_multiplied:DOk P w K mg base 3 "multiplied" (lG)) (F:Fun K "row_times" "row_times" xE f fd):FnOk P w K mg base CX0 4 f fd ["row","factor"] (zp K (n8)):=by
 refine okD F pO (by walk_at "ln") fun _ _ _ _ _ _ hr ds Q h=>?_
 obtain ⟨a,f,rfl,ha,⟨f1,f2,f3,f4⟩,q⟩:=h
 refine ⟨_,(ze (zm (DF.de (R5 (nW (osc:=defScope xE) (N0:=["row","factor"]) (bs:=["thing"]) (caps:=["factor"]) (js:=[1]) rfl (by decide +kernel) rfl rfl rfl (Xp (dv 0)) (fun _ _ _ _ _=>(yM (i:=0) (show List.Nodup [("thing":Str),("factor":Str)] by decide +kernel) rfl (Or.inl (lookup_relabel_local rfl)) (.inl rfl))) l_ (fun _ _ _ _ _=>cf) (fun _ _ _ _ _=>(zj G_multiplied (hr.mono (by decide)) rfl (zb (dv 0) (zb (dv 1) zf))))))))),?_⟩
 have ll:=xu a
 refine ⟨_,rfl,a.map Dt.int,fun i es=>es=((a.take i).map fun z=>(Nm.i z).mul f).map Nm.dt,rfl,by rw [ll]; omega,rfl,?_,?_⟩
 ·rintro i e es hi rfl
  obtain ⟨rfl,hl⟩:=ba hi
  refine ⟨_,rfl,_,rfl,_,_,.i (a.getD i 0),f,rfl,rfl,yE f,⟨small f1 f2 _,small f3 f4 _,small f3 f4 _,small f1 f2 _⟩,?_⟩
  show List.map Nm.dt (List.map (fun z=>(Nm.i z).mul f) (a.take i))++[_]=List.map Nm.dt (List.map (fun z=>(Nm.i z).mul f) (a.take (i+1)))
  rw [kM hl,List.map_append,List.map_append]
  rfl
 ·rintro es rfl
  rw [ll,List.take_length]
  exact q
abbrev pS:Stmt:=top 60
theorem sc_minus:zh ["way","one","other","difference"] ["way","one","other"] (defScope pS):=by walk_at "sc"
theorem iZ (T:Txt K mg A) (G_held_to_be_writings:DOk P w K mg base 4 "held_to_be_writings" (lI A)) (G_row_plus:DOk P w K mg base 4 "row_plus" (oR)) (G_row_times:DOk P w K mg base 4 "row_times" (n8)) (G_written_row:FOkX P w K mg base 7 "written_row" (oP A)) (F:Fun K "minus" "minus" pS f fd):FnOk P w K mg base (CX1 P w) 8 f fd ["way","one","other"] (xB K (cF A)):=by
 refine bG F sc_minus (by walk_at "ln") fun _ _ _ _ _ _ hr ds Q R h rz=>?_
 obtain ⟨k,n,a,b,rfl,h5,hn,hLa,hLb,la,lb,q,hR⟩:=h
 refine ⟨_,(zc (sR (zj G_held_to_be_writings (hr.mono (by decide)) rfl (zb (dv 0) (zb (vQ (zb (dv 1) (zb (dv 2) zf))) zf))))
 (zc (zq (i:=3) sc_minus.nd rfl (Or.inl rfl) (zj G_row_plus (hr.mono (by decide)) rfl (zb (dv 1) (zb (zj G_row_times (hr.mono (by decide)) rfl (zb (dv 2) (zb (yy zd) zf))) zf))))
 (zc (zI (yn (uK T.isinstance T.PP (dv 0))) (ze wZ) zu)
 (ze (vp (w_ G_written_row (hr.mono (by decide)) rfl (zb (dv 0) (zb (dv 3) zf)))))))),?_⟩
 have hl:=xU a (zY b (-1))
 have li:(zY b (-1)).length=b.length:=List.length_map _
 refine ⟨_,rfl,_,rfl,_,rfl,rfl,k,n,[a,b],rfl,hn,fun r' h'=>?_,?_⟩
 ·rcases List.mem_cons.mp h' with rfl | h'
  ·exact ⟨hLa,by omega⟩
  ·rw [List.mem_singleton.mp h']; exact ⟨hLb,by omega⟩
 have en:YO (a.map Nm.i) (kR b (.i (-1)))=(zE a (zY b (-1))).map Nm.i:=by rw [Wy,q0]
 refine ⟨_,rfl,_,rfl,_,rfl,b,.i (-1),rfl,by omega,⟨by show (-1000000:Int)≤-1; decide,by show (-1:Int)≤1000000; decide,by show (-1000000:Int)≤0; decide,by show (0:Int)≤1000000; decide⟩,a.map Nm.i,kR b (.i (-1)),by rw [uc],by rw [List.length_map]; omega,by rw [iC]; omega,?_⟩
 rw [en]
 refine ⟨_,rfl,_,_,_,_,rfl,kh T k,kiF T k,_,rfl,?_⟩
 refine ifF (uA h5) ?_
 refine ⟨_,rfl,_,rfl,k,n,(zE a (zY b (-1))).map Nm.i,14,rfl,h5,hn,by rw [List.length_map]; omega,yp,fun t ht=>?_,by decide,by decide,fun r hr hwr hlr=>?_,fun hp hneg=>rz _ (hR hp ?_)⟩
 ·obtain ⟨z,hz,rfl⟩:=List.mem_map.mp ht
  obtain ⟨p,rfl⟩:=ui hz
  have f1:=sP hn hLa (by omega) p
  have f2:=sP hn hLb (by omega) p
  rw [oE]
  exact ⟨by show (hf a p+hf b p*(-1)).natAbs≤16384; omega,by show (0:Int).natAbs≤_; decide⟩
 ·rw [List.length_map] at hlr
  exact q r hr (hwr.trans (ye k n _)) (by omega)
 ·rw [ye] at hneg
  exact hneg
abbrev yH:Stmt:=top 72
theorem sc_law_difference:zh ["_law_way_here","_law_one","_law_other","_law_found"] ["_law_way_here","_law_one","_law_other"] (defScope yH):=by walk_at "sc"
theorem um (T:Txt K mg A) (G_minus:FOkX P w K mg base 8 "minus" (cF A)) (F:Fun K "_law_difference" "_law_difference" yH f fd):FnOk P w K mg base CX0 9 f fd ["_law_way_here","_law_one","_law_other"] (zp K (cK A)):=by
 refine okD F sc_law_difference (by walk_at "ln") fun _ _ _ _ _ _ hr ds Q h=>?_
 obtain ⟨k,n,a,b,rfl,h5,hn,hLa,hLb,la,lb,q,qn⟩:=h
 refine ⟨_,(zc (zq (i:=3) sc_law_difference.nd rfl (Or.inl rfl) cc)
 (zc (ln (i:=3) (m2:="") rfl rfl sc_law_difference.nd rfl (Or.inl rfl) G_minus (hr.mono (by decide)) rfl (zb (dv 0) (zb (dv 1) (zb (dv 2) zf))) (fun _=>(ze (zq (i:=3) sc_law_difference.nd rfl (Or.inl rfl) cc))) rfl T.NQ)
 (ze (zm (dv 3))))),?_⟩
 refine ⟨_,rfl,_,rfl,_,rfl,k,n,a,b,rfl,h5,hn,hLa,hLb,la,lb,fun r hr hw hl=>⟨_,rfl,q r hr hw hl⟩,fun hp hneg=>⟨T.P8,_,rfl,qn hp hneg⟩⟩
abbrev yB:Stmt:=top 74
theorem sc_law_differences:zh ["_law_name","_law_number","_law_way_here","_law_one","_law_other","_law_first","_law_low","_law_high","_law_machine","_law_figures","_law_carry","_law_found"] ["_law_name","_law_number","_law_way_here","_law_one","_law_other","_law_first"] (defScope yB):=by walk_at "sc"
theorem vK (T:Txt K mg A) (G__law_bounds:DOk P w K mg base 1 "_law_bounds" (oU)) (G__law_totals:DOk P w K mg base 1 "_law_totals" (lD)) (G__law_difference:DOk P w K mg base 9 "_law_difference" (cK A)) (G__law_stripped:FOk P w K mg base 1 "_law_stripped" (lE)) (M_Machine:XH P w K mg base 6 "Machine" A.Machine "found" "made" "leads" (oT P w K A)) (HMd:TMOkX P w K mg base 1 A.Machine "read" (.t true false) (oS P w K A)) (F:Fun K "_law_differences" "_law_differences" yB f fd):FnOk P w K mg base CX0 10 f fd ["_law_name","_law_number","_law_way_here","_law_one","_law_other","_law_first"] (zp K (sV A)):=by
 refine okD F sc_law_differences (by walk_at "ln") fun _ _ _ _ _ _ hr ds Q h=>?_
 obtain ⟨k,n,a,b,rfl,h1,hn,hsm,hLa,hLb,la,lb,q⟩:=h
 refine ⟨_,(zc (qf (i:=6) (j:=7) rfl sc_law_differences.nd rfl rfl (Or.inl rfl) (Or.inl rfl) (zj G__law_bounds (hr.mono (by decide)) rfl (zb (dv 0) (zb (dv 1) zf))))
 (zc (zq (i:=8) sc_law_differences.nd rfl (Or.inl rfl) (nX M_Machine (hr.mono (by decide)) rfl (zb (dv 2) (zb (zn yD (dv 6) (dv 7)) (zb (zn yD (dv 7) (dv 6)) zf)))))
 (zc (qf (i:=9) (j:=10) rfl sc_law_differences.nd rfl rfl (Or.inl rfl) (Or.inl rfl) (DR.de (pq (.t true false) hr (dv 8) (zb (zn i9 (zj G__law_totals (hr.mono (by decide)) rfl (zb (dv 3) (zb (dv 4) (zb (yy zd) zf)))) (DF.de (lu (vQ (zb zd zf)) zd))) zf))))
 (zc (zq (i:=11) sc_law_differences.nd rfl (Or.inl rfl) (zj G__law_difference (hr.mono (by decide)) rfl (zb (dv 2) (zb (DF.de (y8 rfl T.n_list (dv 3))) (zb (DF.de (y8 rfl T.n_list (dv 4))) zf)))))
 (zc (zI (zw (nr hr) (dv 10) (dv 5) (zt _)) (ze (zm (vR (qk (vz) (dv 0) z_ (zt _)) (qi (TL (dv 11)))))) zu)
 (ze (zm (vR (Xu (dv 11)) (qi (qk (nt hr) (dv 11) (DF.de (sS G__law_stripped (hr.mono (by decide)) rfl (zb (dv 9) zf))) (zt _))))))))))),?_⟩
 have h5:=yP h1
 obtain ⟨sm1,sm2,sm3,sm4⟩:=hsm
 have l1:k.low n 0≤0:=(xt hn 0).1
 have l2:0≤k.high n 0:=(xt hn 0).2
 have hs:tW k n (k.low n 0 - k.high n 0) (k.high n 0 - k.low n 0):=⟨by omega,by omega,by omega,by omega⟩
 refine ⟨_,rfl,_,rfl,k,n,rfl,h1,hn,_,_,rfl,?_⟩
 refine ⟨_,rfl,_,rfl,_,rfl,_,_,rfl,rfl,_,rfl,_,rfl,_,_,rfl,rfl,k,n,_,_,rfl,hn,.inr (.inr ⟨h1,hs,fun L R M=>⟨_,_,_,rfl,?_⟩⟩)⟩
 have li:(zY b (-1)).length=b.length:=List.length_map _
 have hin:∀ t∈zE a (zY b (-1)),k.low n 0 - k.high n 0≤t∧t≤k.high n 0 - k.low n 0:=fun t ht=>by
  obtain ⟨p,rfl⟩:=ui ht
  have f1:=ko h1 hn hLa p
  have f2:=ko h1 hn hLb p
  rw [oE]
  omega
 have lT:(zE a (zY b (-1))).length≤63:=by rw [xU]; omega
 obtain ⟨hin40,eC,eF,hend⟩:=iE h1 hn M (by omega) (by omega) hin
 have lTd:((zE a (zY b (-1))).map Dt.int).length=(zE a (zY b (-1))).length:=List.length_map _
 have lTi:((zE a (zY b (-1))).map Nm.i).length=(zE a (zY b (-1))).length:=List.length_map _
 have l40:(zE a (zY b (-1))++List.replicate 40 0).length=(zE a (zY b (-1))).length+40:=by rw [List.length_append,List.length_replicate]
 refine ⟨_,rfl,A.Machine,"found","made","leads",_,_,_,_,rfl,⟨rfl,rfl,rfl⟩,HMd.mono (by decide),_,rfl,_,rfl,_,rfl,a,b,-1,rfl,.inr rfl,by omega,by omega,rfl,_,_,rfl,rfl,by decide,by decide,by decide,_,_,rfl,rfl,by rw [lTd,show (40:Int).toNat=40 from rfl,xV,List.length_map,List.length_replicate]; omega,?_⟩
 rw [show (40:Int).toNat=40 from rfl,xV,← List.map_append]
 refine ⟨k,n,_,_,L,R,zE a (zY b (-1))++List.replicate 40 0,rfl,M,by rw [l40]; omega,.inl ⟨hin40,_,_,rfl,?_⟩⟩
 rw [eC,eF]
 refine ⟨_,rfl,_,rfl,_,rfl,_,rfl,_,rfl,k,n,a,b,rfl,h5,hn,hLa,hLb,by omega,by omega,fun r hr hwr hlr=>?_,fun hp hneg=>?_⟩
 ·obtain ⟨J,F,hJ,hz,htr⟩:=hend (X3 h5 hn fun hk=>by rw [← hwr]; exact xY hn hr hk)
  have hLd:=vB (J:=J) h5 hn (yp (k:=k) (r:=zE a (zY b (-1))))
  have hwd:zk k n (qu k n ((zE a (zY b (-1))).map Nm.i) J)=zk k n (zE a (zY b (-1))):=(vA F h5 hn yp).trans (ye k n _)
  have okz:=oi k.zero
  have okr:=l6 r
  obtain e:r=qu k n ((zE a (zY b (-1))).map Nm.i) J:=Sc hn hr hLd (hwr.trans hwd.symm)
  rw [hz]
  refine ⟨_,rfl,_,rfl,okz,okz,_,rfl,ifF (nT (xx 40 okz)) ?_⟩
  refine ⟨_,rfl,_,rfl,ifT rfl ⟨_,rfl,_,rfl,_,rfl,by rw [yQ]; omega,?_⟩⟩
  rw [htr,← e]
  exact ⟨okr,okr,(xx 40 okr).symm ▸ q⟩
 ·have hk:k=.plain:=by
   rcases hp with rfl | rfl
   ·rfl
   ·cases h1
  subst hk
  have hneg':yw .plain (cAt .plain n ((zE a (zY b (-1))).map Nm.i) (zE a (zY b (-1))).length)=false:=by
   cases e:yw .plain (cAt .plain n ((zE a (zY b (-1))).map Nm.i) (zE a (zY b (-1))).length) with
   | false=>rfl
   | true=>
    have z:0≤(xH .plain n ((zE a (zY b (-1))).map Nm.i)).re:=(vT (.inl rfl) hn yp _).mpr (by rw [lTi]; exact e)
    rw [ye] at z
    omega
  obtain ⟨x,ex⟩:=ya .plain n ((zE a (zY b (-1))).map Nm.i) (zE a (zY b (-1))).length
  rw [ex] at hneg'
  have hx:x<0:=by
   have:decide (0≤x)=false:=hneg'
   have:=of_decide_eq_false this
   omega
  obtain ⟨y,ey,hy⟩:=eS hn (l:=(zE a (zY b (-1))).length) (by omega) ex hx 40
  rw [ey]
  exact ⟨_,rfl,_,rfl,rfl,rfl,_,rfl,ifT (nF (neI (by omega))) ⟨_,rfl,_,_,rfl,rfl,_,rfl,ifT rfl ⟨_,rfl,q⟩⟩⟩
abbrev ro:Stmt:=top 75
theorem sc_law:zh ["_law_script","_law_name","_law_number","_law_bounds_here","_law_one","_law_other","_law_way_here","_law_first"] ["_law_script"] (defScope ro):=by walk_at "sc"
theorem WW (T:Txt K mg A) (G__law_chosen:DOk P w K mg base 1 "_law_chosen" (cL)) (G__law_cell_at:DOk P w K mg base 1 "_law_cell_at" (cM)) (G__law_bounds:DOk P w K mg base 1 "_law_bounds" (oU)) (G__law_row_by:DOk P w K mg base 1 "_law_row_by" (cC)) (G__law_way:DOk P w K mg base 5 "_law_way" (cy A)) (G__law_sums:DOk P w K mg base 9 "_law_sums" (sV A)) (G__law_differences:DOk P w K mg base 10 "_law_differences" (sV A)) (F:Fun K "law" "law" ro f fd):FnOk P w K mg base CX0 11 f fd ["_law_script"] (zp K (kG)):=by
 refine okD F sc_law (by walk_at "ln") fun _ _ _ _ _ _ hr ds Q h=>?_
 obtain ⟨ns,rfl,hns,q⟩:=h
 refine ⟨_,(zc (qf (i:=1) (j:=2) rfl sc_law.nd rfl rfl (Or.inl rfl) (Or.inl rfl) (zj G__law_chosen (hr.mono (by decide)) rfl (zb (zj G__law_cell_at (hr.mono (by decide)) rfl (zb (dv 0) (zb zd zf))) zf)))
 (zc (zq (i:=3) sc_law.nd rfl (Or.inl rfl) (zj G__law_bounds (hr.mono (by decide)) rfl (zb (dv 1) (zb (dv 2) zf))))
 (zc (zq (i:=4) sc_law.nd rfl (Or.inl rfl) (zj G__law_row_by (hr.mono (by decide)) rfl (zb (dv 3) (zb (DF.de (pr (dv 0) (wB zd) (wB zd) (wB zd))) zf))))
 (zc (zq (i:=5) sc_law.nd rfl (Or.inl rfl) (zj G__law_row_by (hr.mono (by decide)) rfl (zb (dv 3) (zb (DF.de (pr (dv 0) (wB zd) (wB zd) (wB zd))) zf))))
 (zc (zq (i:=6) sc_law.nd rfl (Or.inl rfl) (zj G__law_way (hr.mono (by decide)) rfl (zb (dv 1) (zb (dv 2) zf))))
 (zc (zq (i:=7) sc_law.nd rfl (Or.inl rfl) zd)
 (x6 (zI (zw (vz) (dv 1) z_ (zt _)) (ze (zq (i:=7) sc_law.nd rfl (Or.inl rfl) (zG (zb zd (zb zd zf))))) zu)
 (zc (zI (qe (yn (zj G__law_sums (hr.mono (by decide)) rfl (zb (dv 1) (zb (dv 2) (zb (dv 6) (zb (dv 4) (zb (dv 5) (zb (dv 7) zf))))))))) (ze (zm va)) zu)
 (ze (zm (zj G__law_differences (hr.mono (by decide)) rfl (zb (dv 1) (zb (dv 2) (zb (dv 6) (zb (dv 4) (zb (dv 5) (zb (dv 7) zf))))))))))))))))),?_⟩
 refine ⟨_,rfl,ns,_,rfl,by decide,fun z0=>⟨_,rfl,fun k n h1 hn hsm=>⟨_,_,rfl,?_⟩⟩⟩
 refine ⟨_,rfl,_,rfl,k,n,rfl,h1,hn,?_⟩
 refine ⟨_,rfl,_,rfl,_,rfl,_,rfl,_,rfl,(fun h=>nomatch h),_,rfl,fun es he hl=>?_⟩
 obtain ⟨c1,rfl⟩:=tK he
 rw [xu,xu] at hl
 refine ⟨k,n,c1,rfl,h1,hn,by omega,fun a hLa hla=>?_⟩
 refine ⟨_,rfl,_,rfl,_,rfl,_,rfl,_,rfl,(fun h=>nomatch h),_,rfl,fun es he2 hl2=>?_⟩
 obtain ⟨c2,rfl⟩:=tK he2
 rw [xu,xu] at hl2
 refine ⟨k,n,c2,rfl,h1,hn,by omega,fun b hLb hlb=>?_⟩
 refine ⟨_,rfl,_,rfl,k,n,rfl,h1,hn,?_⟩
 refine ⟨fun ρ=>ρ=[.some (.scr ns),.some (.str k.nam),.some (.int n),.some (.tup [.int (k.low n 0),.int (k.high n 0)]),.some (zB a),.some (zB b),.some (z6 A k n),.some k.zero.dt],?_,?_⟩
 ·refine ⟨_,rfl,_,_,rfl,rfl,_,rfl,?_⟩
  cases k <;> first | exact ifT rfl ⟨rfl,rfl⟩ | exact ifF rfl rfl
 rintro ρ rfl
 refine ⟨_,rfl,_,rfl,_,rfl,_,rfl,_,rfl,_,rfl,k,n,a,b,rfl,h1,hn,hsm,hLa,hLb,by omega,by omega,_,rfl,ifF rfl ?_⟩
 exact ⟨_,rfl,_,rfl,_,rfl,_,rfl,_,rfl,_,rfl,k,n,a,b,rfl,h1,hn,hsm,hLa,hLb,by omega,by omega,q⟩
end
def BA (n q:Str) (st:Stmt) (ps:List Str) (us:List Value):Prop:=∀ (kV doc pm:Value) (an:Option Addr) (cdv ct:Value),bindArgs (PySem.W.fnOf n q (defArgs st) (defBody st) (defScope st) .none kV doc pm an cdv ct) ⟨us,[]⟩=pure (ps.zip us)
def BZ (n q:Str) (st:Stmt) (ps:List Str):Prop:=∀ us:List Value,us.length=ps.length→BA n q st ps us
theorem bz1 {n q:Str} {st:Stmt} {ps:List Str} (hl:ps.length=1) (h:∀ u0:Value,BA n q st ps [u0]):BZ n q st ps:=fun us e=>match us,e.trans hl with | [_],_=>h _
theorem bz2 {n q:Str} {st:Stmt} {ps:List Str} (hl:ps.length=2) (h:∀ u0 u1:Value,BA n q st ps [u0,u1]):BZ n q st ps:=fun us e=>match us,e.trans hl with | [_,_],_=>h _ _
theorem bz3 {n q:Str} {st:Stmt} {ps:List Str} (hl:ps.length=3) (h:∀ u0 u1 u2:Value,BA n q st ps [u0,u1,u2]):BZ n q st ps:=fun us e=>match us,e.trans hl with | [_,_,_],_=>h _ _ _
theorem bz4 {n q:Str} {st:Stmt} {ps:List Str} (hl:ps.length=4) (h:∀ u0 u1 u2 u3:Value,BA n q st ps [u0,u1,u2,u3]):BZ n q st ps:=fun us e=>match us,e.trans hl with | [_,_,_,_],_=>h _ _ _ _
theorem bz6 {n q:Str} {st:Stmt} {ps:List Str} (hl:ps.length=6) (h:∀ u0 u1 u2 u3 u4 u5:Value,BA n q st ps [u0,u1,u2,u3,u4,u5]):BZ n q st ps:=fun us e=>match us,e.trans hl with | [_,_,_,_,_,_],_=>h _ _ _ _ _ _
section
variable (K:PySem.W.Frag)
def FX (n q:Str) (st:Stmt) (f:Addr):Prop:=∃ oc od kV dc pm an cd ct sl,K.lookup f=some ⟨oc,od,.func (PySem.W.fnOf n q (defArgs st) (defBody st) (defScope st) .none kV dc pm an cd ct),sl⟩∧PySem.W.codeIn K cd q=true∧PySem.W.keepIn K (.ref f)=true
def FD (n:Str) (st:Stmt) (f:Addr):Prop:=PySem.W.nsIn K mainGlobals n=some (some (.ref f))∧FX K n n st f
def FE (g n:Str) (st:Stmt) (f:Addr):Prop:=PySem.W.nsIn K mainGlobals g=some (some (.ref f))∧FX K n n st f
def FM (n q:Str) (st:Stmt) (f:Addr):Prop:=PySem.W.isFn K (.ref f)=true∧FX K n q st f
def Fi (C:Addr) (n:Str) (f:Addr):Prop:=PySem.W.findIn K (.ref C) n=some (some (.ref f))
def Ki (C D:Addr) (b:Bool):Prop:=PySem.W.kitOne K (.ref C) (.ref D)=some b
def Gc (n:Str) (C:Addr):Prop:=PySem.W.nsIn K mainGlobals n=some (some (.ref C))
def Gs (n y:Str) (t:Tok):Prop:=PySem.W.nsIn K mainGlobals n=some (some (.str y t))
def Zn (n:Str):Prop:=PySem.W.nsIn K mainGlobals n=some none
structure ClR (C:Addr) (x:Str):Prop where
 cls:Cls K C
 mks:PySem.W.makesIn K C=true
 kc:PySem.W.keepIn K (.ref C)=true
 na:PySem.W.findIn K (.ref C) x=some none
structure IR (C:Addr):Prop where
 ia:PySem.W.findIn K (.ref C) "__class__"=some (some (.builtin "object.__class__"))
 im:PySem.W.mroIn K C (.type "object")=some true
variable {K} {n q:Str} {st:Stmt} {f:Addr}
theorem FX.mk {oc od kV dc pm an cd ct sl} (l:K.lookup f=some ⟨oc,od,.func (PySem.W.fnOf n q (defArgs st) (defBody st) (defScope st) .none kV dc pm an cd ct),sl⟩) (c:PySem.W.codeIn K cd q=true) (k:PySem.W.keepIn K (.ref f)=true):FX K n q st f:=⟨_,_,_,_,_,_,_,_,_,l,c,k⟩
theorem FX.get (r:FX K n q st f) (ps:List Str) (h:BZ n q st ps):∃ fd,Fun K n q st f fd∧Binds K fd ps []:=
 let ⟨_,_,_,_,_,_,_,_,_,l,c,k⟩:=r; ⟨_,m8 l c k,(m8 l c k).binds fun a b c d e f us z=>h us z a b c d e f⟩
theorem FD.get (r:FD K n st f) {h:Heap} {mg:Str→Option Value} (X:K.In h) (G:h.Ns mainGlobals mg) (ps:List Str) (h:BZ n n st ps):∃ fd,mg n=some (.ref f)∧Fun K n n st f fd∧Binds K fd ps []:=
 let ⟨fd,F,b⟩:=r.2.get ps h; ⟨fd,PySem.W.mg_of X G r.1,F,b⟩
theorem FE.get {g:Str} (r:FE K g n st f) {h:Heap} {mg:Str→Option Value} (X:K.In h) (G:h.Ns mainGlobals mg) (ps:List Str) (h:BZ n n st ps):∃ fd,mg g=some (.ref f)∧Fun K n n st f fd∧Binds K fd ps []:=
 let ⟨fd,F,b⟩:=r.2.get ps h; ⟨fd,PySem.W.mg_of X G r.1,F,b⟩
theorem mkr (l:PySem.W.OpenLaw) (w:World) (base:Heap) {mg:Str→Option Value} {C:Addr} {k:Nat} {fd:FuncData} {ps:List Str} {S:DSp} (c:Cls K C) (a:Fi K C n f) (r:FM K n q st f) (F:Fun K n q st f fd) (b:Binds K fd ps []) (o:FnOk l.prog w K mg base CX0 k f fd ps (zp K S)):MOk l.prog w K mg base k C n S:=.mk c ⟨_,_,_,⟨a,r.1,F.kp⟩,b,o⟩
theorem QQ (l:PySem.W.OpenLaw) (w:World) (base:Heap) {mg:Str→Option Value} {C:Addr} {k:Nat} {fd:FuncData} {ps:List Str} {S:DSp} (c:Cls K C) (a:Fi K C n f) (r:FM K n q st f) (F:Fun K n q st f fd) (b:Binds K fd ps []) (o:FnOk l.prog w K mg base CX0 k f fd ps (y_ K S)):FMOk l.prog w K mg base k C n S:=.mk c ⟨_,_,_,⟨a,r.1,F.kp⟩,b,o⟩
theorem Sd (l:PySem.W.OpenLaw) (w:World) (base:Heap) {mg:Str→Option Value} {C:Addr} {k:Nat} {fd:FuncData} {ps:List Str} {fr:Fr} {S:zV} (c:Cls K C) (a:Fi K C n f) (r:FM K n q st f) (F:Fun K n q st f fd) (b:Binds K fd ps []) (o:FnOk l.prog w K mg base (CX1 l.prog w) k f fd ps (vW K fr S)):TMOkX l.prog w K mg base k C n fr S:=.mk c ⟨_,_,_,⟨a,r.1,F.kp⟩,b,o⟩
theorem FM.get (r:FM K n q st f) (ps:List Str) (h:BZ n q st ps):∃ fd,Fun K n q st f fd∧Binds K fd ps []:=r.2.get ps h
end
theorem all_mk {l:PySem.W.OpenLaw} {w:World} {K:PySem.W.Frag} {h:Heap} {mg:Str→Option Value} {fa:Addr} (X:K.In h) (G:h.Ns mainGlobals mg) (hfa:mg "law"=some (.ref fa))
 {Pl Pm Pn Ph Pi Pg C_Machine Pj Po Pp Pq f1 f2 f3 f4 f5 f6 f7 f8 f9 f10 f11 f12 f13 f14 f15 f16 f17 f18 f19 f20 f21 f22 f23 f24 f25 f26 f27 f28 f29 f30 f31 f32 f33 f34 f35 f36 f37 f38 f39 f40 f41 f42 f43 f44 f45 f46 f47 f48 f49 f50 f51 f52 f53 f54 f55 f56 f57 f58 f59 f60 f61 f62 f63 f64 f65 f66 f67:Addr}
 (OT:Gc K "Plain" Pl)
 (OU:Gc K "Below" Pm)
 (OV:Gc K "Balanced" Pn)
 (OW:Gc K "Growing" Ph)
 (OX:Gc K "Falling" Pi)
 (OG:Gc K "Pairs" Pg)
 (aC_Machine:Gc K "Machine" C_Machine)
 (OY:Gc K "TooLess" Pj)
 (OZ:Gc K "NoRatio" Po)
 (O0:Gc K "NoSpan" Pp)
 (O1:Gc K "NoTotal" Pq)
 (r1:FD K "_law_chosen" wj f1)
 (r2:FD K "_law_cell_at" xK f2)
 (r3:FD K "_law_bounds" wk f3)
 (r4:FD K "_law_row_by" wg f4)
 (r5:FD K "is_whole" vH f5)
 (r6:FD K "bounded" uY f6)
 (O2:Fi K Pl "__init__" f7)
 (r7:FM K "__init__" "Plain.__init__" yY f7)
 (O3:Fi K Pm "__init__" f8)
 (r8:FM K "__init__" "Below.__init__" y0 f8)
 (O4:Fi K Pn "__init__" f9)
 (r9:FM K "__init__" "Balanced.__init__" yt f9)
 (O5:Fi K Pg "__init__" f10)
 (r10:FM K "__init__" "Pairs.__init__" yZ f10)
 (r11:FD K "_law_way" uV f11)
 (r12:FD K "_law_totals" wd f12)
 (r13:FD K "_law_stripped" xg f13)
 (r14:FD K "has_mosts_above_noughts_alone" zF f14)
 (O6:Fi K Pl "low" f15)
 (O7:Fi K Pm "low" f15)
 (O8:Fi K Ph "low" f15)
 (O9:Fi K Pi "low" f15)
 (O_:Fi K Pg "low" f15)
 (r15:FM K "low" "Way.low" u_ f15)
 (Na:Fi K Pn "low" f16)
 (r16:FM K "low" "Balanced.low" xn f16)
 (Nb:Fi K Pl "high" f17)
 (r17:FM K "high" "Plain.high" wn f17)
 (Nc:Fi K Pm "high" f18)
 (r18:FM K "high" "Below.high" wq f18)
 (Nd:Fi K Pn "high" f19)
 (r19:FM K "high" "Balanced.high" yT f19)
 (Nf:Fi K Ph "high" f20)
 (r20:FM K "high" "Growing.high" xl f20)
 (Ng:Fi K Pi "high" f21)
 (r21:FM K "high" "Falling.high" xm f21)
 (Nh:Fi K Pg "high" f22)
 (r22:FM K "high" "Pairs.high" wo f22)
 (r23:FD K "has_figures_alone" yl f23)
 (r24:FD K "is_writing" wl f24)
 (r25:FD K "held_to_be_writings" z8 f25)
 (r26:FD K "trimmed" uT f26)
 (r27:FD K "as_pair" uZ f27)
 (r28:FD K "added" pT f28)
 (r29:FD K "thing_at" vC f29)
 (Ni:Fi K Pl "nought" f30)
 (Nj:Fi K Pm "nought" f30)
 (Nk:Fi K Pn "nought" f30)
 (Nl:Fi K Ph "nought" f30)
 (Nn:Fi K Pi "nought" f30)
 (r30:FM K "nought" "Way.nought" wm f30)
 (No:Fi K Pg "nought" f31)
 (r31:FM K "nought" "Pairs.nought" xh f31)
 (Np:Fi K Pl "has" f32)
 (Nq:Fi K Ph "has" f32)
 (Nr:Fi K Pi "has" f32)
 (r32:FM K "has" "Way.has" tj f32)
 (Nt:Fi K Pm "has" f33)
 (r33:FM K "has" "Below.has" wL f33)
 (Nu:Fi K Pn "has" f34)
 (r34:FM K "has" "Balanced.has" xo f34)
 (r35:FD K "is_pair" uW f35)
 (Nv:Fi K Pg "has" f36)
 (r36:FM K "has" "Pairs.has" wK f36)
 (Nw:Fi K Pl "ratio" f37)
 (r37:FM K "ratio" "Plain.ratio" xL f37)
 (Ny:Fi K Pm "ratio" f38)
 (r38:FM K "ratio" "Below.ratio" xO f38)
 (Nz:Fi K Pn "ratio" f39)
 (r39:FM K "ratio" "Balanced.ratio" yJ f39)
 (NA:Fi K Ph "ratio" f40)
 (r40:FM K "ratio" "Growing.ratio" yS f40)
 (NB:Fi K Pg "ratio" f41)
 (r41:FM K "ratio" "Pairs.ratio" xN f41)
 (NC:Fi K Pl "split" f42)
 (ND:Fi K Pm "split" f42)
 (NE:Fi K Pn "split" f42)
 (NF:Fi K Ph "split" f42)
 (r42:FM K "split" "Way.split" wJ f42)
 (r43:FD K "multiplied" wc f43)
 (NG:Fi K Pg "split" f44)
 (r44:FM K "split" "Pairs.split" xM f44)
 (r45:FD K "figures_and_carries" z9 f45)
 (r46:FD K "settled" uU f46)
 (r47:FD K "written_row" xJ f47)
 (r48:FD K "row_plus" wb f48)
 (r49:FD K "plus" mC f49)
 (r50:FD K "_law_times" wI f50)
 (r51:FD K "_law_worth" wH f51)
 (a52_Machine:Fi K C_Machine "rows" f52)
 (r52:FM K "rows" "Machine.rows" xi f52)
 (r53:FD K "_law_path" vG f53)
 (r54:FD K "carries" uX f54)
 (r55:FD K "held_to_have_one_ratio" zU f55)
 (r56:FD K "farthest_total" yI f56)
 (r57:FD K "held_to_be_a_span" yk f57)
 (r58:FD K "carries_and_rows" yu f58)
 (r59:FD K "leads_of" vE f59)
 (a60_Machine:Fi K C_Machine "__init__" f60)
 (r60:FM K "__init__" "Machine.__init__" xk f60)
 (a61_Machine:Fi K C_Machine "read" f61)
 (r61:FM K "read" "Machine.read" xj f61)
 (r62:FD K "_law_sums" vF f62)
 (r63:FD K "row_times" xE f63)
 (r64:FD K "minus" pS f64)
 (r65:FD K "_law_difference" yH f65)
 (r66:FD K "_law_differences" yB f66)
 (r67:FD K "law" ro f67)
 (Px:ClR K Pl "base")
 (Py:ClR K Pm "base")
 (Pz:ClR K Pn "half")
 (Od:ClR K Ph "first")
 (Oe:ClR K Pi "most")
 (PD:ClR K Pg "most")
 (c_Machine:ClR K C_Machine "found")
 (nb_Machine_made:PySem.W.findIn K (.ref C_Machine) "made"=some none)
 (nb_Machine_leads:PySem.W.findIn K (.ref C_Machine) "leads"=some none)
 (OH:IR K Pl)
 (PQ:Ki K Pl Pg false)
 (PR:Ki K Pl Ph false)
 (PH:Ki K Pl Pi false)
 (OI:IR K Pm)
 (PU:Ki K Pm Pg false)
 (PV:Ki K Pm Ph false)
 (PJ:Ki K Pm Pi false)
 (OJ:IR K Pn)
 (PX:Ki K Pn Pg false)
 (PY:Ki K Pn Ph false)
 (PK:Ki K Pn Pi false)
 (OK:IR K Ph)
 (PZ:Ki K Ph Pg false)
 (P0:Ki K Ph Ph true)
 (PL:Ki K Ph Pi false)
 (OL:IR K Pi)
 (P3:Ki K Pi Pg false)
 (P4:Ki K Pi Ph false)
 (PM:Ki K Pi Pi true)
 (OM:IR K Pg)
 (P5:Ki K Pg Pg true)
 (P6:Ki K Pg Ph false)
 (PN:Ki K Pg Pi false)
 (in_:PySem.W.specialIn K (.builtin "object.__class__") "__get__"=some (some (.builtin "getset_descriptor.__get__")))
 (it_:PySem.W.takesIn K (.builtin "object.__class__")=some true)
 (P7:ExcK K Pj)
 (Og:se K Pj)
 (P8:PySem.W.exmOne K (.ref Pj) (.ref Pj)=some true)
 (Oh:Ki K Pj Pj true)
 (Oi:Ki K Pj Po false)
 (Oj:Ki K Pj Pp false)
 (Ol:Ki K Pj Pq false)
 (P9:ExcK K Po)
 (Om:se K Po)
 (On:PySem.W.exmOne K (.ref Po) (.ref Pj)=some false)
 (Oo:Ki K Po Pj false)
 (Op:Ki K Po Po true)
 (Oq:Ki K Po Pp false)
 (Os:Ki K Po Pq false)
 (Oa:ExcK K Pp)
 (Ot:se K Pp)
 (Ou:PySem.W.exmOne K (.ref Pp) (.ref Pj)=some false)
 (Ov:Ki K Pp Pj false)
 (Ow:Ki K Pp Po false)
 (Ox:Ki K Pp Pp true)
 (Oy:Ki K Pp Pq false)
 (Ob:ExcK K Pq)
 (Oz:se K Pq)
 (OA:PySem.W.exmOne K (.ref Pq) (.ref Pj)=some false)
 (OB:Ki K Pq Pj false)
 (OC:Ki K Pq Po false)
 (OE:Ki K Pq Pp false)
 (OF:Ki K Pq Pq true)
 (z_isinstance:Zn K "isinstance")
 (z_int:Zn K "int")
 (z_bool:Zn K "bool")
 (z_tuple:Zn K "tuple")
 (z_list:Zn K "list")
 (z_len:Zn K "len")
 (z_range:Zn K "range")
 (z_enumerate:Zn K "enumerate")
 (z_min:Zn K "min")
 (z_max:Zn K "max"):
 ∃ fd:FuncData,(∀ (s:Shared) (v:Value),BindsTo s fd ⟨[v],[]⟩ [("_law_script",v)])∧∀ base:Heap,K.In base→base.Ns mainGlobals mg→FnOk l.prog w K mg base CX0 11 fa fd ["_law_script"] (zp K (kG)):=by
 have mn {n:Str} (z:Zn K n):=PySem.W.mg_none_of X G z
 have mo {n:Str} {C:Addr} (z:Gc K n C):=PySem.W.mg_of X G z
 let A:Adr:=⟨Pl,Pm,Pn,Ph,Pi,Pg,C_Machine,Pj,Po,Pp,Pq⟩
 have T:Txt K mg A:=⟨QF K,mn z_isinstance,mn z_int,mn z_bool,mn z_tuple,mn z_list,mn z_len,mn z_range,mn z_enumerate,mn z_min,mn z_max,Px.cls,Px.na,Py.cls,Py.na,Pz.cls,Pz.na,Od.cls,Od.na,Oe.cls,Oe.na,PD.cls,PD.na,c_Machine.cls,c_Machine.na,nb_Machine_made,nb_Machine_leads,mo OG,mo OW,mo OX,⟨Px.cls,OH.1,in_,it_,OH.2⟩,PQ,PR,PH,⟨Py.cls,OI.1,in_,it_,OI.2⟩,PU,PV,PJ,⟨Pz.cls,OJ.1,in_,it_,OJ.2⟩,PX,PY,PK,⟨Od.cls,OK.1,in_,it_,OK.2⟩,PZ,P0,PL,⟨Oe.cls,OL.1,in_,it_,OL.2⟩,P3,P4,PM,⟨PD.cls,OM.1,in_,it_,OM.2⟩,P5,P6,PN,mo OY,mo OZ,mo O0,mo O1,P7,Og,P8,Oh,Oi,Oj,Ol,P9,Om,On,Oo,Op,Oq,Os,Oa,Ot,Ou,Ov,Ow,Ox,Oy,Ob,Oz,OA,OB,OC,OE,OF⟩
 obtain ⟨_,m1,F1,b1⟩:=r1.get X G ["_law_cell"] (bz1 rfl fun _ _ _ _ _ _ _=>rfl)
 obtain ⟨_,m2,F2,b2⟩:=r2.get X G ["_law_script","_law_k"] (bz2 rfl fun _ _ _ _ _ _ _ _=>rfl)
 obtain ⟨_,m3,F3,b3⟩:=r3.get X G ["_law_name","_law_number"] (bz2 rfl fun _ _ _ _ _ _ _ _=>rfl)
 obtain ⟨_,m4,F4,b4⟩:=r4.get X G ["_law_bounds_here","_law_cells"] (bz2 rfl fun _ _ _ _ _ _ _ _=>rfl)
 obtain ⟨_,m5,F5,b5⟩:=r5.get X G ["value"] (bz1 rfl fun _ _ _ _ _ _ _=>rfl)
 obtain ⟨_,m6,F6,b6⟩:=r6.get X G ["number","least","most"] (bz3 rfl fun _ _ _ _ _ _ _ _ _=>rfl)
 obtain ⟨_,F7,b7⟩:=r7.get ["self","base"] (bz2 rfl fun _ _ _ _ _ _ _ _=>rfl)
 obtain ⟨_,F8,b8⟩:=r8.get ["self","base"] (bz2 rfl fun _ _ _ _ _ _ _ _=>rfl)
 obtain ⟨_,F9,b9⟩:=r9.get ["self","half"] (bz2 rfl fun _ _ _ _ _ _ _ _=>rfl)
 obtain ⟨_,F10,b10⟩:=r10.get ["self","most"] (bz2 rfl fun _ _ _ _ _ _ _ _=>rfl)
 obtain ⟨_,m11,F11,b11⟩:=r11.get X G ["_law_name","_law_number"] (bz2 rfl fun _ _ _ _ _ _ _ _=>rfl)
 obtain ⟨_,m12,F12,b12⟩:=r12.get X G ["_law_one","_law_other","_law_sign"] (bz3 rfl fun _ _ _ _ _ _ _ _ _=>rfl)
 obtain ⟨_,m13,F13,b13⟩:=r13.get X G ["_law_figures"] (bz1 rfl fun _ _ _ _ _ _ _=>rfl)
 obtain ⟨_,m14,F14,b14⟩:=r14.get X G ["way","row"] (bz2 rfl fun _ _ _ _ _ _ _ _=>rfl)
 obtain ⟨_,F15,b15⟩:=r15.get ["self","place"] (bz2 rfl fun _ _ _ _ _ _ _ _=>rfl)
 obtain ⟨_,F16,b16⟩:=r16.get ["self","place"] (bz2 rfl fun _ _ _ _ _ _ _ _=>rfl)
 obtain ⟨_,F17,b17⟩:=r17.get ["self","place"] (bz2 rfl fun _ _ _ _ _ _ _ _=>rfl)
 obtain ⟨_,F18,b18⟩:=r18.get ["self","place"] (bz2 rfl fun _ _ _ _ _ _ _ _=>rfl)
 obtain ⟨_,F19,b19⟩:=r19.get ["self","place"] (bz2 rfl fun _ _ _ _ _ _ _ _=>rfl)
 obtain ⟨_,F20,b20⟩:=r20.get ["self","place"] (bz2 rfl fun _ _ _ _ _ _ _ _=>rfl)
 obtain ⟨_,F21,b21⟩:=r21.get ["self","place"] (bz2 rfl fun _ _ _ _ _ _ _ _=>rfl)
 obtain ⟨_,F22,b22⟩:=r22.get ["self","place"] (bz2 rfl fun _ _ _ _ _ _ _ _=>rfl)
 obtain ⟨_,m23,F23,b23⟩:=r23.get X G ["way","row"] (bz2 rfl fun _ _ _ _ _ _ _ _=>rfl)
 obtain ⟨_,m24,F24,b24⟩:=r24.get X G ["way","row"] (bz2 rfl fun _ _ _ _ _ _ _ _=>rfl)
 obtain ⟨_,m25,F25,b25⟩:=r25.get X G ["way","rows"] (bz2 rfl fun _ _ _ _ _ _ _ _=>rfl)
 obtain ⟨_,m26,F26,b26⟩:=r26.get X G ["row"] (bz1 rfl fun _ _ _ _ _ _ _=>rfl)
 obtain ⟨_,m27,F27,b27⟩:=r27.get X G ["number"] (bz1 rfl fun _ _ _ _ _ _ _=>rfl)
 obtain ⟨_,m28,F28,b28⟩:=r28.get X G ["one","other"] (bz2 rfl fun _ _ _ _ _ _ _ _=>rfl)
 obtain ⟨_,m29,F29,b29⟩:=r29.get X G ["row","place"] (bz2 rfl fun _ _ _ _ _ _ _ _=>rfl)
 obtain ⟨_,F30,b30⟩:=r30.get ["self"] (bz1 rfl fun _ _ _ _ _ _ _=>rfl)
 obtain ⟨_,F31,b31⟩:=r31.get ["self"] (bz1 rfl fun _ _ _ _ _ _ _=>rfl)
 obtain ⟨_,F32,b32⟩:=r32.get ["self","number"] (bz2 rfl fun _ _ _ _ _ _ _ _=>rfl)
 obtain ⟨_,F33,b33⟩:=r33.get ["self","number"] (bz2 rfl fun _ _ _ _ _ _ _ _=>rfl)
 obtain ⟨_,F34,b34⟩:=r34.get ["self","number"] (bz2 rfl fun _ _ _ _ _ _ _ _=>rfl)
 obtain ⟨_,m35,F35,b35⟩:=r35.get X G ["value"] (bz1 rfl fun _ _ _ _ _ _ _=>rfl)
 obtain ⟨_,F36,b36⟩:=r36.get ["self","number"] (bz2 rfl fun _ _ _ _ _ _ _ _=>rfl)
 obtain ⟨_,F37,b37⟩:=r37.get ["self","place"] (bz2 rfl fun _ _ _ _ _ _ _ _=>rfl)
 obtain ⟨_,F38,b38⟩:=r38.get ["self","place"] (bz2 rfl fun _ _ _ _ _ _ _ _=>rfl)
 obtain ⟨_,F39,b39⟩:=r39.get ["self","place"] (bz2 rfl fun _ _ _ _ _ _ _ _=>rfl)
 obtain ⟨_,F40,b40⟩:=r40.get ["self","place"] (bz2 rfl fun _ _ _ _ _ _ _ _=>rfl)
 obtain ⟨_,F41,b41⟩:=r41.get ["self","place"] (bz2 rfl fun _ _ _ _ _ _ _ _=>rfl)
 obtain ⟨_,F42,b42⟩:=r42.get ["self","total","place"] (bz3 rfl fun _ _ _ _ _ _ _ _ _=>rfl)
 obtain ⟨_,m43,F43,b43⟩:=r43.get X G ["one","other"] (bz2 rfl fun _ _ _ _ _ _ _ _=>rfl)
 obtain ⟨_,F44,b44⟩:=r44.get ["self","total","place"] (bz3 rfl fun _ _ _ _ _ _ _ _ _=>rfl)
 obtain ⟨_,m45,F45,b45⟩:=r45.get X G ["way","totals"] (bz2 rfl fun _ _ _ _ _ _ _ _=>rfl)
 obtain ⟨_,m46,F46,b46⟩:=r46.get X G ["way","totals"] (bz2 rfl fun _ _ _ _ _ _ _ _=>rfl)
 obtain ⟨_,m47,F47,b47⟩:=r47.get X G ["way","row"] (bz2 rfl fun _ _ _ _ _ _ _ _=>rfl)
 obtain ⟨_,m48,F48,b48⟩:=r48.get X G ["one","other"] (bz2 rfl fun _ _ _ _ _ _ _ _=>rfl)
 obtain ⟨_,m49,F49,b49⟩:=r49.get X G ["way","one","other"] (bz3 rfl fun _ _ _ _ _ _ _ _ _=>rfl)
 obtain ⟨_,m50,F50,b50⟩:=r50.get X G ["_law_name","_law_number","_law_carry"] (bz3 rfl fun _ _ _ _ _ _ _ _ _=>rfl)
 obtain ⟨_,m51,F51,b51⟩:=r51.get X G ["_law_name","_law_number","_law_row"] (bz3 rfl fun _ _ _ _ _ _ _ _ _=>rfl)
 obtain ⟨_,F52,b52⟩:=r52.get ["self"] (bz1 rfl fun _ _ _ _ _ _ _=>rfl)
 obtain ⟨_,m53,F53,b53⟩:=r53.get X G ["_law_machine","_law_totals_here","_law_first"] (bz3 rfl fun _ _ _ _ _ _ _ _ _=>rfl)
 obtain ⟨_,m54,F54,b54⟩:=r54.get X G ["way","totals"] (bz2 rfl fun _ _ _ _ _ _ _ _=>rfl)
 obtain ⟨_,m55,F55,b55⟩:=r55.get X G ["way"] (bz1 rfl fun _ _ _ _ _ _ _=>rfl)
 obtain ⟨_,m56,F56,b56⟩:=r56.get X G ["way"] (bz1 rfl fun _ _ _ _ _ _ _=>rfl)
 obtain ⟨_,m57,F57,b57⟩:=r57.get X G ["way","low","high"] (bz3 rfl fun _ _ _ _ _ _ _ _ _=>rfl)
 obtain ⟨_,m58,F58,b58⟩:=r58.get X G ["way","low","high"] (bz3 rfl fun _ _ _ _ _ _ _ _ _=>rfl)
 obtain ⟨_,m59,F59,b59⟩:=r59.get X G ["rows"] (bz1 rfl fun _ _ _ _ _ _ _=>rfl)
 obtain ⟨_,F60,b60⟩:=r60.get ["self","way","low","high"] (bz4 rfl fun _ _ _ _ _ _ _ _ _ _=>rfl)
 obtain ⟨_,F61,b61⟩:=r61.get ["self","totals"] (bz2 rfl fun _ _ _ _ _ _ _ _=>rfl)
 obtain ⟨_,m62,F62,b62⟩:=r62.get X G ["_law_name","_law_number","_law_way_here","_law_one","_law_other","_law_first"] (bz6 rfl fun _ _ _ _ _ _ _ _ _ _ _ _=>rfl)
 obtain ⟨_,m63,F63,b63⟩:=r63.get X G ["row","factor"] (bz2 rfl fun _ _ _ _ _ _ _ _=>rfl)
 obtain ⟨_,m64,F64,b64⟩:=r64.get X G ["way","one","other"] (bz3 rfl fun _ _ _ _ _ _ _ _ _=>rfl)
 obtain ⟨_,m65,F65,b65⟩:=r65.get X G ["_law_way_here","_law_one","_law_other"] (bz3 rfl fun _ _ _ _ _ _ _ _ _=>rfl)
 obtain ⟨_,m66,F66,b66⟩:=r66.get X G ["_law_name","_law_number","_law_way_here","_law_one","_law_other","_law_first"] (bz6 rfl fun _ _ _ _ _ _ _ _ _ _ _ _=>rfl)
 obtain ⟨a67,_,_,kV,dc,pm,an,cd,ct,_,l67,c67,k67⟩:=r67
 cases hfa.symm.trans (PySem.W.mg_of X G a67)
 have F67:=m8 (st:=ro) l67 c67 k67
 refine ⟨PySem.W.fnOf "law" "law" (defArgs ro) (defBody ro) (defScope ro) .none kV dc pm an cd ct,fun s v=>.of_eq rfl,fun base _ _=>?_⟩
 have G__law_chosen:=DOk.mk' F1 m1 b1 (qH (P:=l.prog) (w:=w) (base:=base) T F1)
 have G__law_cell_at:=DOk.mk' F2 m2 b2 (rC (P:=l.prog) (w:=w) (base:=base) T F2)
 have G__law_bounds:=DOk.mk' F3 m3 b3 (qI (P:=l.prog) (w:=w) (base:=base) T F3)
 have G__law_row_by:=DOk.mk' F4 m4 b4 (qG (P:=l.prog) (w:=w) (base:=base) T F4)
 have G_is_whole:=DOk.mk' F5 m5 b5 (nq (P:=l.prog) (w:=w) (base:=base) T F5)
 have G_bounded:=DOk.mk' F6 m6 b6 (mK T G_is_whole F6)
 have OP:KOk l.prog w K mg base 3 "Plain" A.Plain "base" (Kd.ok .plain):=⟨_,_,_,mo OT,⟨Px.mks,O2,r7.1,Px.kc⟩,b7,qK T G_bounded F7⟩
 have OQ:KOk l.prog w K mg base 3 "Below" A.Below "base" (Kd.ok .below):=⟨_,_,_,mo OU,⟨Py.mks,O3,r8.1,Py.kc⟩,b8,qO T G_bounded F8⟩
 have OR:KOk l.prog w K mg base 3 "Balanced" A.Balanced "half" (Kd.ok .balanced):=⟨_,_,_,mo OV,⟨Pz.mks,O4,r9.1,Pz.kc⟩,b9,tx T G_bounded F9⟩
 have OS:KOk l.prog w K mg base 3 "Pairs" A.Pairs "most" (Kd.ok .pairs):=⟨_,_,_,mo OG,⟨PD.mks,O5,r10.1,PD.kc⟩,b10,qM T G_bounded F10⟩
 have G__law_way:=DOk.mk' F11 m11 b11 (mH T OP OQ OR OS F11)
 have G__law_totals:=DOk.mk' F12 m12 b12 (qF (P:=l.prog) (w:=w) (base:=base) T F12)
 have G__law_stripped:=FOk.mk' F13 m13 b13 (sw (P:=l.prog) (w:=w) (base:=base) T F13)
 have G_has_mosts_above_noughts_alone:=DOk.mk' F14 m14 b14 (yC (P:=l.prog) (w:=w) (base:=base) T F14)
 have NW:=mkr l w base T.Pt O6 r15 F15 b15 (xr T F15)
 have NX:=mkr l w base T.Pu O7 r15 F15 b15 (xr T F15)
 have NY:=mkr l w base T.Pw O8 r15 F15 b15 (xr T F15)
 have NZ:=mkr l w base T.PF O9 r15 F15 b15 (xr T F15)
 have N1:=mkr l w base T.Pk O_ r15 F15 b15 (xr T F15)
 have N2:=mkr l w base T.Pr Na r16 F16 b16 (sG T F16)
 have N3:=mkr l w base T.Pt Nb r17 F17 b17 (qL T F17)
 have N4:=mkr l w base T.Pu Nc r18 F18 b18 (qP T F18)
 have N5:=mkr l w base T.Pr Nd r19 F19 b19 (tz T F19)
 have N6:=mkr l w base T.Pw Nf r20 F20 b20 (sD T F20)
 have N7:=mkr l w base T.PF Ng r21 F21 b21 (sE T F21)
 have N8:=mkr l w base T.Pk Nh r22 F22 b22 (qN T F22)
 have HLo:∀ k:Kd,MOk l.prog w K mg base 1 (A.at k) "low" (x_ A k (k.low))∧MOk l.prog w K mg base 1 (A.at k) "high" (x_ A k (k.high)):=fun k=>match k with
  | .plain=>⟨NW.imp fun ds Q ⟨n,p,e,_,q⟩=>⟨_,_,e,q⟩,N3⟩
  | .below=>⟨NX.imp fun ds Q ⟨n,p,e,_,q⟩=>⟨_,_,e,q⟩,N4⟩
  | .balanced=>⟨N2,N5⟩
  | .growing=>⟨NY.imp fun ds Q ⟨n,p,e,_,q⟩=>⟨_,_,e,q⟩,N6⟩
  | .falling=>⟨NZ.imp fun ds Q ⟨n,p,e,_,q⟩=>⟨_,_,e,q⟩,N7⟩
  | .pairs=>⟨N1.imp fun ds Q ⟨n,p,e,_,q⟩=>⟨_,_,e,q⟩,N8⟩
 have G_has_figures_alone:=DOk.mk' F23 m23 b23 (wQ (P:=l.prog) (w:=w) (base:=base) T HLo F23)
 have G_is_writing:=DOk.mk' F24 m24 b24 (qJ T G_has_mosts_above_noughts_alone G_has_figures_alone F24)
 have G_held_to_be_writings:=DOk.mk' F25 m25 b25 (wr T G_is_writing F25)
 have G_trimmed:=FOk.mk' F26 m26 b26 (mF (P:=l.prog) (w:=w) (base:=base) T F26)
 have G_as_pair:=DOk.mk' F27 m27 b27 (mL T G_is_whole F27)
 have G_added:=DOk.mk' F28 m28 b28 (i5 T G_is_whole G_as_pair F28)
 have G_thing_at:=DOk.mk' F29 m29 b29 (nh (P:=l.prog) (w:=w) (base:=base) T F29)
 have N9:=mkr l w base T.Pt Ni r30 F30 b30 (yq T F30)
 have Ma:=mkr l w base T.Pu Nj r30 F30 b30 (yq T F30)
 have Mb:=mkr l w base T.Pr Nk r30 F30 b30 (yq T F30)
 have Mc:=mkr l w base T.Pw Nl r30 F30 b30 (yq T F30)
 have Md:=mkr l w base T.PF Nn r30 F30 b30 (yq T F30)
 have Me:=mkr l w base T.Pk No r31 F31 b31 (sx T F31)
 have HNo:∀ k:Kd,MOk l.prog w K mg base 1 (A.at k) "nought" (T_ k):=fun k=>match k with
  | .plain=>N9 | .below=>Ma | .balanced=>Mb | .growing=>Mc | .falling=>Md | .pairs=>Me
 have Mf:=mkr l w base T.Pt Np r32 F32 b32 (vL T G_is_whole F32)
 have Mg:=mkr l w base T.Pw Nq r32 F32 b32 (vL T G_is_whole F32)
 have Mh:=mkr l w base T.PF Nr r32 F32 b32 (vL T G_is_whole F32)
 have Mi:=mkr l w base T.Pu Nt r33 F33 b33 (oh T G_is_whole F33)
 have Mj:=mkr l w base T.Pr Nu r34 F34 b34 (sH T G_is_whole F34)
 have G_is_pair:=DOk.mk' F35 m35 b35 (mI T G_is_whole F35)
 have Ml:=mkr l w base T.Pk Nv r36 F36 b36 (og T G_is_pair F36)
 have HHas:∀ k:Kd,MOk l.prog w K mg base 3 (A.at k) "has" (tS k):=fun k=>match k with
  | .plain=>Mf.mono (by decide)
  | .below=>Mi.mono (by decide)
  | .balanced=>Mj.mono (by decide)
  | .growing=>(Mg.imp fun ds Q ⟨o,d,m,e,a,q⟩=>⟨o,d,m,e,a,by cases m <;> exact q⟩).mono (by decide)
  | .falling=>(Mh.imp fun ds Q ⟨o,d,m,e,a,q⟩=>⟨o,d,m,e,a,by cases m <;> exact q⟩).mono (by decide)
  | .pairs=>Ml.mono (by decide)
 have Mm:=mkr l w base T.Pt Nw r37 F37 b37 (rD T F37)
 have Mn:=mkr l w base T.Pu Ny r38 F38 b38 (rG T F38)
 have Mo:=mkr l w base T.Pr Nz r39 F39 b39 (uq T F39)
 have Mp:=mkr l w base T.Pw NA r40 F40 b40 (tw T F40)
 have Mq:=mkr l w base T.Pk NB r41 F41 b41 (rF T F41)
 have HR:∀ k:Kd,k.five=true→MOk l.prog w K mg base 1 (A.at k) "ratio" (vZ A k (k.ratN)):=fun k hk=>match k,hk with
  | .plain,_=>Mm
  | .below,_=>Mn
  | .balanced,_=>Mo
  | .growing,_=>Mp
  | .pairs,_=>Mq
 have Mr:=mkr l w base T.Pt NC r42 F42 b42 (y4 T HLo HR F42)
 have Ms:=mkr l w base T.Pu ND r42 F42 b42 (y4 T HLo HR F42)
 have Mt:=mkr l w base T.Pr NE r42 F42 b42 (y4 T HLo HR F42)
 have Mu:=mkr l w base T.Pw NF r42 F42 b42 (y4 T HLo HR F42)
 have G_multiplied:=DOk.mk' F43 m43 b43 (qE T G_is_whole G_as_pair F43)
 have Mv:=mkr l w base T.Pk NG r44 F44 b44 (rE T G_as_pair G_multiplied F44)
 have HSp:∀ k:Kd,k.five=true→MOk l.prog w K mg base 4 (A.at k) "split" (oQ A k):=fun k hk=>match k,hk with
  | .plain,_=>(Mr.imp fun ds Q ⟨n,m,j,e,⟨a,em⟩,h1,h2,q⟩=>⟨.plain,n,a,j,by rw [e,em]; rfl,rfl,h1,h2,by rw [em] at q; exact q⟩).mono (by decide)
  | .below,_=>(Ms.imp fun ds Q ⟨n,m,j,e,⟨a,em⟩,h1,h2,q⟩=>⟨.below,n,a,j,by rw [e,em]; rfl,rfl,h1,h2,by rw [em] at q; exact q⟩).mono (by decide)
  | .balanced,_=>(Mt.imp fun ds Q ⟨n,m,j,e,⟨a,em⟩,h1,h2,q⟩=>⟨.balanced,n,a,j,by rw [e,em]; rfl,rfl,h1,h2,by rw [em] at q; exact q⟩).mono (by decide)
  | .growing,_=>(Mu.imp fun ds Q ⟨n,m,j,e,⟨a,em⟩,h1,h2,q⟩=>⟨.growing,n,a,j,by rw [e,em]; rfl,rfl,h1,h2,by rw [em] at q; exact q⟩).mono (by decide)
  | .pairs,_=>(Mv.imp fun ds Q ⟨n,m,j,e,_,h1,h2,q⟩=>⟨n,_,m,j,e,yE m,h1,q⟩).mono (by decide)
 have G_figures_and_carries:=TOkX.mk' F45 m45 b45 (wu T G_added G_thing_at HNo HHas HSp F45)
 have G_settled:=FOkX.mk' F46 m46 b46 (mG T G_trimmed G_figures_and_carries F46)
 have G_written_row:=FOkX.mk' F47 m47 b47 (rB T G_settled F47)
 have G_row_plus:=DOk.mk' F48 m48 b48 (ni T G_added G_thing_at F48)
 have G_plus:=FOk.mk' F49 m49 b49 (bF T G_held_to_be_writings G_written_row G_row_plus F49)
 have G__law_times:=DOk.mk' F50 m50 b50 (oe (P:=l.prog) (w:=w) (base:=base) T F50)
 have G__law_worth:=DOk.mk' F51 m51 b51 (p9 T G__law_times F51)
 have N_Machine_rows:=QQ l w base T.cl_Machine a52_Machine r52 F52 b52 (sy T F52)
 have HMr:=N_Machine_rows
 have G__law_path:=DOk.mk' F53 m53 b53 (nn (P:=l.prog) (w:=w) (base:=base) T HMr F53)
 have G_carries:=FOkX.mk' F54 m54 b54 (mJ T G_figures_and_carries F54)
 have G_held_to_have_one_ratio:=DOkX.mk' F55 m55 b55 (xD (P:=l.prog) (w:=w) (base:=base) T F55)
 have G_farthest_total:=DOk.mk' F56 m56 b56 (uo (P:=l.prog) (w:=w) (base:=base) T F56)
 have G_held_to_be_a_span:=DOkX.mk' F57 m57 b57 (wP T G_farthest_total F57)
 have G_carries_and_rows:=TOk.mk' F58 m58 b58 (vw T G_added HNo HSp F58)
 have G_leads_of:=DOk.mk' F59 m59 b59 (nj (P:=l.prog) (w:=w) (base:=base) T F59)
 have M_Machine:XH l.prog w K mg base 6 "Machine" A.Machine "found" "made" "leads" (oT l.prog w K A):=⟨_,_,_,mo aC_Machine,⟨c_Machine.mks,a60_Machine,r60.1,c_Machine.kc⟩,b60,sB T G_held_to_have_one_ratio G_held_to_be_a_span G_carries_and_rows G_leads_of F60⟩
 have N_Machine_read:=Sd l w base T.cl_Machine a61_Machine r61 F61 b61 (sA T F61)
 have HMd:=N_Machine_read
 have G__law_sums:=DOk.mk' F62 m62 b62 (nk T G__law_bounds G__law_totals G__law_stripped G_plus G_settled G__law_worth G__law_path G_carries M_Machine HMd HMr F62)
 have G_row_times:=DOk.mk' F63 m63 b63 (p8 T G_multiplied F63)
 have G_minus:=FOkX.mk' F64 m64 b64 (iZ T G_held_to_be_writings G_row_plus G_row_times G_written_row F64)
 have G__law_difference:=DOk.mk' F65 m65 b65 (um T G_minus F65)
 have G__law_differences:=DOk.mk' F66 m66 b66 (vK T G__law_bounds G__law_totals G__law_difference G__law_stripped M_Machine HMd F66)
 exact WW T G__law_chosen G__law_cell_at G__law_bounds G__law_row_by G__law_way G__law_sums G__law_differences F67
theorem walk {l:PySem.W.OpenLaw} {q:Program} {loose:List Str} {XP:(Str→Option Value)→Heap→Prop} {YP:World→Heap→Prop} {d:DefRec} {K:Params→PySem.W.Frag} (hn:l.most=some 63) (hdf:d.params.defaults=[])
  (hY:∀ (w:World) (h:Heap),YP w h→(K w.params).In h)
  (F:∀ (w:World) (mg:Str→Option Value) (fa:Addr) (h:Heap),(K w.params).In h→h.Ns mainGlobals mg→mg d.name=some (.ref fa)→
   ∃ fd:FuncData,(∀ (s:Shared) (u:Value),BindsTo s fd ⟨[u],[]⟩ [("_law_script",u)])∧∀ base:Heap,(K w.params).In base→base.Ns mainGlobals mg→FnOk l.prog w (K w.params) mg base CX0 11 fa fd ["_law_script"] (zp (K w.params) (kG))):
  PySem.W.WalkO q loose XP YP l.row.toRowW d [] (fun f vs=>PySem.call f vs):=
 L2.walk_of (n:=63) (k:=11) (x:="_law_script") (CX:=fun _=>CX0) (sp:=fun w=>zp (K w.params) (kG)) hn (by decide) hdf ⟨rfl,by decide,by decide⟩ hY F (fun w H a ns hl _ hS=>⟨⟨H,H,Same.refl H⟩,[.scr ns],fun d=>d=.bl true,rfl,allIs_cons.mpr ⟨_,_,rfl,is_scr.mpr ⟨a,rfl,hS⟩,allIs_nil.mpr rfl⟩,⟨ns,rfl,hl,rfl⟩,fun d v W' _ i e=>by subst e; exact is_bl.mp i⟩) fun _ _ _ _ _ z=>z
end My
local macro_rules | `(tactic| walk_at "fx") => `(tactic| (refine' My.FX.mk ?l ?c ?k; (case l => k_is); (case c => k_is); (case k => k_is)))
local macro_rules | `(tactic| walk_at "kk") => `(tactic| first | k_is | kit_is | kts_exm | (delta L2.ExcK; k_exc) | (delta My.Fi; k_is) | (delta My.Zn; k_is) | (delta My.Gs; k_is) | (delta My.Gc; k_is) | (delta My.Ki; kit_is) | (delta My.FD; refine ⟨?a, ?b⟩; (case a => k_is); (case b => walk_at "fx")) | (delta My.FE; refine ⟨?a, ?b⟩; (case a => k_is); (case b => walk_at "fx")) | (delta My.FM; refine ⟨?a, ?b⟩; (case a => k_is); (case b => walk_at "fx")) | (refine ⟨⟨?_, ?_, ?_, ?_⟩, ?_, ?_, ?_⟩ <;> k_is) | (refine ⟨?_, ?_, ?_, ?_, ?_, ?_, ?_⟩ <;> k_is) | (refine ⟨?_, ?_⟩ <;> k_is))
open PySem PySem.W PyProof.Rows
set_option maxRecDepth 100000 in
set_option maxHeartbeats 0 in
theorem PySem.Challenge.cw_oddbases_k64_whole_machine_is_settling_holds : PySem.Challenge.rw_oddbases_k64_whole_machine_is_settling.Holds := by
 w_on; o_law
 refine holds_open (q:=My.h_view_39) (loose:=[]) (Xt:=(fun s=>xlAt My.h_view_39 [] s && recOk (RowW.records (OpenRow.toRowW PySem.Challenge.rw_oddbases_k64_whole_machine_is_settling.row)) s)) (XP:=XL My.h_view_39 []) (Yf:=Hook.obs (kHook My.h_heap_39 My.myAs My.myE)) (Ya:=Hook.val (kHook My.h_heap_39 My.myAs My.myE)) (YP:=Hook.says (kHook My.h_heap_39 My.myAs My.myE)) (N:=12476) My.left (Hook.of _) (Hook.keeps _) (fun s e=>xl_of s (Bool.and_eq_true_iff.mp e).1) XL.keeps (by rfl) (by rfl) (by rfl) (fun s e=>recFacts_of (Bool.and_eq_true_iff.mp e).2) (by rfl) (by first | assumption | decide +kernel) (by decide +kernel) ⟨rfl,rfl,rfl,rfl,rfl,by decide +kernel⟩ ?hw ?hc
 case hw=>w_witness2
 k_fill
 refine My.walk (l:=PySem.Challenge.rw_oddbases_k64_whole_machine_is_settling) rfl rfl (fun w h Y=>PySem.W.kIn_of Y) ?F
 case F=>
  intro w mg fa h KX G hmg
  refine' My.all_mk KX G hmg ?OT ?OU ?OV ?OW ?OX ?OG ?aC_Machine ?OY ?OZ ?O0 ?O1 ?r1 ?r2 ?r3 ?r4 ?r5 ?r6 ?O2 ?r7 ?O3 ?r8 ?O4 ?r9 ?O5 ?r10 ?r11 ?r12 ?r13 ?r14 ?O6 ?O7 ?O8 ?O9 ?O_ ?r15 ?Na ?r16 ?Nb ?r17 ?Nc ?r18 ?Nd ?r19 ?Nf ?r20 ?Ng ?r21 ?Nh ?r22 ?r23 ?r24 ?r25 ?r26 ?r27 ?r28 ?r29 ?Ni ?Nj ?Nk ?Nl ?Nn ?r30 ?No ?r31 ?Np ?Nq ?Nr ?r32 ?Nt ?r33 ?Nu ?r34 ?r35 ?Nv ?r36 ?Nw ?r37 ?Ny ?r38 ?Nz ?r39 ?NA ?r40 ?NB ?r41 ?NC ?ND ?NE ?NF ?r42 ?r43 ?NG ?r44 ?r45 ?r46 ?r47 ?r48 ?r49 ?r50 ?r51 ?a52_Machine ?r52 ?r53 ?r54 ?r55 ?r56 ?r57 ?r58 ?r59 ?a60_Machine ?r60 ?a61_Machine ?r61 ?r62 ?r63 ?r64 ?r65 ?r66 ?r67 ?Px ?Py ?Pz ?Od ?Oe ?PD ?c_Machine ?nb_Machine_made ?nb_Machine_leads ?OH ?PQ ?PR ?PH ?OI ?PU ?PV ?PJ ?OJ ?PX ?PY ?PK ?OK ?PZ ?P0 ?PL ?OL ?P3 ?P4 ?PM ?OM ?P5 ?P6 ?PN ?in_ ?it_ ?P7 ?Og ?P8 ?Oh ?Oi ?Oj ?Ol ?P9 ?Om ?On ?Oo ?Op ?Oq ?Os ?Oa ?Ot ?Ou ?Ov ?Ow ?Ox ?Oy ?Ob ?Oz ?OA ?OB ?OC ?OE ?OF ?z_isinstance ?z_int ?z_bool ?z_tuple ?z_list ?z_len ?z_range ?z_enumerate ?z_min ?z_max
  case OT | OU | OV | OW | OX | OG | aC_Machine | OY | OZ | O0 | O1 | r1 | r2 | r3 | r4 | r5 | r6 | O2 | r7 | O3 | r8 | O4 | r9 | O5 | r10 | r11 | r12 | r13 | r14 | O6 | O7 | O8 | O9 | O_ | r15 | Na | r16 | Nb | r17 | Nc | r18 | Nd | r19 | Nf | r20 | Ng | r21 | Nh | r22 | r23 | r24 | r25 | r26 | r27 | r28 | r29 | Ni | Nj | Nk | Nl | Nn | r30 | No | r31 | Np | Nq | Nr | r32 | Nt | r33 | Nu | r34 | r35 | Nv | r36 | Nw | r37 | Ny | r38 | Nz | r39 | NA | r40 | NB | r41 | NC | ND | NE | NF | r42 | r43 | NG | r44 | r45 | r46 | r47 | r48 | r49 | r50 | r51 | a52_Machine | r52 | r53 | r54 | r55 | r56 | r57 | r58 | r59 | a60_Machine | r60 | a61_Machine | r61 | r62 | r63 | r64 | r65 | r66 | r67 | Px | Py | Pz | Od | Oe | PD | c_Machine | nb_Machine_made | nb_Machine_leads | OH | PQ | PR | PH | OI | PU | PV | PJ | OJ | PX | PY | PK | OK | PZ | P0 | PL | OL | P3 | P4 | PM | OM | P5 | P6 | PN | in_ | it_ | P7 | Og | P8 | Oh | Oi | Oj | Ol | P9 | Om | On | Oo | Op | Oq | Os | Oa | Ot | Ou | Ov | Ow | Ox | Oy | Ob | Oz | OA | OB | OC | OE | OF | z_isinstance | z_int | z_bool | z_tuple | z_list | z_len | z_range | z_enumerate | z_min | z_max=>walk_at "kk"
