import PyProof.Rows.All
import Wide.All
import OpenK.AllK
import Wide.FinOn
import Lean
import PyProof.EqAt
import PyProof.EqKinds
import PyProof.TupleCall
import PyProof.NeKinds
import PySem.Challenge.RW_oddbases_k35_reckoning_refused
set_option Elab.async false
set_option linter.all false
set_option maxRecDepth 100000
namespace L2
open PySem PySem.Spec PyProof.Rows
abbrev Key:=Sum Int Str
def ZG:Key→Value→Bool
 | .inl k,v=>Value.isInt k v
 | .inr x,v=>Value.isStrOf x v
def Rx (w:World):Key→Int
 | .inl k=>hashInt k
 | .inr x=>hashStr w x
theorem zV:∀ {k:Key} {v:Value},ZG k v=true→(∃ i t,k=Sum.inl i∧v=Value.int i t)∨(∃ x t,k=Sum.inr x∧v=Value.str x t)
 | .inl i,v,h=>by
  obtain ⟨t,e⟩:=Value.isInt_shape (k:=i) (v:=v) h
  exact .inl ⟨i,t,rfl,e⟩
 | .inr x,v,h=>by
  obtain ⟨t,e⟩:=Value.isStrOf_shape (x:=x) (v:=v) h
  exact .inr ⟨x,t,rfl,e⟩
theorem VQ (a b:Int):decide ((Sum.inl a:Key)=Sum.inl b)=(a == b):=by
 by_cases e:a=b
 ·subst e; simp
 ·have h:¬ (Sum.inl a:Key)=Sum.inl b:=fun q=>e (Sum.inl.inj q)
  rw [decide_eq_false h]
  exact (beq_eq_false_iff_ne.mpr e).symm
theorem VN (a b:Str):decide ((Sum.inr a:Key)=Sum.inr b)=decide (a=b):=by
 by_cases e:a=b
 ·subst e; simp
 ·have h:¬ (Sum.inr a:Key)=Sum.inr b:=fun q=>e (Sum.inr.inj q)
  rw [decide_eq_false h,decide_eq_false e]
theorem VP (a:Int) (b:Str):decide ((Sum.inl a:Key)=Sum.inr b)=false:=decide_eq_false (fun q=>nomatch q)
theorem VO (a:Str) (b:Int):decide ((Sum.inr a:Key)=Sum.inl b)=false:=decide_eq_false (fun q=>nomatch q)
def qU (prog:Program) (w:World):PySem.KeyKind prog w Key where
 is:=ZG
 hash:=Rx w
 inj:=fun v a b ha hb=>by
  rcases zV ha with ⟨i,t,rfl,rfl⟩ | ⟨x,t,rfl,rfl⟩
  ·rcases zV hb with ⟨j,u,rfl,e⟩ | ⟨y,u,rfl,e⟩
   ·injection e with e1 _; rw [e1]
   ·exact nomatch e
  ·rcases zV hb with ⟨j,u,rfl,e⟩ | ⟨y,u,rfl,e⟩
   ·exact nomatch e
   ·injection e with e1 _; rw [e1]
 byValue:=fun k v h=>by
  rcases zV h with ⟨i,t,rfl,rfl⟩ | ⟨x,t,rfl,rfl⟩ <;> rfl
 pyHash:=fun hv h=>by
  rcases zV hv with ⟨i,t,rfl,rfl⟩ | ⟨x,t,rfl,rfl⟩
  ·exact wpAny_pyHash_int h
  ·exact wpAny_pyHash_str h
 eqBool:=fun hu hv h=>by
  rcases zV hu with ⟨i,t,rfl,rfl⟩ | ⟨x,t,rfl,rfl⟩
  ·rcases zV hv with ⟨j,u,rfl,rfl⟩ | ⟨y,u,rfl,rfl⟩
   ·rw [VQ] at h; exact wpAny_eqBool_int h
   ·rw [VP] at h; exact SeqAt.EqAt.int_str i t y u _ _ _ _ h
  ·rcases zV hv with ⟨j,u,rfl,rfl⟩ | ⟨y,u,rfl,rfl⟩
   ·rw [VO] at h; exact SeqAt.EqAt.str_int x t j u _ _ _ _ h
   ·rw [VN] at h; exact wpAny_eqBool_str h
 «strs»:=fun k x t v h=>by
  rcases zV h with ⟨i,u,rfl,e⟩ | ⟨y,u,rfl,e⟩
  ·exact nomatch e
  ·injection e with e1 _
   subst e1
   cases v <;> rfl
end L2
namespace L2
open PySem PySem.Spec PyProof.Rows
inductive V where
 | non | bl (b:Bool) | int (i:Int) | str (x:Str) | byt (b:Array UInt8) | flt (b:UInt64) | ref (a:Addr) | ty (n:String)
 deriving DecidableEq
def RelV:V→Value→Prop
 | .non,u=>u=Value.none
 | .bl b,u=>u=Value.bool b
 | .int i,u=>∃ t,u=Value.int i t
 | .str x,u=>∃ t,u=Value.str x t
 | .byt b,u=>∃ t,u=Value.bytes b t
 | .flt b,u=>∃ t,u=Value.float b t
 | .ref a,u=>u=Value.ref a
 | .ty n,u=>u=Value.type n
abbrev Vals:List V→List Value→Prop:=Paired RelV
theorem Vals.length {xs:List V} {us:List Value} (r:Vals xs us):xs.length=us.length:=Paired.length r
theorem Vals.get:∀ {xs:List V} {us:List Value} {i:Nat} {x:V},Vals xs us→xs[i]? = some x→∃ u,us[i]? = some u∧RelV x u
 | _,_,_,_,.nil,e=>by simp at e
 | _,_,0,_,.cons r _,e=>by simp at e; subst e; exact ⟨_,rfl,r⟩
 | _,_,i+1,x,.cons _ t,e=>by
  obtain ⟨u,h1,h2⟩:=Vals.get (i:=i) (x:=x) t (by simpa using e)
  exact ⟨u,by simpa using h1,h2⟩
theorem Vals.set {x:V} {u:Value} (r:RelV x u):∀ {xs:List V} {us:List Value} (i:Nat),Vals xs us→Vals (xs.set i x) (us.set i u)
 | _,_,_,.nil=>.nil
 | _,_,0,.cons _ t=>.cons r t
 | _,_,i+1,.cons q t=>.cons q (Vals.set r i t)
theorem Vals.append:∀ {xs ys:List V} {us ws:List Value},Vals xs us→Vals ys ws→Vals (xs++ys) (us++ws)
 | _,_,_,_,.nil,s=>s
 | _,_,_,_,.cons r t,s=>.cons r (Vals.append t s)
theorem Vals.take:∀ {xs:List V} {us:List Value} (n:Nat),Vals xs us→Vals (xs.take n) (us.take n)
 | _,_,0,_=>.nil
 | _,_,_+1,.nil=>.nil
 | _,_,n+1,.cons r t=>.cons r (Vals.take n t)
theorem Vals.drop:∀ {xs:List V} {us:List Value} (n:Nat),Vals xs us→Vals (xs.drop n) (us.drop n)
 | _,_,0,r=>r
 | _,_,_+1,.nil=>.nil
 | _,_,n+1,.cons _ t=>Vals.drop n t
theorem Vals.none_of:∀ {xs:List V} {us:List Value} {i:Nat},Vals xs us→xs[i]? = none→us[i]? = none:=fun {xs us i} r e=>by
 have h1:=r.length
 have h2:xs.length≤i:=List.getElem?_eq_none_iff.mp e
 exact List.getElem?_eq_none_iff.mpr (by omega)
def RelO:Option V→Option Value→Prop
 | some v,some u=>RelV v u
 | none,none=>True
 | _,_=>False
def KV {κ:Type}:List (κ × V)→List (κ × Value)→Prop:=Paired fun (p:κ × V) (q:κ × Value)=>p.1=q.1∧RelV p.2 q.2
def kV:Key→V
 | .inl i=>.int i
 | .inr x=>.str x
inductive HO where
 | lst (xs:List V)
 | tup (xs:List V)
 | dK (kvs:List (Key × V)) | dT (kvs:List (List Key × V))
 | set (S:Int→Bool) (n:Nat)
 | ins (C dx:Addr) (fs:List (Str × V))
 | own (x:Addr)
 | xd (fs:List (Str × V))
 | met (f x:Addr)
 | rng (lo hi:Int)
 | frz (o:Obj) (u:HO)
 | tbl (ps:Array Value)
 | ext (φ:Heap→Prop)
abbrev Hp:=Addr→Option HO
def upd (H:Hp) (a:Addr) (o:HO):Hp:=fun b=>if b=a then some o else H b
theorem zw {H:Hp} {a:Addr} {o:HO}:upd H a o a=some o:=by unfold upd; rw [if_pos rfl]
theorem zu {H:Hp} {a b:Addr} {o:HO} (h:b≠a):upd H a o b=H b:=by unfold upd; rw [if_neg h]
theorem zW {H:Hp} {a b:Addr} {o:HO} (h:H a=some o) (h':H b=none):a≠b:=by
 intro e; subst e; rw [h] at h'; cases h'
section
variable (P:Program) (w:World)
def ObjOk (H:Hp) (h:Heap) (a:Addr):HO→Prop
 | .lst xs=>xs.length≤sizeLine∧∃ (its:List Value) (n:Nat),Vals xs its∧h.get? a=some { cls:=.type "list",data:=.seq its.toArray n }
 | .tup xs=>xs.length≤sizeLine∧∃ its:List Value,Vals xs its∧IsTup h a its.toArray
 | .dK kvs=>kvs.length≤sizeLine∧(a == sysModules)=false∧∃ vs,KV kvs vs∧h.DictOf (qU P w) a vs
 | .dT kvs=>kvs.length≤sizeLine∧(a == sysModules)=false∧∃ xs:List (List Key × Addr × Value),
   Paired (fun (p:List Key × V) (q:List Key × Addr × Value)=>p.1=q.1∧H q.2.1=some (.tup (p.1.map kV))∧RelV p.2 q.2.2) kvs xs∧
   ∃ o es ep,h.get? a=some o∧o.ExactDict∧o.data=.dict es ep∧es.toList=xs.map (entryOfKey (tupleKind (qU P w)))∧(xs.map (·.1)).Nodup
 | .set S n=>h.SetOf (intKind P w) a S n
 | .ins C dx fs=>H dx=some (.own a)∧fs.length≤1000∧dx≠a∧h.get? a=some (PySem.W.instObj C dx)∧
   ∃ mA,h.Ns1 dx mA∧(∀ f,RelO (fs.lookup f) (mA f))∧PySem.Within mA (fs.map (·.1))
 | .own _=>∃ o,h.get? a=some o
 | .xd fs=>∃ mA,h.Ns1 a mA∧∀ f,RelO (fs.lookup f) (mA f)
 | .rng lo hi=>∃ t u v,h.get? a=some { cls:=.type "range",data:=.fields #[.int lo t,.int hi u,.int 1 v] }
 | .frz o u=>h.get? a=some o∧ObjOk H h a u
 | .tbl ps=>h.get? a=some { cls:=.none,data:=.fields ps }
 | .met f x=>h.get? a=some (PySem.W.methodObj (.ref f) (.ref x))
 | .ext φ=>φ h∧(∃ o,h.get? a=some o)∧∀ h1 h2:Heap,φ h1→(∀ o,h1.get? a=some o→h2.get? a=some o)→φ h2
def HOk (H:Hp) (h:Heap):Prop:=∀ a o,H a=some o→ObjOk P w H h a o
end
section
variable {P:Program} {w:World} {H H':Hp} {h h':Heap} {a:Addr} {o:HO}
theorem ObjOk.lt (x:ObjOk P w H h a o):a<h.objs.size:=by
 cases o with
 | lst xs=>obtain ⟨_,_,_,_,e⟩:=x; exact Heap.lt_size e
 | tup xs=>obtain ⟨_,_,_,p⟩:=x; exact p.lt
 | dK kvs=>obtain ⟨_,_,_,_,o,_,_,e,_⟩:=x; exact Heap.lt_size e
 | dT kvs=>obtain ⟨_,_,_,_,o,_,_,e,_⟩:=x; exact Heap.lt_size e
 | set S n=>obtain ⟨o,_,_,_,e,_⟩:=x; exact Heap.lt_size e
 | ins C dx fs=>obtain ⟨_,_,_,e,_⟩:=x; exact Heap.lt_size e
 | own y=>obtain ⟨_,e⟩:=x; exact Heap.lt_size e
 | xd fs=>obtain ⟨_,⟨_,_,_,e,_⟩,_⟩:=x; exact Heap.lt_size e
 | rng lo hi=>obtain ⟨_,_,_,e⟩:=x; exact Heap.lt_size e
 | frz ob u=>obtain ⟨e,_⟩:=x; exact Heap.lt_size e
 | tbl ps=>exact Heap.lt_size (show h.get? a=some _ from x)
 | met f y=>exact Heap.lt_size (show h.get? a=some _ from x)
 | ext φ=>obtain ⟨_,⟨_,e⟩,_⟩:=x; exact Heap.lt_size e
theorem Paired.mapP {α β:Type} {F G:α→β→Prop}:∀ {l₁:List α} {l₂:List β},Paired F l₁ l₂→(∀ a b,F a b→G a b)→Paired G l₁ l₂
 | _,_,.nil,_=>.nil
 | _,_,.cons r t,f=>.cons (f _ _ r) (Paired.mapP t f)
theorem ObjOk.stay (x:ObjOk P w H h a o) (k:∀ b u,(b=a∨H b=some (.own a))→h.get? b=some u→h'.get? b=some u)
  (ho:∀ b,H b=some (.own a)→H' b=some (.own a)) (ht:∀ b xs,H b=some (.tup xs)→H' b=some (.tup xs)):ObjOk P w H' h' a o:=by
 induction o with
 | lst xs=>obtain ⟨z,its,n,r,e⟩:=x; exact ⟨z,its,n,r,k _ _ (.inl rfl) e⟩
 | tup xs=>obtain ⟨z,its,r,ob,e,c⟩:=x; exact ⟨z,its,r,ob,k _ _ (.inl rfl) e,c⟩
 | dK kvs=>obtain ⟨z,y,vs,r,ob,es,ep,e,c⟩:=x; exact ⟨z,y,vs,r,ob,es,ep,k _ _ (.inl rfl) e,c⟩
 | dT kvs=>
  obtain ⟨z,y,xs,r,ob,es,ep,e,c⟩:=x
  exact ⟨z,y,xs,Paired.mapP r fun p q z=>⟨z.1,ht _ _ z.2.1,z.2.2⟩,ob,es,ep,k _ _ (.inl rfl) e,c⟩
 | set S n=>obtain ⟨ob,es,ep,t,e,c⟩:=x; exact ⟨ob,es,ep,t,k _ _ (.inl rfl) e,c⟩
 | ins C dx fs=>
  obtain ⟨d,z,ne,e,mA,⟨od,es,ep,e2,c⟩,r⟩:=x
  exact ⟨ho _ d,z,ne,k _ _ (.inl rfl) e,mA,⟨od,es,ep,k _ _ (.inr d) e2,c⟩,r⟩
 | own y=>obtain ⟨ob,e⟩:=x; exact ⟨ob,k _ _ (.inl rfl) e⟩
 | xd fs=>obtain ⟨mA,⟨od,es,ep,e,c⟩,r⟩:=x; exact ⟨mA,⟨od,es,ep,k _ _ (.inl rfl) e,c⟩,r⟩
 | rng lo hi=>obtain ⟨t,u,v,e⟩:=x; exact ⟨t,u,v,k _ _ (.inl rfl) e⟩
 | frz ob u ih=>obtain ⟨e,q⟩:=x; exact ⟨k _ _ (.inl rfl) e,ih q⟩
 | tbl ps=>
  have e:h.get? a=some { cls:=.none,data:=.fields ps }:=x
  show h'.get? a=some { cls:=.none,data:=.fields ps }
  exact k a _ (.inl rfl) e
 | met f y=>
  have e:h.get? a=some (PySem.W.methodObj (.ref f) (.ref y)):=x
  show h'.get? a=some (PySem.W.methodObj (.ref f) (.ref y))
  exact k a _ (.inl rfl) e
 | ext φ=>obtain ⟨p,⟨o,e⟩,st⟩:=x; exact ⟨st _ _ p fun o q=>k _ _ (.inl rfl) q,⟨o,k _ _ (.inl rfl) e⟩,st⟩
theorem HOk.lt (x:HOk P w H h) (e:H a=some o):a<h.objs.size:=(x a o e).lt
theorem HOk.fresh (x:HOk P w H h) (e:h.objs.size≤a):H a=none:=by
 cases q:H a with
 | none=>rfl
 | some u=>exact absurd (Nat.lt_of_lt_of_le (x.lt q) e) (Nat.lt_irrefl _)
theorem HOk.kept (x:HOk P w H h) (k:∀ b u,h.get? b=some u→h'.get? b=some u):HOk P w H h':=fun a o e=>
 (x a o e).stay (fun b u _ q=>k b u q) (fun _ q=>q) fun _ _ q=>q
theorem HOk.laid (x:HOk P w H h) (k:∀ b u,h.get? b=some u→h'.get? b=some u) (hp:h.objs.size≤a) (new:ObjOk P w (upd H a o) h' a o):HOk P w (upd H a o) h':=fun b u e=>by
 have hn:=x.fresh hp
 by_cases hb:b=a
 ·subst hb; rw [zw] at e; cases e; exact new
 ·rw [zu hb] at e
  exact (x b u e).stay (fun c v _ q=>k c v q) (fun c q=>by rw [zu (zW q hn)]; exact q) fun c xs q=>by rw [zu (zW q hn)]; exact q
end
def Rd (H:Hp) (a:Addr) (u:HO):Prop:=H a=some u∨∃ o,H a=some (.frz o u)
theorem Rd.of {H:Hp} {a:Addr} {u:HO} (h:H a=some u):Rd H a u:=.inl h
theorem Rd.ok {P:Program} {w:World} {H:Hp} {h:Heap} {a:Addr} {u:HO} (r:Rd H a u) (x:HOk P w H h):ObjOk P w H h a u:=by
 rcases r with r | ⟨o,r⟩
 ·exact x a u r
 ·obtain ⟨_,q⟩:=x a _ r
  exact q
def Mut:Option HO→Prop
 | some (.lst _)=>True
 | some (.dK _)=>True
 | some (.dT _)=>True
 | some (.set _ _)=>True
 | some (.ins _ _ _)=>True
 | some (.ext _)=>True
 | _=>False
section
variable {P:Program} {w:World} {H:Hp} {h h':Heap} {x e:Addr} {o':HO}
theorem HOk.write (ok:HOk P w H h) (mu:Mut (H x)) (he:e=x∨H e=some (.own x)) (k:∀ b u,b≠e→h.get? b=some u→h'.get? b=some u) (heo:∃ u,h'.get? e=some u)
  (new:ObjOk P w (upd H x o') h' x o'):HOk P w (upd H x o') h':=fun b u q=>by
 have nown:∀ c y,H c=some (.own y)→c≠x:=fun c y r z=>by subst z; rw [r] at mu; exact mu
 have ntup:∀ c xs,H c=some (.tup xs)→c≠x:=fun c xs r z=>by subst z; rw [r] at mu; exact mu
 by_cases hb:b=x
 ·subst hb; rw [zw] at q; cases q; exact new
 ·rw [zu hb] at q
  by_cases hbe:b=e
  ·have q':H b=some (.own x):=by
    rcases he with z | z
    ·exact absurd (hbe.trans z) hb
    ·rw [hbe]; exact z
   rw [q] at q'; cases q'
   obtain ⟨v,hv⟩:=heo
   exact ⟨v,by rw [hbe]; exact hv⟩
  ·refine (ok b u q).stay (fun c v hc r=>k c v ?_ r) (fun c r=>by rw [zu (nown c b r)]; exact r) fun c xs r=>by rw [zu (ntup c xs r)]; exact r
   rcases hc with rfl | hc
   ·exact hbe
   ·rintro rfl
    rcases he with z | z
    ·exact nown c b hc z
    ·rw [hc] at z; cases z; exact hb rfl
end
structure Un (fs ex:List Addr) (H H':Hp) (h h':Heap):Prop where
 keep:∀ b o,h.get? b=some o→H b=none→b∉fs→b∉ex→h'.get? b=some o
 slot:∀ b o,h.get? b=some o→H b=none→b∈fs→b∉ex→∃ sl,h'.get? b=some { o with slots:=sl }
 free:∀ b o,h.get? b=some o→H b=none→b∉ex→H' b=none
 there:∀ b o,h.get? b=some o→b∉ex→∃ o',h'.get? b=some o'
 tups:∀ b xs,H b=some (.tup xs)→H' b=some (.tup xs)
 frzs:∀ b o u,H b=some (.frz o u)→H' b=some (.frz o u)
 tbls:∀ b ps,H b=some (.tbl ps)→∃ more,H' b=some (.tbl (ps++more))
section
variable {fs fs' ex ex':List Addr} {H H1 H2:Hp} {h h1 h2 h':Heap} {a x e:Addr} {o:HO}
theorem Un.any (u:Un fs ex H H1 h h1) {b:Addr} {ob:Obj} (q:h.get? b=some ob) (n:H b=none) (hx:b∉ex):∃ sl,h1.get? b=some { ob with slots:=sl }:=by
 by_cases hb:b∈fs
 ·exact u.slot b ob q n hb hx
 ·exact ⟨ob.slots,u.keep b ob q n hb hx⟩
theorem Un.trans (a:Un fs ex H H1 h h1) (b:Un fs ex H1 H2 h1 h2):Un fs ex H H2 h h2 where
 keep:=fun c ob q n hc hx=>b.keep c ob (a.keep c ob q n hc hx) (a.free c ob q n hx) hc hx
 slot:=fun c ob q n hc hx=>by
  obtain ⟨sl,e1⟩:=a.slot c ob q n hc hx
  obtain ⟨sl',e2⟩:=b.slot c _ e1 (a.free c ob q n hx) hc hx
  exact ⟨sl',e2⟩
 free:=fun c ob q n hx=>by
  obtain ⟨o',e1⟩:=a.there c ob q hx
  exact b.free c o' e1 (a.free c ob q n hx) hx
 there:=fun c ob q hx=>by
  obtain ⟨o',e1⟩:=a.there c ob q hx
  exact b.there c o' e1 hx
 tups:=fun c xs q=>b.tups c xs (a.tups c xs q)
 frzs:=fun c ob xs q=>b.frzs c ob xs (a.frzs c ob xs q)
 tbls:=fun c ps q=>by
  obtain ⟨m1,e1⟩:=a.tbls c ps q
  obtain ⟨m2,e2⟩:=b.tbls c _ e1
  exact ⟨m1++m2,by rw [e2,Array.append_assoc]⟩
theorem Un.kept (k:∀ b u,h.get? b=some u→h'.get? b=some u):Un fs ex H H h h':=
 ⟨fun b ob q _ _ _=>k b ob q,fun b ob q _ _ _=>⟨ob.slots,k b ob q⟩,fun _ _ _ n _=>n,fun b ob q _=>⟨ob,k b ob q⟩,fun _ _ q=>q,fun _ _ _ q=>q,fun _ ps q=>⟨#[],by rw [q]; simp⟩⟩
theorem Un.refl:Un fs ex H H h h:=Un.kept fun _ _ q=>q
theorem Un.laid (k:∀ b u,h.get? b=some u→h'.get? b=some u) (hp:h.objs.size≤a) (hn:H a=none):Un fs ex H (upd H a o) h h' where
 keep:=fun b u q _ _ _=>k b u q
 slot:=fun b u q _ _ _=>⟨u.slots,k b u q⟩
 free:=fun b u q n _=>by rw [zu (Nat.ne_of_lt (Nat.lt_of_lt_of_le (Heap.lt_size q) hp))]; exact n
 there:=fun b u q _=>⟨u,k b u q⟩
 tups:=fun b xs q=>by rw [zu (zW q hn)]; exact q
 frzs:=fun b u xs q=>by rw [zu (zW q hn)]; exact q
 tbls:=fun b ps q=>⟨#[],by rw [zu (zW q hn),q]; simp⟩
theorem Un.write (mu:Mut (H x)) (he:e=x∨H e=some (.own x)) (k:∀ b u,b≠e→h.get? b=some u→h'.get? b=some u) (heo:∃ u,h'.get? e=some u):Un fs ex H (upd H x o) h h':=by
 have hx:∀ b,H b=none→b≠x:=fun b n z=>by subst z; rw [n] at mu; exact mu
 have hb:∀ b,H b=none→b≠e:=fun b n z=>by
  subst z
  rcases he with r | r
  ·exact hx b n r
  ·rw [n] at r; cases r
 have hm:∀ b u,H b=some u→¬ Mut (some u)→b≠x:=fun b u q nm z=>by subst z; rw [q] at mu; exact nm mu
 refine ⟨fun b u q n _ _=>k b u (hb b n) q,fun b u q n _ _=>⟨u.slots,k b u (hb b n) q⟩,fun b u q n _=>by rw [zu (hx b n)]; exact n,fun b u q _=>?_,
  fun b xs q=>by rw [zu (hm b _ q fun z=>z)]; exact q,fun b u xs q=>by rw [zu (hm b _ q fun z=>z)]; exact q,fun b ps q=>⟨#[],by rw [zu (hm b _ q fun z=>z),q]; simp⟩⟩
 by_cases hbe:b=e
 ·subst hbe; exact heo
 ·exact ⟨u,k b u hbe q⟩
theorem Un.mono (u:Un fs ex H H1 h h1) (hs:∀ b∈fs,b∈fs') (hx:∀ b∈ex,b∈ex'):Un fs' ex' H H1 h h1:=
 ⟨fun b ob q n hb he=>u.keep b ob q n (fun z=>hb (hs b z)) fun z=>he (hx b z),fun _ _ q n _ he=>u.any q n fun z=>he (hx _ z),fun b ob q n he=>u.free b ob q n fun z=>he (hx b z),fun b ob q he=>u.there b ob q fun z=>he (hx b z),u.tups,u.frzs,u.tbls⟩
end
def trk (h:Heap) (H:Hp):List Addr:=(List.range h.objs.size).filter fun a=>(H a).isSome
def qX (h:Heap) (H:Hp):Heap:=PySem.W.hideAll h (trk h H)
theorem kF (h:Heap) (H:Hp):(qX h H).objs.size=h.objs.size:=PySem.W.hideAll_size _ _
theorem gX {h:Heap} {H:Hp} {b:Addr} {o:Obj} (e:h.get? b=some o) (n:H b=none):(qX h H).get? b=some o:=
 PySem.W.hideAll_get _ e fun hm=>by
  have q:(H b).isSome=true:=(List.mem_filter.mp hm).2
  rw [n] at q; simp at q
theorem dQ {h:Heap} {H:Hp} {b:Addr} {o:Obj} (e:(qX h H).get? b=some o):h.get? b=some o∧H b=none:=by
 have e':h.get? b=some o:=PySem.W.of_hideAll (trk h H) e
 refine ⟨e',?_⟩
 cases q:H b with
 | none=>rfl
 | some x=>
  have hm:b∈trk h H:=List.mem_filter.mpr ⟨List.mem_range.mpr (Heap.lt_size e'),by simp [q]⟩
  have z:(qX h H).get? b=none:=PySem.W.hideAll_none (trk h H) hm
  rw [z] at e; cases e
def Zk (g h:Heap) (L:Addr):List (Addr × Obj):=(List.range h.objs.size).filterMap fun a=>if a=L∨(g.get? a).isSome=true then none else (h.get? a).map fun o=>(a,o)
def yX (g h:Heap) (L d:Addr):List (Addr × Obj):=(Zk g h L).filter fun p=>decide (p.1≠d)
end L2
namespace L2
open PySem PySem.Spec PyProof.Rows
structure Mod (K:PySem.W.Frag) (mg:Str→Option Value) (base:Heap):Prop where
 kin:K.In base
 glob:base.Ns mainGlobals mg
 blt:∃ mb,base.Ns builtinsNs mb∧∀ x:Str,x≠"__name__"→mb x=bootBuiltins x
 nolimit:base.NoLimit
structure Cx where
 prog:Program
 w:World
 K:PySem.W.Frag
 mg:Str→Option Value
 base:Heap
 A:Around
 N:List Str
 s₀:Shared
 H₀:Hp
 env:Env
 outer:List Env
 stack:List Env
 ex:List Addr
 fn:Str→Bool
 calm:Bool
 pn:List (Addr × Obj)
 xe:Value→Shared→Prop
def frs (l:List Env):List Addr:=l.filterMap (·.frame)
abbrev Cx.fs (X:Cx):List Addr:=frs X.outer
def Vis (sc:Scope) (x:Str):Prop:=sc.names.lookup x=some .local∨sc.names.lookup x=some .cell∨sc.names.lookup x=some .free
def Loc (sc:Scope) (x:Str):Prop:=sc.names.lookup x=some .local∨sc.names.lookup x=some .cell
def R0 (env:Env) (h:Heap) (m:Str→Option Value) (x:Str) (u:Value):Prop:=
 (env.kindOf x=some .local∧m x=some u)∨((env.kindOf x=some .cell∨env.kindOf x=some .free)∧∃ c,env.cells.lookup x=some c∧h.IsCell c (some u))
structure Cx.Ok (X:Cx):Prop where
 mod:Mod X.K X.mg X.base
 kind:X.env.scope.kind=.function
 glob:X.env.globals=mainGlobals
 blt:X.env.builtins=builtinsNs
 above:X.s₀.heap.objs.size≤X.env.locals
 inj:∀ x y c,X.env.cells.lookup x=some c→X.env.cells.lookup y=some c→x=y
 has:∀ x,(X.env.kindOf x=some .cell∨X.env.kindOf x=some .free)→∃ c,X.env.cells.lookup x=some c
 cab:∀ x c,X.fn x=true→X.env.cells.lookup x=some c→X.s₀.heap.objs.size≤c
 hd:X.calm=true→X.A.handled=none
 frames:X.A.frames=some X.stack
 stk:X.stack=X.outer∨(X.stack=X.env::X.outer∧X.env.frame=some X.env.locals)
 exf:∀ b∈X.ex,b≠X.env.locals∧∀ x c,X.env.cells.lookup x=some c→c≠b
 bs:∀ b o,X.base.get? b=some o→X.s₀.heap.get? b=some o∧X.H₀ b=none
 bsz:X.base.objs.size≤X.s₀.heap.objs.size
 noex:∀ b o,X.base.get? b=some o→b∉X.ex
 exfs:∀ b∈X.ex,b∉X.fs
 funs:X.s₀.heap.FunFrames X.base X.outer
 frf:∀ b∈X.fs,X.H₀ b=none
structure Inv (X:Cx) (pins:List (Addr × Obj)) (σ:List (Option V)) (H:Hp) (s:Shared):Prop where
 ok:X.Ok
 os:s.os=X.s₀.os
 bare:AllBare s.gens
 base:Un X.fs X.ex X.H₀ H X.s₀.heap s.heap
 loc:∃ m,s.heap.Ns X.env.locals m∧∀ (i:Nat) (x:Str) (v:V),X.N[i]? = some x→σ[i]? = some (some v)→Vis X.env.scope x→∃ u,RelV v u∧R0 X.env s.heap m x u
 cell:∀ x c,X.env.cells.lookup x=some c→∃ v,s.heap.IsCell c v
 free:H X.env.locals=none
 freeC:∀ x c,X.env.cells.lookup x=some c→H c=none
 pin:∀ p∈X.pn++pins,s.heap.get? p.1=some p.2∧H p.1=none∧p.1≠X.env.locals∧p.1∉X.fs∧∀ v,p.2.data≠.cell v
 hok:HOk X.prog X.w H s.heap
 len:σ.length=X.N.length
section
variable {X:Cx} {pins:List (Addr × Obj)} {σ:List (Option V)} {H H':Hp} {s:Shared} {h':Heap}
theorem Cx.Ok.nofr (ok:X.Ok) {b:Addr} {o:Obj} (e:X.base.get? b=some o):b∉X.fs:=fun hb=>by
 have:=(ok.funs.mem hb).1
 rw [e] at this; cases this
theorem Inv.bs (I:Inv X pins σ H s):∀ b o,X.base.get? b=some o→s.heap.get? b=some o∧H b=none:=fun b o e=>
 ⟨I.base.keep b o (I.ok.bs b o e).1 (I.ok.bs b o e).2 (I.ok.nofr e) (I.ok.noex b o e),I.base.free b o (I.ok.bs b o e).1 (I.ok.bs b o e).2 (I.ok.noex b o e)⟩
theorem Inv.bk (I:Inv X pins σ H s):∀ b o,X.base.get? b=some o→s.heap.get? b=some o:=fun b o e=>(I.bs b o e).1
theorem Inv.mod (I:Inv X pins σ H s):Mod X.K X.mg X.base:=I.ok.mod
theorem Inv.kIn (I:Inv X pins σ H s):X.K.In s.heap:=I.ok.mod.kin.keeps I.bk
theorem Inv.nolimit (I:Inv X pins σ H s):s.heap.NoLimit:=I.ok.mod.nolimit.keeps I.bk
theorem Inv.fr (I:Inv X pins σ H s):∃ m,Fr X.base X.env.locals s.heap m:=
 let ⟨m,hn,_⟩:=I.loc
 ⟨m,hn,I.bk,Nat.le_trans I.ok.bsz I.ok.above⟩
theorem Inv.lt (I:Inv X pins σ H s):X.env.locals<s.heap.objs.size:=let ⟨_,hn,_⟩:=I.loc; hn.lt
theorem Inv.sz (I:Inv X pins σ H s):X.s₀.heap.objs.size≤s.heap.objs.size:=Nat.le_trans I.ok.above (Nat.le_of_lt I.lt)
theorem Inv.nofs (I:Inv X pins σ H s) {a:Addr} (h:s.heap.objs.size≤a):a∉X.fs:=fun hb=>by
 obtain ⟨_,o,ho,_⟩:=I.ok.funs.mem hb
 exact absurd (Nat.lt_of_lt_of_le (Heap.lt_size ho) (Nat.le_trans I.sz h)) (Nat.lt_irrefl _)
theorem Inv.cne (I:Inv X pins σ H s):∀ x c,X.env.cells.lookup x=some c→c≠X.env.locals:=fun x c e z=>by
 obtain ⟨v,o,ho,hd⟩:=I.cell x c e
 obtain ⟨m,⟨o',es,ep,ho',hd',_⟩,_⟩:=I.loc
 rw [z,ho'] at ho; cases ho; rw [hd'] at hd; cases hd
theorem Inv.funs (I:Inv X pins σ H s):s.heap.FunFrames X.base X.outer:=by
 have all:∀ (l:List Env),(∀ b∈frs l,b∈X.fs)→X.s₀.heap.FunFrames X.base l→s.heap.FunFrames X.base l:=by
  intro l
  induction l with
  | nil=>intro _ _; trivial
  | cons env r ih=>
   intro hs hl
   obtain ⟨hk,⟨L,o,hf,hn,ho,hd⟩,hr⟩:=hl
   have hL:L∈X.fs:=hs L (by unfold frs; rw [List.filterMap_cons,hf]; exact List.mem_cons_self)
   obtain ⟨sl,e⟩:=I.base.slot L o ho (I.ok.frf L hL) hL fun z=>I.ok.exfs L z hL
   exact ⟨hk,⟨L,_,hf,hn,e,hd⟩,ih (fun b hb=>hs b (by unfold frs; rw [List.filterMap_cons,hf]; exact List.mem_cons_of_mem _ hb)) hr⟩
 exact all X.outer (fun _ hb=>hb) I.ok.funs
theorem Inv.stack (I:Inv X pins σ H s):s.heap.FunFrames X.base X.stack:=by
 rcases I.ok.stk with e | ⟨e,hf⟩
 ·rw [e]; exact I.funs
 ·rw [e]
  obtain ⟨m,hn,_⟩:=I.loc
  refine .cons (by rw [I.ok.kind]; decide) hf hn ?_ I.funs
  exact Heap.get?_none_of_le (Nat.le_trans I.ok.bsz I.ok.above)
theorem Inv.stkSub (I:Inv X pins σ H s):∀ b∈frs X.stack,b∈X.env.locals::X.fs:=fun b hb=>by
 rcases I.ok.stk with e | ⟨e,hf⟩
 ·rw [e] at hb; exact List.mem_cons_of_mem _ hb
 ·rw [e] at hb
  unfold frs at hb
  rw [List.filterMap_cons,hf] at hb
  exact hb
theorem Inv.stkFree (I:Inv X pins σ H s):∀ b∈frs X.stack,H b=none:=fun b hb=>by
 rcases List.mem_cons.mp (I.stkSub b hb) with e | hb
 ·rw [e]; exact I.free
 ·obtain ⟨_,o,ho,_⟩:=I.ok.funs.mem hb
  exact I.base.free b o ho (I.ok.frf b hb) fun z=>I.ok.exfs b z hb
theorem Inv.step {g':Array GenState} {t':Nat} {d':Drawn} {ch:List Addr} (I:Inv X pins σ H s)
  (hch:∀ b∈ch,(b∈X.ex∨X.s₀.heap.objs.size≤b)∧b≠X.env.locals∧(∀ x c,X.env.cells.lookup x=some c→c≠b)∧∀ p∈X.pn++pins,p.1≠b)
  (keep:∀ b o,b≠X.env.locals→b∉X.fs→b∉ch→s.heap.get? b=some o→H b=none→h'.get? b=some o)
  (slot:∀ b o,b≠X.env.locals→b∈X.fs→b∉ch→s.heap.get? b=some o→H b=none→∃ sl,h'.get? b=some { o with slots:=sl }) (free:∀ b o,b∉ch→s.heap.get? b=some o→H b=none→H' b=none)
  (there:∀ b o,b∉ch→s.heap.get? b=some o→∃ o',h'.get? b=some o')
  (tups:∀ b xs,H b=some (.tup xs)→H' b=some (.tup xs)) (frzs:∀ b o u,H b=some (.frz o u)→H' b=some (.frz o u)) (tbls:∀ b ps,H b=some (.tbl ps)→∃ more,H' b=some (.tbl (ps++more)))
  (ns:∀ m,s.heap.Ns X.env.locals m→h'.Ns X.env.locals m) (hok:HOk X.prog X.w H' h') (hg:AllBare g'):
  Inv X pins σ H' { s with heap:=h',gens:=g',drawn:=d',toks:=t' }:=by
 have neL:∀ b o,X.s₀.heap.get? b=some o→b≠X.env.locals:=fun b o e=>Nat.ne_of_lt (Nat.lt_of_lt_of_le (Heap.lt_size e) I.ok.above)
 have neC:∀ b o,X.s₀.heap.get? b=some o→b∉X.ex→b∉ch:=fun b o e hx hb=>by
  rcases (hch b hb).1 with z | z
  ·exact hx z
  ·exact absurd (Nat.lt_of_lt_of_le (Heap.lt_size e) z) (Nat.lt_irrefl _)
 have cellK:∀ x c,X.env.cells.lookup x=some c→∀ v,s.heap.IsCell c v→h'.IsCell c v:=fun x c e v ⟨o,ho,hd⟩=>by
  have nch:c∉ch:=fun z=>(hch c z).2.2.1 x c e rfl
  by_cases hc:c∈X.fs
  ·obtain ⟨sl,q⟩:=slot c o (I.cne x c e) hc nch ho (I.freeC x c e)
   exact ⟨_,q,hd⟩
  ·exact ⟨o,keep c o (I.cne x c e) hc nch ho (I.freeC x c e),hd⟩
 refine ⟨I.ok,I.os,hg,⟨fun b o e n hb hx=>?_,fun b o e n hb hx=>?_,fun b o e n hx=>?_,fun b o e hx=>?_,fun b xs e=>tups b xs (I.base.tups b xs e),fun b o xs e=>frzs b o xs (I.base.frzs b o xs e),fun b ps e=>?_⟩,?_,fun x c e=>?_,?_,fun x c e=>?_,fun p hp=>?_,hok,I.len⟩
 ·exact keep b o (neL b o e) hb (neC b o e hx) (I.base.keep b o e n hb hx) (I.base.free b o e n hx)
 ·obtain ⟨sl,e1⟩:=I.base.slot b o e n hb hx
  obtain ⟨sl',e2⟩:=slot b _ (neL b o e) hb (neC b o e hx) e1 (I.base.free b o e n hx)
  exact ⟨sl',e2⟩
 ·obtain ⟨o',e1⟩:=I.base.there b o e hx
  exact free b o' (neC b o e hx) e1 (I.base.free b o e n hx)
 ·obtain ⟨o',e1⟩:=I.base.there b o e hx
  exact there b o' (neC b o e hx) e1
 ·obtain ⟨m1,e1⟩:=I.base.tbls b ps e
  obtain ⟨m2,e2⟩:=tbls b _ e1
  exact ⟨m1++m2,by rw [e2,Array.append_assoc]⟩
 ·obtain ⟨m,hn,hl⟩:=I.loc
  refine ⟨m,ns m hn,fun i x v e1 e2 e3=>?_⟩
  obtain ⟨u,r,l⟩:=hl i x v e1 e2 e3
  refine ⟨u,r,?_⟩
  rcases l with l | ⟨k,c,e,z⟩
  ·exact .inl l
  ·exact .inr ⟨k,c,e,cellK x c e _ z⟩
 ·obtain ⟨v,z⟩:=I.cell x c e
  exact ⟨v,cellK x c e v z⟩
 ·obtain ⟨m,⟨o,_,_,ho,_⟩,_⟩:=I.loc
  exact free _ o (fun z=>(hch _ z).2.1 rfl) ho I.free
 ·obtain ⟨v,o,ho,hd⟩:=I.cell x c e
  exact free c o (fun z=>(hch c z).2.2.1 x c e rfl) ho (I.freeC x c e)
 ·obtain ⟨e,n,ne,nf,d⟩:=I.pin p hp
  have nch:p.1∉ch:=fun z=>(hch p.1 z).2.2.2 p hp rfl
  exact ⟨keep p.1 p.2 ne nf nch e n,free p.1 p.2 nch e n,ne,nf,d⟩
theorem Inv.un {t':Nat} (I:Inv X pins σ H s) (u:Un X.fs [] H H' s.heap h') (hok:HOk X.prog X.w H' h'):Inv X pins σ H' { s with heap:=h',toks:=t' }:=by
 obtain ⟨m,⟨o,es,ep,ho,r⟩,_⟩:=id I.loc
 obtain ⟨sl,hL⟩:=u.any ho I.free (by simp)
 exact I.step (g':=s.gens) (d':=s.drawn) (ch:=[]) (fun _ z=>nomatch z) (fun b o _ hb _ e n=>u.keep b o e n hb (by simp)) (fun b o _ hb _ e n=>u.slot b o e n hb (by simp)) (fun b o _ e n=>u.free b o e n (by simp)) (fun b o _ e=>u.there b o e (by simp)) u.tups u.frzs u.tbls (fun m' hm=>by
  obtain ⟨o',es',ep',ho',r'⟩:=hm
  rw [ho] at ho'; cases ho'
  exact ⟨_,es',ep',hL,r'⟩) hok I.bare
theorem Inv.call {g':Array GenState} {t':Nat} {d':Drawn} {ch:List Addr} (I:Inv X pins σ H s) (u:Un (frs X.stack) ch H H' s.heap h') (hok:HOk X.prog X.w H' h') (hg:AllBare g')
  (hch:∀ b∈ch,(b∈X.ex∨X.s₀.heap.objs.size≤b)∧b≠X.env.locals∧(∀ x c,X.env.cells.lookup x=some c→c≠b)∧∀ p∈X.pn++pins,p.1≠b):
  Inv X pins σ H' { s with heap:=h',gens:=g',drawn:=d',toks:=t' }:=by
 obtain ⟨m,⟨o,es,ep,ho,r⟩,_⟩:=id I.loc
 obtain ⟨sl,hL⟩:=u.any ho I.free fun z=>(hch _ z).2.1 rfl
 exact I.step (ch:=ch) hch (fun b o hL hb hc e n=>u.keep b o e n (fun z=>(List.mem_cons.mp (I.stkSub b z)).elim hL hb) hc) (fun b o _ _ hc e n=>u.any e n hc) (fun b o hc e n=>u.free b o e n hc) (fun b o hc e=>u.there b o e hc) u.tups u.frzs u.tbls (fun m' hm=>by
  obtain ⟨o',es',ep',ho',r'⟩:=hm
  rw [ho] at ho'; cases ho'
  exact ⟨_,es',ep',hL,r'⟩) hok hg
theorem Inv.turned {t':Nat} {it:Addr} (I:Inv X pins σ H s) (k:∀ b o,b≠it→s.heap.get? b=some o→h'.get? b=some o) (hn:H it=none) (hL:it≠X.env.locals)
  (h1:it∈X.ex∨X.s₀.heap.objs.size≤it) (h2:∀ x c,X.env.cells.lookup x=some c→c≠it) (h3:∀ p∈X.pn++pins,p.1≠it):Inv X pins σ H { s with heap:=h',toks:=t' }:=by
 have nit:∀ b u,H b=some u→b≠it:=fun b u e z=>by rw [z,hn] at e; cases e
 refine I.step (g':=s.gens) (d':=s.drawn) (ch:=[it]) (fun b hb=>?_) (fun b o _ _ hc e _=>k b o (fun z=>hc (by simp [z])) e) (fun b o _ _ hc e _=>⟨o.slots,k b o (fun z=>hc (by simp [z])) e⟩) (fun _ _ _ _ n=>n)
  (fun b o hc e=>⟨o,k b o (fun z=>hc (by simp [z])) e⟩) (fun _ _ e=>e) (fun _ _ _ e=>e) (fun b ps e=>⟨#[],by rw [e]; simp⟩) (fun m hm=>?_) (fun b u e=>?_) I.bare
 ·have e:b=it:=by simpa using hb
  subst e
  exact ⟨h1,hL,h2,h3⟩
 ·obtain ⟨o,es,ep,ho,r⟩:=hm
  exact ⟨o,es,ep,k _ o (Ne.symm hL) ho,r⟩
 ·refine (I.hok b u e).stay (fun c v hc q=>k c v ?_ q) (fun _ q=>q) fun _ _ q=>q
  rcases hc with z | z
  ·rw [z]; exact nit b u e
  ·exact nit c _ z
theorem Inv.tok (I:Inv X pins σ H s) (t:Nat):Inv X pins σ H { s with toks:=t }:=I.un (h':=s.heap) (t':=t) Un.refl I.hok
theorem Inv.kept {t':Nat} (I:Inv X pins σ H s) (k:∀ b u,s.heap.get? b=some u→h'.get? b=some u):Inv X pins σ H { s with heap:=h',toks:=t' }:=I.un (Un.kept k) (I.hok.kept k)
theorem Inv.laid {a:Addr} {o:HO} {t':Nat} (I:Inv X pins σ H s) (k:∀ b u,s.heap.get? b=some u→h'.get? b=some u) (hp:s.heap.objs.size≤a) (new:ObjOk X.prog X.w (upd H a o) h' a o):
  Inv X pins σ (upd H a o) { s with heap:=h',toks:=t' }:=I.un (Un.laid k hp (I.hok.fresh hp)) (I.hok.laid k hp new)
theorem Inv.write {x e:Addr} {o:HO} {t':Nat} (I:Inv X pins σ H s) (mu:Mut (H x)) (he:e=x∨H e=some (.own x)) (k:∀ b u,b≠e→s.heap.get? b=some u→h'.get? b=some u) (heo:∃ u,h'.get? e=some u)
  (new:ObjOk X.prog X.w (upd H x o) h' x o):Inv X pins σ (upd H x o) { s with heap:=h',toks:=t' }:=I.un (Un.write mu he k heo) (I.hok.write mu he k heo new)
theorem Inv.weak {σ':List (Option V)} (I:Inv X pins σ H s) (hl:σ'.length=σ.length) (w:∀ (i:Nat) v,σ'[i]? = some (some v)→σ[i]? = some (some v)):Inv X pins σ' H s:=
 ⟨I.ok,I.os,I.bare,I.base,let ⟨m,hn,hl'⟩:=I.loc; ⟨m,hn,fun i x v e1 e2 e3=>hl' i x v e1 (w i v e2) e3⟩,I.cell,I.free,I.freeC,I.pin,I.hok,hl.trans I.len⟩
theorem Inv.pins_of {pins':List (Addr × Obj)} (I:Inv X pins σ H s) (h:∀ p∈pins',s.heap.get? p.1=some p.2∧H p.1=none∧p.1≠X.env.locals∧p.1∉X.fs∧∀ v,p.2.data≠.cell v):Inv X pins' σ H s:=
 ⟨I.ok,I.os,I.bare,I.base,I.loc,I.cell,I.free,I.freeC,fun p hp=>(List.mem_append.mp hp).elim (fun z=>I.pin p (List.mem_append_left _ z)) (h p),I.hok,I.len⟩
theorem sR {N:List Str} (hN:N.Nodup) {i j:Nat} {x:Str} (a:N[i]? = some x) (b:N[j]? = some x):i=j:=by
 obtain ⟨h1,e1⟩:=List.getElem?_eq_some_iff.mp a
 obtain ⟨h2,e2⟩:=List.getElem?_eq_some_iff.mp b
 exact (List.getElem_inj hN).mp (e1.trans e2.symm)
theorem lT {M:Model} {A:Around} {E:Value→Shared→Prop} {i:Nat} {x:Str} {v:V} {u:Value} {Q:Unit→Shared→Prop} (I:Inv X pins σ H s) (hN:X.N.Nodup) (hi:X.N[i]? = some x) (hx:Loc X.env.scope x) (r:RelV v u)
  (h:∀ s',Inv X pins (σ.set i (some v)) H s'→(∃ a,Heap.SameBut a s.heap s'.heap∧(a=X.env.locals∨X.env.cells.lookup x=some a))→Q () s') (hf:X.fn x=true∨X.env.scope.names.lookup x=some .local:=by first | exact .inl rfl | exact .inr rfl | assumption):wpAny M A (storeName X.env x u) Q E s:=by
 obtain ⟨m,hn,hl⟩:=id I.loc
 have hcls:(X.env.scope.kind == .class || (X.env.scope.kind == .module && X.env.locals != X.env.globals))=false:=by rw [I.ok.kind]; rfl
 have hiσ:i<σ.length:=by rw [I.len]; exact (List.getElem?_eq_some_iff.mp hi).1
 have cne:=I.cne
 have tracked:∀ {a:Addr} {h':Heap},(∃ o,s.heap.get? a=some o∧H a=none)→Heap.SameBut a s.heap h'→HOk X.prog X.w H h':=fun {a h'} ha hs b ob e=>by
  obtain ⟨_,_,hfree⟩:=ha
  refine (I.hok b ob e).stay (fun c w' hc q=>(hs.2 c ?_).trans q) (fun _ q=>q) fun _ _ q=>q
  rintro rfl
  rcases hc with rfl | hc
  ·rw [hfree] at e; cases e
  ·rw [hfree] at hc; cases hc
 rcases hx with hk | hk
 ·refine wpAny_storeName_local hk hn (fun h' hn' hs=>?_) hcls
  obtain ⟨oL,_,_,hoL,_⟩:=id hn
  refine h _ ⟨I.ok,I.os,I.bare,⟨fun b o e n hb hx=>?_,fun b o e n hb hx=>?_,I.base.free,fun b o e hx=>?_,I.base.tups,I.base.frzs,I.base.tbls⟩,⟨_,hn',fun j y v' e1 e2 e3=>?_⟩,fun y c e=>?_,I.free,I.freeC,fun p hp=>?_,tracked ⟨oL,hoL,I.free⟩ hs,by simpa using I.len⟩ ⟨_,hs,.inl rfl⟩
  ·exact (hs.2 b (Nat.ne_of_lt (Nat.lt_of_lt_of_le (Heap.lt_size e) I.ok.above))).trans (I.base.keep b o e n hb hx)
  ·obtain ⟨sl,e1⟩:=I.base.slot b o e n hb hx
   exact ⟨sl,(hs.2 b (Nat.ne_of_lt (Nat.lt_of_lt_of_le (Heap.lt_size e) I.ok.above))).trans e1⟩
  ·obtain ⟨o',e1⟩:=I.base.there b o e hx
   exact ⟨o',(hs.2 b (Nat.ne_of_lt (Nat.lt_of_lt_of_le (Heap.lt_size e) I.ok.above))).trans e1⟩
  ·by_cases hj:j=i
   ·subst hj
    rw [hi] at e1; cases e1
    rw [List.getElem?_set_self hiσ] at e2
    cases e2
    exact ⟨u,r,.inl ⟨hk,by simp⟩⟩
   ·rw [List.getElem?_set_ne (Ne.symm hj)] at e2
    obtain ⟨u',r',q⟩:=hl j y v' e1 e2 e3
    refine ⟨u',r',?_⟩
    rcases q with ⟨k,e⟩ | ⟨k,c,e,z⟩
    ·refine .inl ⟨k,?_⟩
     have:y≠x:=fun e=>hj (sR hN e1 (e ▸ hi))
     simp [this,e]
    ·exact .inr ⟨k,c,e,z.sameBut hs (cne y c e)⟩
  ·obtain ⟨w',z⟩:=I.cell y c e
   exact ⟨w',z.sameBut hs (cne y c e)⟩
  ·obtain ⟨e,n,ne,nf,d⟩:=I.pin p hp
   exact ⟨(hs.2 p.1 ne).trans e,n,ne,nf,d⟩
 ·have hfn:X.fn x=true:=by
   rcases hf with z | z
   ·exact z
   ·rw [z] at hk; cases hk
  obtain ⟨c,hc⟩:=I.ok.has x (.inl hk)
  obtain ⟨w',z⟩:=I.cell x c hc
  refine wpAny_storeName_cell I.ok.kind hk hc z (fun h' hc' hs=>?_)
  obtain ⟨oc,hoc,hocd⟩:=id z
  refine h { s with heap:=h' } ⟨I.ok,I.os,I.bare,⟨fun b o e n hb hx=>?_,fun b o e n hb hx=>?_,I.base.free,fun b o e hx=>?_,I.base.tups,I.base.frzs,I.base.tbls⟩,⟨m,hn.sameBut hs (Ne.symm (cne x c hc)),fun j y v' e1 e2 e3=>?_⟩,fun y c' e=>?_,I.free,I.freeC,fun p hp=>?_,tracked ⟨oc,hoc,I.freeC x c hc⟩ hs,by simpa using I.len⟩ ⟨c,hs,.inr hc⟩
  ·exact (hs.2 b (Nat.ne_of_lt (Nat.lt_of_lt_of_le (Heap.lt_size e) (I.ok.cab x c hfn hc)))).trans (I.base.keep b o e n hb hx)
  ·obtain ⟨sl,e1⟩:=I.base.slot b o e n hb hx
   exact ⟨sl,(hs.2 b (Nat.ne_of_lt (Nat.lt_of_lt_of_le (Heap.lt_size e) (I.ok.cab x c hfn hc)))).trans e1⟩
  ·obtain ⟨o',e1⟩:=I.base.there b o e hx
   exact ⟨o',(hs.2 b (Nat.ne_of_lt (Nat.lt_of_lt_of_le (Heap.lt_size e) (I.ok.cab x c hfn hc)))).trans e1⟩
  ·by_cases hj:j=i
   ·subst hj
    rw [hi] at e1; cases e1
    rw [List.getElem?_set_self hiσ] at e2
    cases e2
    exact ⟨u,r,.inr ⟨.inl hk,c,hc,hc'⟩⟩
   ·rw [List.getElem?_set_ne (Ne.symm hj)] at e2
    obtain ⟨u',r',q⟩:=hl j y v' e1 e2 e3
    refine ⟨u',r',?_⟩
    rcases q with q | ⟨k,c',e,z'⟩
    ·exact .inl q
    ·refine .inr ⟨k,c',e,z'.sameBut hs ?_⟩
     rintro rfl
     exact hj (sR hN e1 (I.ok.inj _ _ _ e hc ▸ hi))
  ·by_cases hcc:c'=c
   ·subst hcc; exact ⟨_,hc'⟩
   ·obtain ⟨w2,z2⟩:=I.cell y c' e
    exact ⟨w2,z2.sameBut hs hcc⟩
  ·obtain ⟨e,n,ne,nf,d⟩:=I.pin p hp
   refine ⟨(hs.2 p.1 ?_).trans e,n,ne,nf,d⟩
   intro q
   rw [q,hoc] at e
   have q':oc=p.2:=Option.some.inj e
   exact d w' (by rw [← q']; exact hocd)
theorem wH {M:Model} {A:Around} {E:Value→Shared→Prop} {i:Nat} {x:Str} {v:V} {u:Value} {Q:Unit→Shared→Prop} (I:Inv X pins σ H s) (hN:X.N.Nodup) (hi:X.N[i]? = some x) (hx:Loc X.env.scope x) (r:RelV v u)
  (h:∀ s',Inv X pins (σ.set i (some v)) H s'→Q () s') (hf:X.fn x=true∨X.env.scope.names.lookup x=some .local:=by first | exact .inl rfl | exact .inr rfl | assumption):wpAny M A (storeName X.env x u) Q E s:=
 lT I hN hi hx r (fun s' I' _=>h s' I') hf
theorem Inv.call' {s':Shared} {ch:List Addr} (I:Inv X pins σ H s) (ho:s'.os=s.os) (u:Un (frs X.stack) ch H H' s.heap s'.heap) (hok:HOk X.prog X.w H' s'.heap) (hg:AllBare s'.gens)
  (hch:∀ b∈ch,(b∈X.ex∨X.s₀.heap.objs.size≤b)∧b≠X.env.locals∧(∀ x c,X.env.cells.lookup x=some c→c≠b)∧∀ p∈X.pn++pins,p.1≠b):Inv X pins σ H' s':=by
 obtain ⟨h',g',d',t',o'⟩:=s'
 have e:o'=s.os:=ho
 subst e
 exact I.call (g':=g') (t':=t') (d':=d') u hok hg hch
end
abbrev XK:=Value→Option Addr→Hp→Prop
abbrev St:=List (Option V)
abbrev VK:=V→Hp→Prop
abbrev TE:=St→Hp→VK→Prop
abbrev TT:=St→Hp→(Bool→Hp→Prop)→Prop
abbrev TA:=St→Hp→(List V→Hp→Prop)→Prop
structure Ends where
 nx:St→Hp→Prop
 rt:VK
 bk:St→Hp→Prop:=fun _ _=>False
 ct:St→Hp→Prop:=fun _ _=>False
abbrev TS:=Ends→St→Hp→Prop
def EP (X:Cx) (pins:List (Addr × Obj)) (σ:St) (Q:VK) (u:Value) (s':Shared):Prop:=∃ v H',Inv X pins σ H' s'∧RelV v u∧Q v H'
def TP (X:Cx) (pins:List (Addr × Obj)) (σ:St) (Q:Bool→Hp→Prop) (b:Bool) (s':Shared):Prop:=∃ H',Inv X pins σ H' s'∧Q b H'
def AP (X:Cx) (pins:List (Addr × Obj)) (σ:St) (Q:List V→Hp→Prop) (us:List Value) (s':Shared):Prop:=∃ vs H',Inv X pins σ H' s'∧Vals vs us∧Q vs H'
def SP (X:Cx) (pins:List (Addr × Obj)) (D:Ends) (f:Flow) (s':Shared):Prop:=
 match f with
 | .next=>∃ σ' H',Inv X pins σ' H' s'∧D.nx σ' H'
 | .brk=>∃ σ' H',Inv X pins σ' H' s'∧D.bk σ' H'
 | .cont=>∃ σ' H',Inv X pins σ' H' s'∧D.ct σ' H'
 | .ret u=>∃ v σ' H',Inv X pins σ' H' s'∧RelV v u∧D.rt v H'
def PE (X:Cx) (e:Expr) (t:TE):Prop:=
 ∀ (pins:List (Addr × Obj)) (s:Shared) (σ:St) (H:Hp) (Q:VK),Inv X pins σ H s→t σ H Q→wpAny (model X.prog X.w) X.A (eval e X.env) (EP X pins σ Q) X.xe s
def PT (X:Cx) (e:Expr) (t:TT):Prop:=
 ∀ (pins:List (Addr × Obj)) (s:Shared) (σ:St) (H:Hp) (Q:Bool→Hp→Prop),Inv X pins σ H s→t σ H Q→wpAny (model X.prog X.w) X.A (isTrue e X.env (eval e X.env)) (TP X pins σ Q) X.xe s
def PW (X:Cx) (e:Expr) (t:TT):Prop:=
 ∀ (yM:Sem Value) (pins:List (Addr × Obj)) (s:Shared) (σ:St) (H:Hp) (Q:Bool→Hp→Prop),Inv X pins σ H s→t σ H Q→wpAny (model X.prog X.w) X.A (isTrue e X.env yM) (TP X pins σ Q) X.xe s
theorem PW.pt {X:Cx} {e:Expr} {t:TT} (h:PW X e t):PT X e t:=h _
def PA (X:Cx) (es:List Expr) (t:TA):Prop:=
 ∀ (pos:Pos) (pins:List (Addr × Obj)) (s:Shared) (σ:St) (H:Hp) (Q:List V→Hp→Prop),Inv X pins σ H s→t σ H Q→wpAny (model X.prog X.w) X.A (spliced (backTo pos (starEach es X.env))) (AP X pins σ Q) X.xe s
def PS (X:Cx) (st:Stmt) (t:TS):Prop:=
 ∀ (pins:List (Addr × Obj)) (s:Shared) (σ:St) (H:Hp) (D:Ends),Inv X pins σ H s→t D σ H→wpAny (model X.prog X.w) X.A (exec st X.env) (SP X pins D) X.xe s
def PSs (X:Cx) (st:List Stmt) (t:TS):Prop:=
 ∀ (pins:List (Addr × Obj)) (s:Shared) (σ:St) (H:Hp) (D:Ends),Inv X pins σ H s→t D σ H→wpAny (model X.prog X.w) X.A (execs st X.env) (SP X pins D) X.xe s
theorem thn {α:Type} {t:Sem α} {Q Q':α→Shared→Prop} {M:Model} {A:Around} {E:Value→Shared→Prop} {s:Shared} (h:wpAny M A t Q E s) (hQ:∀ a s,Q a s→Q' a s):wpAny M A t Q' E s:=wpAny_mono h hQ fun _ _ x=>x
end L2
namespace L2
open PySem PySem.Spec PyProof.Rows
section
variable {X:Cx}
theorem bin {a b:Expr} {ta tb:TE} (ha:PE X a ta) (hb:PE X b tb) {pins:List (Addr × Obj)} {s:Shared} {σ:St} {H:Hp} {R:V→V→Hp→Prop} (I:Inv X pins σ H s) (h:ta σ H fun x H1=>tb σ H1 fun y H2=>R x y H2)
  {α:Type} {Q:α→Shared→Prop} {f:Value→Value→Sem α}
  (hf:∀ v u s2 x y H2,Inv X pins σ H2 s2→RelV x v→RelV y u→R x y H2→wpAny (model X.prog X.w) X.A (f v u) Q X.xe s2):
  wpAny (model X.prog X.w) X.A (eval a X.env) (fun v s₁=>wpAny (model X.prog X.w) X.A (eval b X.env) (fun u s₂=>wpAny (model X.prog X.w) X.A (f v u) Q X.xe s₂) X.xe s₁) X.xe s:=by
 refine thn (ha pins s σ H _ I h) fun v s1 ⟨x,H1,I1,r1,q1⟩=>?_
 refine thn (hb pins s1 σ H1 _ I1 q1) fun u s2 ⟨y,H2,I2,r2,q2⟩=>?_
 exact hf v u s2 x y H2 I2 r1 r2 q2
def eU (i:Nat):TE:=fun σ H Q=>∃ v,σ[i]? = some (some v)∧Q v H
def tC (v:V):TE:=fun _ H Q=>Q v H
theorem yl {i:Nat} {x:Str} {pos:Pos} (hN:X.N[i]? = some x) (hv:Vis X.env.scope x) (hd:(x == ("__debug__":Str))=false:=by decide) (hcd:(x == ("__classdict__":Str))=false:=by decide):PE X (.Name x pos) (eU i):=by
 intro pins s σ H Q I h
 obtain ⟨v,e,h⟩:=h
 obtain ⟨m,hn,hl⟩:=I.loc
 obtain ⟨u,r,l⟩:=hl i x v hN e hv
 have fin:EP X pins σ Q u s:=⟨v,H,I,r,h⟩
 rcases l with ⟨hk,hm⟩ | ⟨hk,c,hc,hcell⟩
 ·exact wpAny_Name (wpAny_loadName_local I.ok.kind hk hn hm fin) hd
 ·rcases hk with hk | hk
  ·exact wpAny_Name (wpAny_loadName_cell I.ok.kind hk hc hcell fin) hd
  ·exact wpAny_Name (wpAny_loadName_free I.ok.kind hk hc hcell fin hcd) hd
theorem jG {i j pos}:PE X (.Constant (.int i) j pos) (tC (.int i)):=fun _ _ _ H _ I h=>wpAny_Constant_int ⟨.int i,H,I.tok _,⟨_,rfl⟩,h⟩
theorem UP {b j pos}:PE X (.Constant (.bool b) j pos) (tC (.bl b)):=fun _ _ _ H _ I h=>Constant_bool ⟨.bl b,H,I,rfl,h⟩
theorem Yt {j pos}:PE X (.Constant .none j pos) (tC .non):=fun _ _ _ H _ I h=>Constant_none ⟨.non,H,I,rfl,h⟩
theorem Yq {x j pos}:PE X (.Constant (.str x) j pos) (tC (.str x)):=fun _ _ _ H _ I h=>Calls.Constant_str ⟨.str x,H,I.tok _,⟨_,rfl⟩,h⟩
def Gl (X:Cx) (x:Str):Prop:=X.env.kindOf x=some .globalImplicit
theorem wn {E:Value→Shared→Prop} {pins:List (Addr × Obj)} {s:Shared} {σ:St} {H:Hp} {x:Str} {u:Value} {pos:Pos} {Q:Value→Shared→Prop} (I:Inv X pins σ H s) (hg:Gl X x) (hm:X.mg x=some u) (h:Q u s)
  (hd:(x == ("__debug__":Str))=false:=by decide):wpAny (model X.prog X.w) X.A (eval (.Name x pos) X.env) Q E s:=
 Calls.Name_function_global I.ok.kind hg (Calls.loadGlobal_global (by rw [I.ok.glob]; exact I.mod.glob.keeps I.bk) hm h) hd
theorem wV {E:Value→Shared→Prop} {pins:List (Addr × Obj)} {s:Shared} {σ:St} {H:Hp} {x:Str} {u:Value} {pos:Pos} {Q:Value→Shared→Prop} (I:Inv X pins σ H s) (hg:Gl X x) (hm:X.mg x=none) (hv:bootBuiltins x=some u) (h:Q u s)
  (hn:x≠"__name__":=by decide) (hd:(x == ("__debug__":Str))=false:=by decide):wpAny (model X.prog X.w) X.A (eval (.Name x pos) X.env) Q E s:=by
 obtain ⟨mb,h1,h2⟩:=I.mod.blt
 exact Calls.Name_function_global I.ok.kind hg (Calls.loadGlobal_builtin (by rw [I.ok.glob]; exact I.mod.glob.keeps I.bk) hm (by rw [I.ok.blt]; exact h1.keeps I.bk) ((h2 x hn).trans hv) h) hd
theorem mT {x:Str} {v:V} {u:Value} {pos:Pos} (hg:Gl X x) (hm:X.mg x=some u) (r:RelV v u) (hd:(x == ("__debug__":Str))=false:=by decide):PE X (.Name x pos) (tC v):=
 fun _ _ _ H _ I h=>wn I hg hm ⟨v,H,I,r,h⟩ hd
theorem dI {x:Str} {v:V} {u:Value} {pos:Pos} (hg:Gl X x) (hm:X.mg x=none) (hv:bootBuiltins x=some u) (r:RelV v u) (hn:x≠"__name__":=by decide) (hd:(x == ("__debug__":Str))=false:=by decide):PE X (.Name x pos) (tC v):=
 fun _ _ _ H _ I h=>wV I hg hm hv ⟨v,H,I,r,h⟩ hn hd
variable {a b:Expr} {ta tb:TE} {pos:Pos}
def PC (X:Cx) (op:CmpOp) (a b:Expr) (t:TE):Prop:=
 ∀ (pins:List (Addr × Obj)) (s:Shared) (σ:St) (H:Hp) (Q:VK),Inv X pins σ H s→t σ H Q→
  wpAny (model X.prog X.w) X.A (eval a X.env) (fun v s₁=>wpAny (model X.prog X.w) X.A (eval b X.env) (fun u s₂=>wpAny (model X.prog X.w) X.A (compareOp op v u) (EP X pins σ Q) X.xe s₂) X.xe s₁) X.xe s
theorem gJ (b:Expr) {op:CmpOp} (h:op≠.In) (h2:op≠.NotIn):behindInMarks op b=false:=by
 have e1:(op == CmpOp.In)=false:=by cases op <;> first | rfl | exact absurd rfl h
 have e2:(op == CmpOp.NotIn)=false:=by cases op <;> first | rfl | exact absurd rfl h2
 cases b <;> simp [behindInMarks,e1,e2]
def UA (ta:TE):TE:=fun σ H Q=>ta σ H fun x H1=>Q (.bl (decide (x=.non))) H1
theorem RelV.none_iff {x:V} {v:Value} (r:RelV x v):(v == Value.none)=decide (x=.non):=by
 cases x with
 | non=>cases r; rfl
 | bl _=>cases r; rfl
 | int _=>obtain ⟨t,rfl⟩:=r; rfl
 | str _=>obtain ⟨t,rfl⟩:=r; rfl
 | byt _=>obtain ⟨t,rfl⟩:=r; rfl
 | flt _=>obtain ⟨t,rfl⟩:=r; rfl
 | ref _=>cases r; rfl
 | ty _=>cases r; rfl
theorem Yy {j pos'} (ha:PE X a ta):PC X .Is a (.Constant .none j pos') (UA ta):=by
 intro pins s σ H Q I h
 refine thn (ha pins s σ H _ I h) fun v s1 ⟨x,H1,I1,r1,q1⟩=>?_
 exact Constant_none (is_none_gen ⟨.bl _,H1,I1,by rw [r1.none_iff]; rfl,q1⟩)
def tB (t:TE):TT:=fun σ H Q=>t σ H fun x H1=>∃ c,x=.bl c∧Q c H1
theorem Yl {op:CmpOp} {t:TE} (h:PC X op a b t) (h1:behindInMarks op b=false:=by first | exact gJ _ (by decide) (by decide) | rfl):PT X (.Compare a [op] [b] pos) (tB t):=by
 intro pins s σ H Q I hw
 refine wpAny_isTrue_Compare1 (thn (h pins s σ H _ I hw) fun v s1 h1=>thn h1 fun u s2 h2=>thn h2 fun c s3 ⟨x,H1,I1,r1,q1⟩=>?_) h1
 obtain ⟨d,rfl,q⟩:=q1
 cases r1
 exact wpAny_truthy_bool ⟨H1,I1,q⟩
theorem Yj {e:Expr} {t:TE} (h:PE X e t) (he:∀ yM,isTrue e X.env yM=(do let v ← yM; standAt e.pos; holding [v] (truthy v)):=by intro _; rfl):PT X e (tB t):=by
 intro pins s σ H Q I hw
 refine isTrue_plain (thn (h pins s σ H _ I hw) fun v s1 ⟨x,H1,I1,r1,q1⟩=>?_) (he _)
 obtain ⟨d,rfl,q⟩:=q1
 cases r1
 exact wpAny_truthy_bool ⟨H1,I1,q⟩
variable {tA tB':TT} {yX:List Expr}
def Rb (t u:TT):TT:=fun σ H Q=>t σ H fun c H1=>if c=true then u σ H1 Q else Q false H1
def tOr (t u:TT):TT:=fun σ H Q=>t σ H fun c H1=>if c=true then Q true H1 else u σ H1 Q
def S4 (t:TT):TT:=fun σ H Q=>t σ H fun c H1=>Q (!c) H1
theorem du (ha:PT X a tA):PW X (.BoolOp .And [a] pos) tA:=by
 intro wh pins s σ H Q I h
 refine isTrue_and (thn (ha pins s σ H Q I h) fun c s1 e=>?_)
 cases c with
 | true=>exact isTrue_and_nil e
 | false=>exact e
theorem Yh (ha:PT X a tA):PW X (.BoolOp .Or [a] pos) tA:=by
 intro wh pins s σ H Q I h
 refine isTrue_or (thn (ha pins s σ H Q I h) fun c s1 e=>?_)
 cases c with
 | false=>exact isTrue_or_nil e
 | true=>exact e
theorem Yi (ha:PT X a tA) (hb:PW X (.BoolOp .And (b::yX) pos) tB'):PW X (.BoolOp .And (a::b::yX) pos) (Rb tA tB'):=by
 intro wh pins s σ H Q I h
 refine isTrue_and (thn (ha pins s σ H _ I h) fun c s1 ⟨H1,I1,q1⟩=>?_)
 cases c with
 | true=>exact hb wh pins s1 σ H1 Q I1 q1
 | false=>exact ⟨H1,I1,q1⟩
theorem UM (ha:PT X a tA) (hb:PW X (.BoolOp .Or (b::yX) pos) tB'):PW X (.BoolOp .Or (a::b::yX) pos) (tOr tA tB'):=by
 intro wh pins s σ H Q I h
 refine isTrue_or (thn (ha pins s σ H _ I h) fun c s1 ⟨H1,I1,q1⟩=>?_)
 cases c with
 | true=>exact ⟨H1,I1,q1⟩
 | false=>exact hb wh pins s1 σ H1 Q I1 q1
theorem Yk (ha:PT X a tA):PT X (.UnaryOp .Not a pos) (S4 tA):=by
 intro pins s σ H Q I h
 exact isTrue_not (ha pins s σ H (fun c H1=>Q (!c) H1) I h)
def UG (ta tb:TE):TE:=fun σ H Q=>ta σ H fun x H1=>∃ c,x=.bl c∧if c=true then tb σ H1 Q else Q (.bl false) H1
def Uw (ta:TE):TE:=fun σ H Q=>ta σ H fun x H1=>∃ c,x=.bl c∧Q (.bl (!c)) H1
theorem Yr {op} {t:TE} (h:PE X a t):PE X (.BoolOp op [a] pos) t:=fun pins s σ H Q I hw=>BoolOp_one (h pins s σ H Q I hw)
theorem Yv (ha:PE X a ta) (hb:PE X (.BoolOp .And (b::yX) pos) tb):PE X (.BoolOp .And (a::b::yX) pos) (UG ta tb):=by
 intro pins s σ H Q I h
 refine BoolOp_and (thn (ha pins s σ H _ I h) fun v s1 ⟨x,H1,I1,r1,q1⟩=>?_)
 obtain ⟨c,rfl,q1⟩:=q1
 cases r1
 refine wpAny_truthy_bool ?_
 cases c with
 | true=>exact hb pins s1 σ H1 Q I1 q1
 | false=>exact ⟨.bl false,H1,I1,rfl,q1⟩
theorem Ys (ha:PE X a ta):PE X (.UnaryOp .Not a pos) (Uw ta):=by
 intro pins s σ H Q I h
 refine UnaryOp_ (thn (ha pins s σ H _ I h) fun v s1 ⟨x,H1,I1,r1,q1⟩=>?_)
 obtain ⟨c,rfl,q1⟩:=q1
 cases r1
 exact not_of (wpAny_truthy_bool ⟨.bl (!c),H1,I1,rfl,q1⟩)
end
end L2
namespace L2
open PySem PySem.Spec PyProof.Rows
def SqL (K:PySem.W.Frag) (H:Hp) (a:Addr) (xs:List V):Prop:=
 Rd H a (.lst xs)∨
  ∃ (o:Obj) (its:Array Value) (n:Nat),K.lookup a=some o∧o.cls=.type "list"∧o.dict=none∧o.data=.seq its n∧its.size≤sizeLine∧Vals xs its.toList
def SqT (K:PySem.W.Frag) (H:Hp) (a:Addr) (xs:List V):Prop:=
 Rd H a (.tup xs)∨
  ∃ (o:Obj) (its:Array Value) (n:Nat),K.lookup a=some o∧o.cls=.type "tuple"∧o.data=.seq its n∧its.size≤sizeLine∧Vals xs its.toList
def RX:Value→Option V
 | .none=>some .non
 | .bool b=>some (.bl b)
 | .int i _=>some (.int i)
 | .str x _=>some (.str x)
 | .bytes b _=>some (.byt b)
 | .float b _=>some (.flt b)
 | .ref a=>some (.ref a)
 | .type n=>some (.ty n)
 | _=>none
theorem RelV.abs {x:V} {u:Value} (r:RelV x u):RX u=some x:=by
 cases x with
 | non=>cases r; rfl
 | bl _=>cases r; rfl
 | int _=>obtain ⟨t,rfl⟩:=r; rfl
 | str _=>obtain ⟨t,rfl⟩:=r; rfl
 | byt _=>obtain ⟨t,rfl⟩:=r; rfl
 | flt _=>obtain ⟨t,rfl⟩:=r; rfl
 | ref _=>cases r; rfl
 | ty _=>cases r; rfl
theorem RelV.inj {x y:V} {u:Value} (r:RelV x u) (q:RelV y u):x=y:=Option.some.inj (r.abs.symm.trans q.abs)
theorem Vals.inj:∀ {xs ys:List V} {us:List Value},Vals xs us→Vals ys us→xs=ys
 | _,_,_,.nil,.nil=>rfl
 | _,_,_,.cons r t,.cons r' t'=>by rw [r.inj r',Vals.inj t t']
section
variable {X:Cx} {pins:List (Addr × Obj)} {σ:St} {H:Hp} {s:Shared} {a:Addr} {xs ys:List V}
theorem SqL.of {K:PySem.W.Frag} (h:H a=some (.lst xs)):SqL K H a xs:=.inl (.inl h)
theorem SqT.of {K:PySem.W.Frag} (h:H a=some (.tup xs)):SqT K H a xs:=.inl (.inl h)
theorem Inv.list (I:Inv X pins σ H s) (h:SqL X.K H a xs):∃ its:List Value,Vals xs its∧PlainL s.heap a its.toArray∧xs.length≤sizeLine:=by
 rcases h with h | ⟨o,its,n,hk,hc,hd,hs,hz,r⟩
 ·obtain ⟨z,its,n,r,e⟩:=h.ok I.hok
  exact ⟨its,r,⟨_,n,e,rfl,rfl,rfl⟩,z⟩
 ·refine ⟨its.toList,r,⟨o,n,I.kIn a o hk,hc,hd,by simpa using hs⟩,?_⟩
  have e:=r.length
  simp only [Array.length_toList] at e
  omega
theorem Inv.tuple (I:Inv X pins σ H s) (h:SqT X.K H a xs):∃ its:List Value,Vals xs its∧IsTup s.heap a its.toArray∧xs.length≤sizeLine:=by
 rcases h with h | ⟨o,its,n,hk,hc,hs,hz,r⟩
 ·obtain ⟨z,its,r,p⟩:=h.ok I.hok
  exact ⟨its,r,p,z⟩
 ·refine ⟨its.toList,r,⟨o,I.kIn a o hk,hc,n,by simpa using hs⟩,?_⟩
  have e:=r.length
  simp only [Array.length_toList] at e
  omega
theorem Inv.list_inj (I:Inv X pins σ H s) (h:SqL X.K H a xs) (h':SqL X.K H a ys):xs=ys:=by
 obtain ⟨its,r,⟨o,n,e,_,_,d⟩,_⟩:=I.list h
 obtain ⟨its',r',⟨o',n',e',_,_,d'⟩,_⟩:=I.list h'
 rw [e] at e'; cases e'
 rw [d] at d'
 injection d' with d1 _
 have:its=its':=by simpa using congrArg Array.toList d1
 subst this
 exact r.inj r'
end
abbrev Cx.wish (X:Cx) (E:Value→Shared→Prop):Cx:={ X with xe:=E }
abbrev Cx.nox (X:Cx):Cx:=X.wish fun _ _=>False
theorem Cx.Ok.wish {X:Cx} (ok:X.Ok) (E:Value→Shared→Prop):(X.wish E).Ok:=
 ⟨ok.mod,ok.kind,ok.glob,ok.blt,ok.above,ok.inj,ok.has,ok.cab,ok.hd,ok.frames,ok.stk,ok.exf,ok.bs,ok.bsz,ok.noex,ok.exfs,ok.funs,ok.frf⟩
theorem Cx.Ok.unwish {X:Cx} {E:Value→Shared→Prop} (ok:(X.wish E).Ok):X.Ok:=
 ⟨ok.mod,ok.kind,ok.glob,ok.blt,ok.above,ok.inj,ok.has,ok.cab,ok.hd,ok.frames,ok.stk,ok.exf,ok.bs,ok.bsz,ok.noex,ok.exfs,ok.funs,ok.frf⟩
section
variable {X:Cx} {pins:List (Addr × Obj)} {σ:St} {H:Hp} {s:Shared} {E:Value→Shared→Prop}
theorem Inv.wish (I:Inv X pins σ H s) (E:Value→Shared→Prop):Inv (X.wish E) pins σ H s:=⟨I.ok.wish E,I.os,I.bare,I.base,I.loc,I.cell,I.free,I.freeC,I.pin,I.hok,I.len⟩
theorem Inv.unwish (I:Inv (X.wish E) pins σ H s):Inv X pins σ H s:=⟨I.ok.unwish,I.os,I.bare,I.base,I.loc,I.cell,I.free,I.freeC,I.pin,I.hok,I.len⟩
theorem SP.unwish {D:Ends} {f:Flow} {s':Shared} (h:SP (X.wish E) pins D f s'):SP X pins D f s':=by
 cases f with
 | next=>obtain ⟨σ',H',I,q⟩:=h; exact ⟨σ',H',I.unwish,q⟩
 | brk=>obtain ⟨σ',H',I,q⟩:=h; exact ⟨σ',H',I.unwish,q⟩
 | cont=>obtain ⟨σ',H',I,q⟩:=h; exact ⟨σ',H',I.unwish,q⟩
 | ret u=>obtain ⟨v,σ',H',I,r,q⟩:=h; exact ⟨v,σ',H',I.unwish,r,q⟩
theorem PE.nox {e:Expr} {t:TE} (h:PE X.nox e t):PE X e t:=fun pins s σ H Q I hw=>
 wpAny_mono (h pins s σ H Q (I.wish _) hw) (fun _ _ ⟨v,H',I',r,q⟩=>⟨v,H',I'.unwish,r,q⟩) fun _ _ z=>False.elim z
theorem PT.nox {e:Expr} {t:TT} (h:PT X.nox e t):PT X e t:=fun pins s σ H Q I hw=>
 wpAny_mono (h pins s σ H Q (I.wish _) hw) (fun _ _ ⟨H',I',q⟩=>⟨H',I'.unwish,q⟩) fun _ _ z=>False.elim z
theorem PSs.nox {st:List Stmt} {t:TS} (h:PSs X.nox st t):PSs X st t:=fun pins s σ H D I hw=>
 wpAny_mono (h pins s σ H D (I.wish _) hw) (fun _ _ q=>q.unwish) fun _ _ z=>False.elim z
end
section
variable {X:Cx} {st:Stmt} {yX:List Stmt} {t u:TS} {e:Expr} {te:TE} {pos:Pos}
def Uy:TS:=fun D σ H=>D.nx σ H
def S2 (t u:TS):TS:=fun D σ H=>t { D with nx:=u D } σ H
theorem dz:PSs X [] Uy:=fun _ _ σ H _ I h=>wpAny_execs_nil ⟨σ,H,I,h⟩
theorem p9 (h1:PS X st t) (h2:PSs X yX u):PSs X (st::yX) (S2 t u):=by
 intro pins s σ H D I h
 refine wpAny_execs_cons (thn (h1 pins s σ H { D with nx:=u D } I h) fun f s1 q=>?_)
 cases f with
 | next=>
  obtain ⟨σ',H',I',q⟩:=q
  exact h2 pins s1 σ' H' D I' q
 | ret v=>exact q
 | brk=>exact q
 | cont=>exact q
theorem wd (h1:PS X st t):PSs X [st] t:=by
 intro pins s σ H D I h
 refine wpAny_execs_cons (thn (h1 pins s σ H D I h) fun f s1 q=>?_)
 cases f with
 | next=>exact wpAny_execs_nil q
 | ret v=>exact q
 | brk=>exact q
 | cont=>exact q
theorem Inv.quiet {pins:List (Addr × Obj)} {σ:St} {H:Hp} {s:Shared} (I:Inv X pins σ H s):interactive X.env=false:=by simp [interactive,I.ok.kind]
def UB (te:TE):TS:=fun D σ H=>te σ H fun _ H1=>D.nx σ H1
theorem wg (he:PE X e te) (hs:swapsWith e none pos.line X.env=pure false:=by rfl):PS X (.Expr e pos) (UB te):=by
 intro pins s σ H D I h
 exact wpAny_Expr_any (thn (he pins s σ H _ I h) fun v s1 ⟨x,H1,I1,r1,q1⟩=>⟨σ,H1,I1,q1⟩) I.quiet hs
def S3 (te:TE):TS:=fun D σ H=>te σ H D.rt
theorem qG (he:PE X e te):PS X (.Return (some e) pos) (S3 te):=by
 intro pins s σ H D I h
 exact wpAny_Return_some (thn (he pins s σ H _ I h) fun v s1 ⟨x,H1,I1,r1,q1⟩=>⟨x,σ,H1,I1,r1,q1⟩)
def S6 (c:TT) (t u:TS):TS:=fun D σ H=>c σ H fun b H1=>if b=true then t D σ H1 else u D σ H1
theorem UN {c:Expr} {a b:List Stmt} {tc:TT} (hc:PT X c tc) (ha:PSs X a t) (hb:PSs X b u):PS X (.If c a b pos) (S6 tc t u):=by
 intro pins s σ H D I h
 refine wpAny_If (thn (hc pins s σ H _ I h) fun d s1 ⟨H1,I1,q1⟩=>?_)
 cases d with
 | true=>exact ha pins s1 σ H1 D I1 q1
 | false=>exact hb pins s1 σ H1 D I1 q1
def Z8:TS:=fun _ _ _=>False
theorem jy:PS X st Z8:=fun _ _ _ _ _ _ h=>h.elim
end
abbrev TG:=V→St→Hp→(St→Hp→Prop)→Prop
abbrev TGs:=List V→St→Hp→(St→Hp→Prop)→Prop
def PG (X:Cx) (target:Expr) (t:TG):Prop:=
 ∀ (pins:List (Addr × Obj)) (s:Shared) (σ:St) (H:Hp) (v:V) (u:Value) (Q:St→Hp→Prop),Inv X pins σ H s→RelV v u→t v σ H Q→
  wpAny (model X.prog X.w) X.A (assign target X.env u) (fun _ s'=>∃ σ' H',Inv X pins σ' H' s'∧Q σ' H') X.xe s
def PGs (X:Cx) (ts:List Expr) (t:TGs):Prop:=
 ∀ (pins:List (Addr × Obj)) (s:Shared) (σ:St) (H:Hp) (vs:List V) (us:List Value) (Q:St→Hp→Prop),Inv X pins σ H s→Vals vs us→t vs σ H Q→
  wpAny (model X.prog X.w) X.A (assignInOrder ((assignEach ts X.env).map (·.2)) us) (fun _ s'=>∃ σ' H',Inv X pins σ' H' s'∧Q σ' H') X.xe s
abbrev f_:=V→V→V→Hp→(Hp→Prop)→Prop
def Ut (X:Cx) (t:f_):Prop:=
 ∀ (pins:List (Addr × Obj)) (s:Shared) (σ:St) (H:Hp) (o i v:V) (ov iv u:Value) (Q:Hp→Prop),Inv X pins σ H s→RelV o ov→RelV i iv→RelV v u→t o i v H Q→
  wpAny (model X.prog X.w) X.A (setItem ov iv u) (fun _ s'=>∃ H',Inv X pins σ H' s'∧Q H') X.xe s
abbrev TIp:=V→V→Hp→VK→Prop
def PIp (X:Cx) (op:Operator) (t:TIp):Prop:=
 ∀ (pins:List (Addr × Obj)) (s:Shared) (σ:St) (H:Hp) (x y:V) (v u:Value) (Q:VK),Inv X pins σ H s→RelV x v→RelV y u→t x y H Q→
  wpAny (model X.prog X.w) X.A (inplaceOp op v u) (EP X pins σ Q) X.xe s
section
variable {X:Cx} {pos:Pos}
def oJ (i:Nat):TG:=fun v σ H Q=>Q (σ.set i (some v)) H
theorem ya {i:Nat} {x:Str} (hN:X.N.Nodup) (hi:X.N[i]? = some x) (hx:Loc X.env.scope x) (hf:X.fn x=true∨X.env.scope.names.lookup x=some .local:=by first | exact .inl rfl | exact .inr rfl | assumption):PG X (.Name x pos) (oJ i):=by
 intro pins s σ H v u Q I r h
 exact wpAny_assign_Name (wH I hN hi hx r (fun s' I'=>⟨_,H,I',h⟩) hf)
def Sb:TGs:=fun vs σ H Q=>vs=[]∧Q σ H
def g8 (t:TG) (u:TGs):TGs:=fun vs σ H Q=>∃ v r,vs=v::r∧t v σ H fun σ' H'=>u r σ' H' Q
theorem tR:PGs X [] Sb:=by
 intro pins s σ H vs us Q I r h
 obtain ⟨e,h⟩:=h
 subst e
 cases r
 exact assignInOrder_nil ⟨σ,H,I,h⟩
theorem yY {e:Expr} {es:List Expr} {t:TG} {u:TGs} (h1:PG X e t) (h2:PGs X es u)
  (hs:(assignEach (e::es) X.env).map (·.2)=assign e X.env::(assignEach es X.env).map (·.2):=by rfl):PGs X (e::es) (g8 t u):=by
 intro pins s σ H vs us Q I r h
 obtain ⟨v,vr,e1,h⟩:=h
 subst e1
 cases r with
 | cons r rr=>
  rw [hs]
  refine assignInOrder_cons (thn (h1 pins s σ H _ _ _ I r h) fun _ s1 ⟨σ1,H1,I1,q1⟩=>?_)
  exact h2 pins s1 σ1 H1 _ _ Q I1 rr q1
def Sa (K:PySem.W.Frag) (n:Nat) (t:TGs):TG:=fun v σ H Q=>∃ a xs,v=.ref a∧SqT K H a xs∧xs.length=n∧t xs σ H Q
theorem qJ {es:List Expr} {k:Nat} {t:TGs} {n:Nat} (hc:X.calm=true) (h:PGs X es t)
  (hn:(assignEach es X.env).length=n:=by rfl) (hst:(assignEach es X.env).findIdx? (·.1)=none:=by rfl):PG X (.Tuple es k pos) (Sa X.K n t):=by
 intro pins s σ H v u Q I r hw
 obtain ⟨a,xs,e1,hq,hl,hw⟩:=hw
 subst e1
 cases r
 obtain ⟨its,rv,ht,hz⟩:=I.tuple hq
 refine assign_Tuple_tuple (I.ok.hd hc) ht (by simp [hn,← hl,rv.length]) hst fun h' hx=>?_
 have I1:Inv X pins σ H { s with heap:=h' }:=I.kept (t':=s.toks) fun b o e=>hx b o (Nat.ne_of_lt (Heap.lt_size e)) e
 exact h pins _ σ H xs _ Q I1 (by simpa using rv) hw
def RB (to ti:TE) (t:f_):TG:=fun v σ H Q=>to σ H fun o H1=>ti σ H1 fun i H2=>t o i v H2 fun H3=>Q σ H3
theorem Yp {o i:Expr} {to ti:TE} {t:f_} (ho:PE X o to) (hi:PE X i ti) (hs:Ut X t)
  (ha:∀ v,assign (.Subscript o i pos) X.env v=(do
   let ov ← holding [v] (eval o X.env)
   let iv ← holding [v,ov] (eval i X.env)
   standAt pos
   holding [v,ov,iv] (setItem ov iv v)
   release [v,ov,iv] []):=by intro _; rfl):PG X (.Subscript o i pos) (RB to ti t):=by
 intro pins s σ H v u Q I r h
 rw [ha]
 refine wpAny_bind (wpAny_holding (thn (ho pins s σ H _ I h) fun ov s1 ⟨x,H1,I1,r1,q1⟩=>?_))
 refine wpAny_bind (wpAny_holding (thn (hi pins s1 σ H1 _ I1 q1) fun iv s2 ⟨y,H2,I2,r2,q2⟩=>?_))
 refine wpAny_bind (wpAny_standAt (wpAny_bind (wpAny_holding (thn (hs pins s2 σ H2 x y v ov iv u _ I2 r1 r2 r q2) fun _ s3 ⟨H3,I3,q3⟩=>?_))))
 exact wpAny_release ⟨σ,H3,I3,q3⟩
def UF (te:TE) (g:TG):TS:=fun D σ H=>te σ H fun x H1=>g x σ H1 D.nx
theorem jz {tg e:Expr} {te:TE} {g:TG} (he:PE X e te) (hg:PG X tg g) (hs:swapsWithSole [tg] e pos.line X.env=pure false:=by rfl) (hw:swappedStores [tg] e X.env=pure none:=by rfl)
  (h1:(assignEach [tg] X.env).map (·.2)=[assign tg X.env]:=by rfl):PS X (.Assign [tg] e pos) (UF te g):=by
 intro pins s σ H D I h
 refine wpAny_Assign_stores (thn (he pins s σ H _ I h) fun v s1 ⟨x,H1,I1,r1,q1⟩=>?_) hs hw
 rw [h1]
 exact thn (hg pins s1 σ H1 x v _ I1 r1 q1) fun _ s2 q=>q
theorem jw {i:Nat} {x:Str} {e:Expr} {te:TE} {pos':Pos} (hN:X.N.Nodup) (hi:X.N[i]? = some x) (hx:Loc X.env.scope x) (he:PE X e te) (hs:swapsWith e (some (.Name x pos')) pos.line X.env=pure false:=by rfl) (hf:X.fn x=true∨X.env.scope.names.lookup x=some .local:=by first | exact .inl rfl | exact .inr rfl | assumption):
  PS X (.Assign [.Name x pos'] e pos) (UF te (oJ i)):=by
 intro pins s σ H D I h
 refine wpAny_Assign_Name (thn (he pins s σ H _ I h) fun v s1 ⟨y,H1,I1,r1,q1⟩=>?_) hs
 exact wH I1 hN hi hx r1 (fun s2 I2=>⟨_,H1,I2,q1⟩) hf
def Ra (i:Nat) (te:TE) (ti:TIp):TS:=fun D σ H=>∃ x,σ[i]? = some (some x)∧te σ H fun y H1=>ti x y H1 fun z H2=>D.nx (σ.set i (some z)) H2
theorem Ym {i:Nat} {x:Str} {e:Expr} {te:TE} {op:Operator} {ti:TIp} {pos':Pos} (hN:X.N.Nodup) (hi:X.N[i]? = some x) (hx:Loc X.env.scope x) (he:PE X e te) (ho:PIp X op ti) (hf:X.fn x=true∨X.env.scope.names.lookup x=some .local:=by first | exact .inl rfl | exact .inr rfl | assumption):
  PS X (.AugAssign (.Name x pos') op e pos) (Ra i te ti):=by
 intro pins s σ H D I h
 obtain ⟨v,e1,h⟩:=h
 obtain ⟨m,hn,hl⟩:=I.loc
 have vis:Vis X.env.scope x:=by rcases hx with k | k; exact .inl k; exact .inr (.inl k)
 obtain ⟨u,r,l⟩:=hl i x v hi e1 vis
 refine wpAny_AugAssign_Name ?_
 have go:wpAny (model X.prog X.w) X.A (eval e X.env) (fun w s₂=>wpAny (model X.prog X.w) X.A (inplaceOp op u w) (fun r s₃=>wpAny (model X.prog X.w) X.A (storeName X.env x r) (fun _=>SP X pins D .next) X.xe s₃) X.xe s₂) X.xe s:=by
  refine thn (he pins s σ H _ I h) fun w s1 ⟨y,H1,I1,r1,q1⟩=>?_
  refine thn (ho pins s1 σ H1 v y u w _ I1 r r1 q1) fun z s2 ⟨zv,H2,I2,r2,q2⟩=>?_
  exact wH I2 hN hi hx r2 (fun s3 I3=>⟨_,H2,I3,q2⟩) hf
 rcases l with ⟨hk,hm⟩ | ⟨hk,c,hc,hcell⟩
 ·exact wpAny_loadName_local I.ok.kind hk hn hm go
 ·rcases hk with hk | hk
  ·exact wpAny_loadName_cell I.ok.kind hk hc hcell go
  ·rcases hx with k | k
   ·have:X.env.scope.names.lookup x=some .free:=hk
    rw [k] at this; cases this
   ·have:X.env.scope.names.lookup x=some .free:=hk
    rw [k] at this; cases this
def UE (to ti te:TE) (tget:V→V→Hp→VK→Prop) (tip:TIp) (tset:f_):TS:=fun D σ H=>to σ H fun o H1=>ti σ H1 fun i H2=>tget o i H2 fun x H3=>te σ H3 fun y H4=>tip x y H4 fun z H5=>tset o i z H5 fun H6=>D.nx σ H6
def SW (X:Cx) (t:V→V→Hp→VK→Prop):Prop:=
 ∀ (pins:List (Addr × Obj)) (s:Shared) (σ:St) (H:Hp) (o i:V) (ov iv:Value) (Q:VK),Inv X pins σ H s→RelV o ov→RelV i iv→t o i H Q→
  wpAny (model X.prog X.w) X.A (getItem ov iv) (EP X pins σ Q) X.xe s
theorem dA {o i e:Expr} {to ti te:TE} {tget:V→V→Hp→VK→Prop} {tip:TIp} {tset:f_} {op:Operator} {tpos:Pos} (ho:PE X o to) (hi:PE X i ti) (hg:SW X tget) (he:PE X e te) (hp:PIp X op tip) (hs:Ut X tset)
  (ha:∀ ov iv new,augStore i ov iv new=(do holding [new,ov,iv] (setItem ov iv new); release [new,ov,iv] []; pure .next):=by intros; rfl):PS X (.AugAssign (.Subscript o i tpos) op e pos) (UE to ti te tget tip tset):=by
 intro pins s σ H D I h
 refine wpAny_AugAssign_SubscriptAny (thn (ho pins s σ H _ I h) fun ov s1 ⟨x1,H1,I1,r1,q1⟩=>?_) ha
 refine thn (hi pins s1 σ H1 _ I1 q1) fun iv s2 ⟨x2,H2,I2,r2,q2⟩=>?_
 refine thn (hg pins s2 σ H2 x1 x2 ov iv _ I2 r1 r2 q2) fun old s3 ⟨x3,H3,I3,r3,q3⟩=>?_
 refine thn (he pins s3 σ H3 _ I3 q3) fun v s4 ⟨x4,H4,I4,r4,q4⟩=>?_
 refine thn (hp pins s4 σ H4 x3 x4 old v _ I4 r3 r4 q4) fun new s5 ⟨x5,H5,I5,r5,q5⟩=>?_
 exact thn (hs pins s5 σ H5 x1 x2 x5 ov iv new _ I5 r1 r2 r5 q5) fun _ s6 ⟨H6,I6,q6⟩=>⟨σ,H6,I6,q6⟩
def ipI (f:Int→Int→Int):TIp:=fun x y H Q=>∃ i j,x=.int i∧y=.int j∧Q (.int (f i j)) H
theorem gW:PIp X .Add (ipI fun i j=>i+j):=by
 intro pins s σ H x y v u Q I r1 r2 h
 obtain ⟨i,j,e1,e2,q⟩:=h
 subst e1; subst e2
 obtain ⟨t,rfl⟩:=r1
 obtain ⟨t',rfl⟩:=r2
 exact iadd_int ⟨.int _,H,I.tok _,⟨_,rfl⟩,q⟩
theorem VU:PIp X .Sub (ipI fun i j=>i - j):=by
 intro pins s σ H x y v u Q I r1 r2 h
 obtain ⟨i,j,e1,e2,q⟩:=h
 subst e1; subst e2
 obtain ⟨t,rfl⟩:=r1
 obtain ⟨t',rfl⟩:=r2
 exact isub_int ⟨.int _,H,I.tok _,⟨_,rfl⟩,q⟩
end
section
variable {X:Cx} {pos:Pos}
def Z7 (c:TT) (tb:TS):TS:=fun D σ H=>∃ W:Nat→St→Hp→Prop,(∃ m,W m σ H)∧∀ m σ H,W m σ H→
 c σ H fun b H1=>if b=true then ∃ N:St→Hp→Prop,(∀ σ' H',N σ' H'→∃ m',m'<m∧W m' σ' H')∧tb { D with nx:=N,ct:=N,bk:=D.nx } σ H1 else D.nx σ H1
theorem ju {c:Expr} {body:List Stmt} {tc:TT} {tb:TS} (hp:PassesOwn (model X.prog X.w) X.A X.env X.xe) (hc:PT X c tc) (hb:PSs X body tb):PS X (.While c body [] pos) (Z7 tc tb):=by
 intro pins s σ H D I h
 obtain ⟨W,⟨m0,w0⟩,turn⟩:=h
 refine wpAny_While (codeAny_whileLoop (fun n s'=>∃ σ' H',Inv X pins σ' H' s'∧W n σ' H') ?_ m0 ⟨σ,H,I,w0⟩)
 rintro n s1 ⟨σ1,H1,I1,w1⟩
 refine wpAny_passesOwn hp (thn (hc pins s1 σ1 H1 _ I1 (turn n σ1 H1 w1)) fun b s2 ⟨H2,I2,q2⟩=>?_)
 cases b with
 | true=>
  obtain ⟨N,hN,q2⟩:=q2
  rw [if_pos rfl]
  refine wpAny_passesOwn hp (thn (hb pins s2 σ1 H2 _ I2 q2) fun f s3 q3=>?_)
  cases f with
  | next=>
   obtain ⟨σ3,H3,I3,n3⟩:=q3
   obtain ⟨m',hm,w3⟩:=hN σ3 H3 n3
   exact ⟨m',hm,σ3,H3,I3,w3⟩
  | cont=>
   obtain ⟨σ3,H3,I3,n3⟩:=q3
   obtain ⟨m',hm,w3⟩:=hN σ3 H3 n3
   exact ⟨m',hm,σ3,H3,I3,w3⟩
  | brk=>exact q3
  | ret v=>exact q3
 | false=>
  rw [if_neg Bool.false_ne_true]
  exact wpAny_execs_nil ⟨σ1,H2,I2,q2⟩
end
structure It where
 go:Nat→Hp→Prop
 yld:Nat→Hp→V→Hp→Prop
 stop:Nat→Hp→Prop
def vt (X:Cx) (pins:List (Addr × Obj)) (H:Hp) (b:Addr):Prop:=
 H b=none∧b≠X.env.locals∧b∉X.fs∧(b∈X.ex∨X.s₀.heap.objs.size≤b)∧(∀ x c,X.env.cells.lookup x=some c→c≠b)∧∀ p∈X.pn++pins,p.1≠b
theorem Inv.fpOk {X:Cx} {pins:List (Addr × Obj)} {σ:St} {H H':Hp} {s:Shared} {b:Addr} (I:Inv X pins σ H s) (hb:s.heap.objs.size≤b) (hn:H' b=none):vt X pins H' b:=by
 refine ⟨hn,Nat.ne_of_gt (Nat.lt_of_lt_of_le I.lt hb),I.nofs hb,.inr (Nat.le_trans I.sz hb),fun x c e z=>?_,fun p hp z=>?_⟩
 ·obtain ⟨v,q⟩:=I.cell x c e
  exact absurd (Nat.lt_of_lt_of_le q.lt (by rw [z]; exact hb)) (Nat.lt_irrefl _)
 ·exact absurd (Nat.lt_of_lt_of_le (Heap.lt_size (I.pin p hp).1) (by rw [z]; exact hb)) (Nat.lt_irrefl _)
structure mv (P:Program) (w:World) (K:PySem.W.Frag) (tg:Expr) (J:It) (fp:List Addr) (it:Addr) (tn:Nat→Heap→Prop):Prop where
 mem:it∈fp
 obj:∀ i h,tn i h→∀ b∈fp,∃ o,h.get? b=some o∧∀ v,o.data≠.cell v
 keep:∀ i h h',tn i h→(∀ b∈fp,∀ o,h.get? b=some o→h'.get? b=some o)→tn i h'
 item:∀ (X:Cx),X.prog=P→X.w=w→X.K=K→X.calm=true→∀ (i:Nat) (pins:List (Addr × Obj)) (s:Shared) (σ:St) (H:Hp) (E:Value→Shared→Prop),Inv X pins σ H s→(∀ b∈fp,vt X pins H b)→tn i s.heap→J.go i H→
  wpAny (model P w) X.A (pyNext (.ref it)) (fun r s1=>∃ u,r=some u∧
   wpAny (model P w) X.A (letOwnedTupleGo tg (.ref it) u) (fun _ s2=>∃ x H',Inv X pins σ H' s2∧RelV x u∧J.yld i H x H'∧tn (i+1) s2.heap∧∀ b∈fp,H' b=none) E s1) E s
 done:∀ (X:Cx),X.prog=P→X.w=w→X.K=K→X.calm=true→∀ (i:Nat) (pins:List (Addr × Obj)) (s:Shared) (σ:St) (H:Hp) (E:Value→Shared→Prop),Inv X pins σ H s→(∀ b∈fp,vt X pins H b)→tn i s.heap→J.stop i H→
  wpAny (model P w) X.A (pyNext (.ref it)) (fun r s1=>r=none∧Inv X pins σ H s1) E s
 self:∀ (A:Around) (i:Nat) (s:Shared) (Q:Value→Shared→Prop) (E:Value→Shared→Prop),tn i s.heap→Q (.ref it) s→wpAny (model P w) A (pyIter (.ref it)) Q E s
abbrev TI:=St→Hp→(It→Hp→Prop)→Prop
def PIE (X:Cx) (pins:List (Addr × Obj)) (σ:St) (tg:Expr) (R:It→Hp→Prop) (itv:Value) (s2:Shared):Prop:=
 ∃ (it:Addr) (fp:List Addr) (tn:Nat→Heap→Prop) (J:It) (H':Hp),itv=.ref it∧Inv X pins σ H' s2∧mv X.prog X.w X.K tg J fp it tn∧tn 0 s2.heap∧(∀ b∈fp,vt X pins H' b)∧R J H'
def PI (X:Cx) (tg iter:Expr) (wi:TI):Prop:=
 ∀ (pins:List (Addr × Obj)) (s:Shared) (σ:St) (H:Hp) (R:It→Hp→Prop),Inv X pins σ H s→wi σ H R→
  wpAny (model X.prog X.w) X.A (eval iter X.env) (fun v s1=>wpAny (model X.prog X.w) X.A (pyIter v) (PIE X pins σ tg R) X.xe s1) X.xe s
theorem gY {M:Model} {A:Around} {E:Value→Shared→Prop} {s:Shared} {tg:Expr} {it:Addr} {u:Value} {o:Obj} {n:String} {vs:Array Value} {Q:Unit→Shared→Prop} (ho:s.heap.get? it=some o) (hc:o.cls=.type n) (hd:o.data=.fields vs)
  (hn:["enumerate","zip","dict_itemiterator","dict_reverseitemiterator","odict_iterator","itertools.zip_longest","itertools.pairwise"].contains n=false) (hQ:Q () s):wpAny M A (letOwnedTupleGo tg (.ref it) u) Q E s:=by
 unfold letOwnedTupleGo
 cases tg <;> first
  | exact wpAny_pure hQ
  | (cases u <;> first
    | exact wpAny_pure hQ
    | (refine wpAny_bind (wpAny_load ho ?_)
       rw [hc,hd]
       show wpAny M A (if (["enumerate","zip","dict_itemiterator","dict_reverseitemiterator","odict_iterator","itertools.zip_longest","itertools.pairwise"].contains n && vs[0]? == some (rawInt _))=true then _ else _) Q E s
       rw [if_neg (by intro h; rw [hn,Bool.false_and] at h; cases h)]
       exact wpAny_pure hQ))
def Itl (K:PySem.W.Frag) (a:Addr):It:=
 ⟨fun i H=>∃ xs x,SqL K H a xs∧xs[i]? = some x,fun i H x H'=>H'=H∧∀ xs,SqL K H a xs→xs[i]? = some x,fun i H=>∃ xs,SqL K H a xs∧xs.length≤i⟩
def Itr (lo:Int) (n:Nat):It:=⟨fun i _=>i<n,fun i H x H'=>H'=H∧x=.int (lo+i),fun i _=>n≤i⟩
theorem lO {P:Program} {w:World} {K:PySem.W.Frag} {tg:Expr} (a it:Addr):mv P w K tg (Itl K a) [it] it (fun i h=>h.IsListIter it a i) where
 mem:=by simp
 obj:=fun i h st b hb=>by
  have e:b=it:=by simpa using hb
  subst e
  obtain ⟨o,e,c,d⟩:=st
  exact ⟨o,e,fun v z=>by rw [d] at z; cases z⟩
 keep:=fun i h h' st k=>st.at fun o e=>k it (by simp) o e
 item:=by
  intro X hP hw hK hc i pins s σ H E I hf st hg
  subst hP hw hK
  obtain ⟨xs,x,hq,hx⟩:=hg
  obtain ⟨its,rv,p,hz⟩:=I.list hq
  obtain ⟨u,hu,ru⟩:=rv.get hx
  obtain ⟨f0,f1,f2,f3,f4,f5⟩:=hf it (by simp)
  refine wpAny_pyNext_list_item st p.isList (x:=u) (by simpa using hu) fun h' st' sb=>?_
  have I1:Inv X pins σ H { s with heap:=h' }:=I.turned (t':=s.toks) (fun b o hb e=>(sb.2 b hb).trans e) f0 f1 f3 f4 f5
  obtain ⟨o,e,c,d⟩:=id st'
  exact ⟨u,rfl,gY (s:={ s with heap:=h' }) e c d (by decide) ⟨x,H,I1,ru,⟨rfl,fun ys hy=>by rw [I.list_inj hy hq]; exact hx⟩,st',fun b hb=>(hf b hb).1⟩⟩
 done:=by
  intro X hP hw hK hc i pins s σ H E I hf st hg
  subst hP hw hK
  obtain ⟨xs,hq,hx⟩:=hg
  obtain ⟨its,rv,p,hz⟩:=I.list hq
  obtain ⟨f0,f1,f2,f3,f4,f5⟩:=hf it (by simp)
  have hl:=rv.length
  exact wpAny_pyNext_list_end (I.ok.hd hc) st p.isList (by simp; omega) fun h' eb=>⟨rfl,I.turned (t':=s.toks) (fun b o hb e=>eb b o hb e) f0 f1 f3 f4 f5⟩
 self:=fun _ _ _ _ _ st h=>wpAny_pyIter_listiter st h
theorem nc {P:Program} {w:World} {K:PySem.W.Frag} {tg:Expr} (it:Addr) (lo:Int) (n:Nat):mv P w K tg (Itr lo n) [it] it (fun i h=>IsRangeIter h it (lo+(i:Nat)*1) ((n:Int) - (i:Nat)) 1) where
 mem:=by simp
 obj:=fun i h st b hb=>by
  have e:b=it:=by simpa using hb
  subst e
  exact ⟨_,st,fun v z=>by
   have z':Data.fields _=Data.cell v:=z
   cases z'⟩
 keep:=fun i h h' st k=>k it (by simp) _ st
 item:=by
  intro X hP hw hK hc i pins s σ H E I hf st hg
  subst hP hw hK
  obtain ⟨f0,f1,f2,f3,f4,f5⟩:=hf it (by simp)
  have W:=Walks.range (prog:=X.prog) (w:=X.w) (I.ok.hd hc) it lo 1 n
  refine W.item i s _ _ hg st fun v h' tk hv st' kk=>?_
  obtain ⟨t,rfl⟩:=hv
  have I1:Inv X pins σ H { s with heap:=h',toks:=tk }:=I.turned (fun b o hb e=>kk b o (by simpa using hb) e) f0 f1 f3 f4 f5
  refine ⟨_,rfl,gY (s:={ s with heap:=h',toks:=tk }) (n:="range_iterator") st' rfl rfl (by decide) ⟨.int (lo+i),H,I1,⟨t,?_⟩,⟨rfl,rfl⟩,st',fun b hb=>(hf b hb).1⟩⟩
  rw [Int.mul_one]
 done:=by
  intro X hP hw hK hc i pins s σ H E I hf st hg
  subst hP hw hK
  obtain ⟨f0,f1,f2,f3,f4,f5⟩:=hf it (by simp)
  exact wpAny_pyNext_range_end (I.ok.hd hc) st (by have:n≤i:=hg; omega) fun h' eb=>⟨rfl,I.turned (t':=s.toks) (fun b o hb e=>eb b o hb e) f0 f1 f3 f4 f5⟩
 self:=fun _ _ _ _ _ st h=>wpAny_pyIter_rangeiter st h
end L2
namespace L2
open PySem PySem.Spec PyProof.Rows
section
variable {X:Cx} {tg:Expr}
def T7 (K:PySem.W.Frag) (tl:TE):TI:=fun σ H R=>tl σ H fun x H1=>∃ a,x=.ref a∧(∃ xs,SqL K H1 a xs)∧R (Itl K a) H1
theorem qI {l:Expr} {tl:TE} (hl:PE X l tl):PI X tg l (T7 X.K tl):=by
 intro pins s σ H R I h
 refine thn (hl pins s σ H _ I h) fun v s1 ⟨x,H1,I1,r1,q1⟩=>?_
 obtain ⟨a,e,⟨xs,hq⟩,q⟩:=q1
 subst e
 cases r1
 obtain ⟨its,rv,p,hz⟩:=I1.list hq
 refine wpAny_pyIter_list p.isList ?_
 refine ⟨s1.heap.objs.size,[s1.heap.objs.size],_,_,H1,rfl,I1.kept (t':=s1.toks) fun b o e=>Heap.get?_push_of_some _ e,lO a _,⟨_,Heap.get?_push_size _ rfl,rfl,rfl⟩,fun b hb=>?_,q⟩
 have e:b=s1.heap.objs.size:=by simpa using hb
 subst e
 exact I1.fpOk (Nat.le_refl _) (I1.hok.fresh (Nat.le_refl _))
theorem p7 {pins:List (Addr × Obj)} {σ:St} {H:Hp} {s:Shared} {R:It→Hp→Prop} {E:Value→Shared→Prop} {lo hi:Int} {t u v:Tok} {tk:Nat} (I:Inv X pins σ H s) (h1:-(2 ^ 62)≤lo) (h2:lo<2 ^ 62) (h3:-(2 ^ 62)≤hi) (h4:hi<2 ^ 62)
  (q:R (Itr lo (hi - lo).toNat) H):wpAny (model X.prog X.w) X.A (pyIter (.ref s.heap.objs.size)) (PIE X pins σ tg R) E { s with heap:=s.heap.push { cls:=.type "range",data:=.fields #[.int lo t,.int hi u,.int 1 v] },toks:=tk }:=by
 refine wpAny_pyIter_range (IsRange.new ..) (small_one h1 h2 h3 h4) ?_
 have I1:Inv X pins σ H { s with heap:=s.heap.push { cls:=.type "range",data:=.fields #[.int lo t,.int hi u,.int 1 v] },toks:=tk }:=I.kept fun b o e=>Heap.get?_push_of_some _ e
 refine ⟨(s.heap.push { cls:=.type "range",data:=.fields #[.int lo t,.int hi u,.int 1 v] }).objs.size,[(s.heap.push { cls:=.type "range",data:=.fields #[.int lo t,.int hi u,.int 1 v] }).objs.size],_,_,H,rfl,
  I1.kept (t':=tk) fun b o e=>Heap.get?_push_of_some _ e,nc _ lo (hi - lo).toNat,?_,fun b hb=>?_,q⟩
 ·have e1:lo+((0:Nat):Int)*1=lo:=by simp
  have e2:(((hi - lo).toNat:Nat):Int) - ((0:Nat):Int)=Builtin.Range.rangeSize lo hi 1:=by rw [rangeSize_one]; split <;> omega
  show IsRangeIter _ _ (lo+((0:Nat):Int)*1) ((((hi - lo).toNat:Nat):Int) - ((0:Nat):Int)) 1
  rw [e1,e2]
  exact Heap.get?_push_size _ rfl
 ·have e:b=(s.heap.push { cls:=.type "range",data:=.fields #[.int lo t,.int hi u,.int 1 v] }).objs.size:=by simpa using hb
  subst e
  exact I1.fpOk (Nat.le_refl _) (I1.hok.fresh (Nat.le_refl _))
def T6 (ta:TA):TI:=fun σ H R=>ta σ H fun vs H1=>∃ j:Int,vs=[.int j]∧-(2 ^ 62)≤j∧j<2 ^ 62∧R (Itr 0 j.toNat) H1
def T5 (ta:TA):TI:=fun σ H R=>ta σ H fun vs H1=>∃ i j:Int,vs=[.int i,.int j]∧(-(2 ^ 62)≤i∧i<2 ^ 62∧-(2 ^ 62)≤j∧j<2 ^ 62)∧R (Itr i (j - i).toNat) H1
theorem rS {a:Expr} {ta:TA} {p pos:Pos} (hg:Gl X "range") (hm:X.mg "range"=none) (ha:PA X [a] ta) (hs:starEach [a] X.env=[(false,eval a X.env)]:=by rfl):PI X tg (.Call (.Name "range" p) [a] [] pos) (T6 ta):=by
 intro pins s σ H R I h
 refine Call_ (wV I hg hm boot_range (PyProof.Rows.callWith_type1 (thn (ha pos pins s σ H _ I h) fun us s1 ⟨vs,H1,I1,r1,q1⟩=>?_) hs rfl))
 obtain ⟨j,e,q1,q2,q⟩:=q1
 subst e
 cases r1 with
 | cons r rr=>
  cases rr
  obtain ⟨t,rfl⟩:=r
  exact call_range_1 (p7 I1 (by omega) (by omega) q1 q2 (by simpa using q))
theorem l6 {a b:Expr} {ta:TA} {p pos:Pos} (hg:Gl X "range") (hm:X.mg "range"=none) (ha:PA X [a,b] ta) (hs:starEach [a,b] X.env=[(false,eval a X.env),(false,eval b X.env)]:=by rfl) (hs2:starEach [b] X.env=[(false,eval b X.env)]:=by rfl):
  PI X tg (.Call (.Name "range" p) [a,b] [] pos) (T5 ta):=by
 intro pins s σ H R I h
 refine Call_ (wV I hg hm boot_range (PyProof.Rows.callWith_type1 (thn (ha pos pins s σ H _ I h) fun us s1 ⟨vs,H1,I1,r1,q1⟩=>?_) (by rw [hs,hs2]) (by rw [hs2]; rfl)))
 obtain ⟨i,j,e,⟨q1,q2,q3,q4⟩,q⟩:=q1
 subst e
 cases r1 with
 | cons r rr=>
  cases rr with
  | cons r' rr=>
   cases rr
   obtain ⟨t,rfl⟩:=r
   obtain ⟨t',rfl⟩:=r'
   exact call_range_2 (p7 I1 q1 q2 q3 q4 q)
def S7 (wi:TI) (g:TG) (tb:TS):TS:=fun D σ H=>wi σ H fun J H1=>∃ W:Nat→Nat→St→Hp→Prop,(∃ m,W 0 m σ H1)∧∀ i m σ H,W i m σ H→
 (J.stop i H∧D.nx σ H)∨(J.go i H∧∃ N:St→Hp→Prop,(∀ σ' H',N σ' H'→∃ m',m'<m∧W (i+1) m' σ' H')∧∀ x H',J.yld i H x H'→g x σ H' fun σ2 H2=>tb { D with nx:=N,ct:=N,bk:=D.nx } σ2 H2)
def xL (fp:List Addr) (h:Heap):List (Addr × Obj):=fp.filterMap fun b=>(h.get? b).map fun o=>(b,o)
theorem vI {fp:List Addr} {h:Heap} {b:Addr} {o:Obj} (hb:b∈fp) (e:h.get? b=some o):(b,o)∈xL fp h:=List.mem_filterMap.mpr ⟨b,hb,by rw [e]; rfl⟩
theorem ka {fp:List Addr} {h:Heap} {p:Addr × Obj} (hp:p∈xL fp h):p.1∈fp∧h.get? p.1=some p.2:=by
 obtain ⟨b,hb,e⟩:=List.mem_filterMap.mp hp
 cases q:h.get? b with
 | none=>rw [q] at e; cases e
 | some o=>
  rw [q] at e
  have e':(b,o)=p:=Option.some.inj e
  subst e'
  exact ⟨hb,q⟩
theorem Inv.pinned {pins:List (Addr × Obj)} {σ:St} {H:Hp} {s:Shared} {fp:List Addr} (I:Inv X pins σ H s) (hf:∀ b∈fp,vt X pins H b) (ho:∀ b∈fp,∃ o,s.heap.get? b=some o∧∀ v,o.data≠.cell v):Inv X (pins++xL fp s.heap) σ H s:=
 I.pins_of fun p hp=>(List.mem_append.mp hp).elim (fun z=>I.pin p (List.mem_append_right _ z)) fun z=>by
  obtain ⟨hb,e⟩:=ka z
  obtain ⟨f0,f1,f2,_⟩:=hf p.1 hb
  obtain ⟨o,e',d⟩:=ho p.1 hb
  rw [e] at e'; cases e'
  exact ⟨e,f0,f1,f2,d⟩
theorem Inv.unpinned {pins pl:List (Addr × Obj)} {σ:St} {H:Hp} {s:Shared} (I:Inv X (pins++pl) σ H s):Inv X pins σ H s:=I.pins_of fun p hp=>I.pin p (List.mem_append_right _ (List.mem_append_left _ hp))
theorem uG {iter:Expr} {body:List Stmt} {wi:TI} {g:TG} {tb:TS} {pos:Pos} (hp:PassesOwn (model X.prog X.w) X.A X.env X.xe) (hc:X.calm=true) (hi:PI X tg iter wi) (hg:PG X tg g) (hb:PSs X body tb)
  (hs:∀ x,foldedSetIterable iter X.env x=pure x:=by intro _; rfl):PS X (.For tg iter body [] pos) (S7 wi g tb):=by
 intro pins s σ H D I h
 refine wpAny_For (thn (hi pins s σ H _ I h) fun v s1 h1=>thn h1 fun itv s2 h2=>?_) hs
 obtain ⟨it,fp,tn,J,H2,e,I2,T,st2,f2,W,⟨m0,w0⟩,turn⟩:=h2
 subst e
 have stat:∀ {H':Hp},(∀ b∈fp,H' b=none)→∀ b∈fp,vt X pins H' b:=fun hn b hb=>⟨hn b hb,(f2 b hb).2⟩
 refine codeAny_forLoop_any (fun n s'=>∃ i σ' H',Inv X pins σ' H' s'∧tn i s'.heap∧(∀ b∈fp,H' b=none)∧W i n σ' H') ?_ m0 ⟨0,σ,H2,I2,st2,fun b hb=>(f2 b hb).1,w0⟩
 rintro n s3 ⟨i,σ3,H3,I3,st3,fr3,w3⟩
 rcases turn i n σ3 H3 w3 with ⟨stop,qn⟩ | ⟨go,N,hN,step⟩
 ·refine wpAny_passesOwn hp (thn (T.done X rfl rfl rfl hc i pins s3 σ3 H3 X.xe I3 (stat fr3) st3 stop) fun r s4 ⟨hr,I4⟩=>?_)
  subst hr
  exact wpAny_execs_nil ⟨σ3,H3,I4,qn⟩
 ·refine wpAny_passesOwn hp (thn (T.item X rfl rfl rfl hc i pins s3 σ3 H3 X.xe I3 (stat fr3) st3 go) fun r s4 ⟨u,hr,h4⟩=>?_)
  subst hr
  refine wpAny_passesOwn hp (thn h4 fun _ s5 ⟨x,H5,I5,r5,y5,st5,fr5⟩=>?_)
  have I5':=I5.pinned (stat fr5) (T.obj _ _ st5)
  refine wpAny_passesOwn hp (thn (hg _ s5 σ3 H5 x u _ I5' r5 (step x H5 y5)) fun _ s6 ⟨σ6,H6,I6,q6⟩=>?_)
  refine wpAny_passesOwn hp (thn (hb _ s6 σ6 H6 _ I6 q6) fun f s7 q7=>?_)
  have again:∀ {σ7:St} {H7:Hp},Inv X (pins++xL fp s5.heap) σ7 H7 s7→N σ7 H7→∃ m,m<n∧∃ i σ' H',Inv X pins σ' H' s7∧tn i s7.heap∧(∀ b∈fp,H' b=none)∧W i m σ' H':=fun {σ7 H7} I7 n7=>by
   obtain ⟨m',hm,w7⟩:=hN σ7 H7 n7
   refine ⟨m',hm,i+1,σ7,H7,I7.unpinned,T.keep _ _ _ st5 fun b hb o e=>(I7.pin (b,o) (List.mem_append_right _ (List.mem_append_right _ (vI hb e)))).1,fun b hb=>?_,w7⟩
   obtain ⟨o,e,d⟩:=T.obj _ _ st5 b hb
   exact (I7.pin (b,o) (List.mem_append_right _ (List.mem_append_right _ (vI hb e)))).2.1
  cases f with
  | next=>obtain ⟨σ7,H7,I7,n7⟩:=q7; exact again I7 n7
  | cont=>obtain ⟨σ7,H7,I7,n7⟩:=q7; exact again I7 n7
  | brk=>obtain ⟨σ7,H7,I7,q7⟩:=q7; exact ⟨σ7,H7,I7.unpinned,q7⟩
  | ret v=>obtain ⟨x7,σ7,H7,I7,r7,q7⟩:=q7; exact ⟨x7,σ7,H7,I7.unpinned,r7,q7⟩
end
theorem oK {K:PySem.W.Frag} {a:Addr} {xs:List V} {g:TG} {tb:TS} {D:Ends} {σ:St} {H:Hp} (Pv:Nat→St→Hp→Prop) (h0:Pv 0 σ H) (hl:∀ i σ H,i≤xs.length→Pv i σ H→SqL K H a xs)
  (hs:∀ i x σ H,xs[i]? = some x→Pv i σ H→g x σ H fun σ2 H2=>tb { D with nx:=Pv (i+1),ct:=Pv (i+1),bk:=D.nx } σ2 H2) (hd:∀ σ H,Pv xs.length σ H→D.nx σ H):
  ∃ W:Nat→Nat→St→Hp→Prop,(∃ m,W 0 m σ H)∧∀ i m σ H,W i m σ H→
   ((Itl K a).stop i H∧D.nx σ H)∨((Itl K a).go i H∧∃ N:St→Hp→Prop,(∀ σ' H',N σ' H'→∃ m',m'<m∧W (i+1) m' σ' H')∧∀ x H',(Itl K a).yld i H x H'→g x σ H' fun σ2 H2=>tb { D with nx:=N,ct:=N,bk:=D.nx } σ2 H2):=by
 refine ⟨fun i m σ H=>m=xs.length - i∧i≤xs.length∧Pv i σ H,⟨xs.length,by simp,Nat.zero_le _,h0⟩,?_⟩
 rintro i m σ H ⟨rfl,hi,p⟩
 have q:=hl i σ H hi p
 by_cases hlt:i<xs.length
 ·refine .inr ⟨⟨xs,xs[i],q,by simp [hlt]⟩,Pv (i+1),fun σ' H' p'=>⟨xs.length - (i+1),by omega,rfl,hlt,p'⟩,fun x H' y=>?_⟩
  obtain ⟨e,y⟩:=y
  subst e
  exact hs i x σ _ (y xs q) p
 ·have e:i=xs.length:=by omega
  subst e
  exact .inl ⟨⟨xs,q,Nat.le_refl _⟩,hd σ H p⟩
theorem rY {lo:Int} {n:Nat} {g:TG} {tb:TS} {D:Ends} {σ:St} {H:Hp} (Pv:Nat→St→Hp→Prop) (h0:Pv 0 σ H)
  (hs:∀ i σ H,i<n→Pv i σ H→g (.int (lo+i)) σ H fun σ2 H2=>tb { D with nx:=Pv (i+1),ct:=Pv (i+1),bk:=D.nx } σ2 H2) (hd:∀ σ H,Pv n σ H→D.nx σ H):
  ∃ W:Nat→Nat→St→Hp→Prop,(∃ m,W 0 m σ H)∧∀ i m σ H,W i m σ H→
   ((Itr lo n).stop i H∧D.nx σ H)∨((Itr lo n).go i H∧∃ N:St→Hp→Prop,(∀ σ' H',N σ' H'→∃ m',m'<m∧W (i+1) m' σ' H')∧∀ x H',(Itr lo n).yld i H x H'→g x σ H' fun σ2 H2=>tb { D with nx:=N,ct:=N,bk:=D.nx } σ2 H2):=by
 refine ⟨fun i m σ H=>m=n - i∧i≤n∧Pv i σ H,⟨n,by simp,Nat.zero_le _,h0⟩,?_⟩
 rintro i m σ H ⟨rfl,hi,p⟩
 by_cases hlt:i<n
 ·refine .inr ⟨hlt,Pv (i+1),fun σ' H' p'=>⟨n - (i+1),by omega,rfl,hlt,p'⟩,fun x H' y=>?_⟩
  obtain ⟨e,y⟩:=y
  subst e y
  exact hs i σ _ hlt p
 ·have e:i=n:=by omega
  subst e
  exact .inl ⟨Nat.le_refl _,hd σ H p⟩
end L2
namespace L2
open PySem PySem.Spec PyProof.Rows
abbrev R2:=V→V→Hp→VK→Prop
def OpR (X:Cx) (f:Value→Value→Sem Value) (r:R2):Prop:=
 ∀ (pins:List (Addr × Obj)) (s:Shared) (σ:St) (H:Hp) (x y:V) (v u:Value) (Q:VK),Inv X pins σ H s→RelV x v→RelV y u→r x y H Q→
  wpAny (model X.prog X.w) X.A (f v u) (EP X pins σ Q) X.xe s
def UnR (X:Cx) (f:Value→Sem Value) (r:V→Hp→VK→Prop):Prop:=
 ∀ (pins:List (Addr × Obj)) (s:Shared) (σ:St) (H:Hp) (x:V) (v:Value) (Q:VK),Inv X pins σ H s→RelV x v→r x H Q→
  wpAny (model X.prog X.w) X.A (f v) (EP X pins σ Q) X.xe s
def CallR (X:Cx) (f:Value) (r:List V→Hp→VK→Prop):Prop:=
 ∀ (pins:List (Addr × Obj)) (s:Shared) (σ:St) (H:Hp) (xs:List V) (us:List Value) (Q:VK),Inv X pins σ H s→Vals xs us→r xs H Q→
  wpAny (model X.prog X.w) X.A (call f us) (EP X pins σ Q) X.xe s
def RY (X:Cx) (r:V→Hp→(Bool→Hp→Prop)→Prop):Prop:=
 ∀ (pins:List (Addr × Obj)) (s:Shared) (σ:St) (H:Hp) (x:V) (v:Value) (Q:Bool→Hp→Prop),Inv X pins σ H s→RelV x v→r x H Q→
  wpAny (model X.prog X.w) X.A (truthy v) (TP X pins σ Q) X.xe s
def tOp (r:R2) (ta tb:TE):TE:=fun σ H Q=>ta σ H fun x H1=>tb σ H1 fun y H2=>r x y H2 Q
def tUn (r:V→Hp→VK→Prop) (ta:TE):TE:=fun σ H Q=>ta σ H fun x H1=>r x H1 Q
def rI (C:Int→Int→Prop) (g:Int→Int→V):R2:=fun x y H Q=>∃ i j,x=.int i∧y=.int j∧C i j∧Q (g i j) H
def rI0 (g:Int→Int→V):R2:=fun x y H Q=>∃ i j,x=.int i∧y=.int j∧Q (g i j) H
def rU (g:Int→V):V→Hp→VK→Prop:=fun x H Q=>∃ i,x=.int i∧Q (g i) H
section
variable {X:Cx} {a b c:Expr} {ta tb tc:TE} {pos:Pos}
theorem Uo (ha:PE X a ta) (hb:PE X b tb) {pins:List (Addr × Obj)} {s:Shared} {σ:St} {H:Hp} {R:V→V→Hp→Prop} (I:Inv X pins σ H s)
  (h:ta σ H fun x H1=>tb σ H1 fun y H2=>R x y H2) {Q:Value→Shared→Prop} {f:Value→Value→Sem Value}
  (hf:∀ v u s2 x y H2,Inv X pins σ H2 s2→RelV x v→RelV y u→R x y H2→wpAny (model X.prog X.w) X.A (f v u) Q X.xe s2):
  wpAny (model X.prog X.w) X.A (eval a X.env) (fun v s₁=>wpAny (model X.prog X.w) X.A (eval b X.env) (fun u s₂=>wpAny (model X.prog X.w) X.A (f v u) Q X.xe s₂) X.xe s₁) X.xe s:=by
 refine thn (ha pins s σ H _ I h) fun v s1 ⟨x,H1,I1,r1,q1⟩=>?_
 refine thn (hb pins s1 σ H1 _ I1 q1) fun u s2 ⟨y,H2,I2,r2,q2⟩=>?_
 exact hf v u s2 x y H2 I2 r1 r2 q2
theorem ZA {op:Operator} {r:R2} (ho:OpR X (binaryOp op) r) (ha:PE X a ta) (hb:PE X b tb):PE X (.BinOp a op b pos) (tOp r ta tb):=by
 intro pins s σ H Q I h
 exact wpAny_BinOp (Uo ha hb I h fun v u s2 x y H2 I2 rx ry q=>ho pins s2 σ H2 x y v u Q I2 rx ry q)
theorem UO {op:UnaryOp} {r:V→Hp→VK→Prop} (ho:UnR X (unaryOp op) r) (ha:PE X a ta):PE X (.UnaryOp op a pos) (tUn r ta):=by
 intro pins s σ H Q I h
 exact UnaryOp_ (thn (ha pins s σ H _ I h) fun v s1 ⟨x,H1,I1,r1,q1⟩=>ho pins s1 σ H1 x v Q I1 r1 q1)
theorem opI {f:Value→Value→Sem Value} {C:Int→Int→Prop} {g:Int→Int→Int}
  (rule:∀ (i j:Int) (t u:Tok) (s:Shared) (Q:Value→Shared→Prop) (E:Value→Shared→Prop),C i j→Q (.int (g i j) s.toks) { s with toks:=s.toks+1 }→wpAny (model X.prog X.w) X.A (f (.int i t) (.int j u)) Q E s):
  OpR X f (rI C fun i j=>.int (g i j)):=by
 intro pins s σ H x y v u Q I rx ry h
 obtain ⟨i,j,rfl,rfl,hc,q⟩:=h
 obtain ⟨t,rfl⟩:=rx
 obtain ⟨t',rfl⟩:=ry
 exact rule i j t t' s _ _ hc ⟨.int (g i j),H,I.tok _,⟨_,rfl⟩,q⟩
theorem UV {f:Value→Value→Sem Value} {g:Int→Int→Int}
  (rule:∀ (i j:Int) (t u:Tok) (s:Shared) (Q:Value→Shared→Prop) (E:Value→Shared→Prop),Q (.int (g i j) s.toks) { s with toks:=s.toks+1 }→wpAny (model X.prog X.w) X.A (f (.int i t) (.int j u)) Q E s):
  OpR X f (rI0 fun i j=>.int (g i j)):=by
 intro pins s σ H x y v u Q I rx ry h
 obtain ⟨i,j,rfl,rfl,q⟩:=h
 obtain ⟨t,rfl⟩:=rx
 obtain ⟨t',rfl⟩:=ry
 exact rule i j t t' s _ _ ⟨.int (g i j),H,I.tok _,⟨_,rfl⟩,q⟩
theorem YE {f:Value→Value→Sem Value} {g:Int→Int→Bool}
  (rule:∀ (i j:Int) (t u:Tok) (s:Shared) (Q:Value→Shared→Prop) (E:Value→Shared→Prop),Q (.bool (g i j)) s→wpAny (model X.prog X.w) X.A (f (.int i t) (.int j u)) Q E s):
  OpR X f (rI0 fun i j=>.bl (g i j)):=by
 intro pins s σ H x y v u Q I rx ry h
 obtain ⟨i,j,rfl,rfl,q⟩:=h
 obtain ⟨t,rfl⟩:=rx
 obtain ⟨t',rfl⟩:=ry
 exact rule i j t t' s _ _ ⟨.bl (g i j),H,I,rfl,q⟩
def lM (i j:Int):Prop:=j≠0∧j.natAbs<1073741824
def R3 (i j:Int):Prop:=0≤j∧j≤1000000∧i.natAbs<2 ^ 64
def CMul (i j:Int):Prop:=(-(2 ^ 64)<i∧i<2 ^ 64)∨(-(2 ^ 64)<j∧j<2 ^ 64)
theorem CMul.ok {i j:Int} (h:CMul i j):IntMulOk i j:=by
 rcases h with ⟨h1,h2⟩ | ⟨h1,h2⟩
 ·exact .of_left (intBits_le_64 h1 h2)
 ·exact .of_right (intBits_le_64 h1 h2)
theorem YD:OpR X (binaryOp .Add) (rI0 fun i j=>.int (i+j)):=UV fun _ _ _ _ _ _ _ q=>add_int q
theorem YA:OpR X (binaryOp .Sub) (rI0 fun i j=>.int (i - j)):=UV fun _ _ _ _ _ _ _ q=>sub_int q
theorem jK:OpR X (binaryOp .FloorDiv) (rI lM fun i j=>.int (i.fdiv j)):=opI fun _ _ _ _ _ _ _ hc q=>floordiv_int hc.1 q (.inl (PyProof.noPylong_small hc.2))
theorem dM:OpR X (binaryOp .Mod) (rI (fun _ j=>j≠0) fun i j=>.int (i.fmod j)):=opI fun _ _ _ _ _ _ _ hc q=>mod_int' hc q
theorem unI {f:Value→Sem Value} {g:Int→Int}
  (rule:∀ (i:Int) (t:Tok) (s:Shared) (Q:Value→Shared→Prop) (E:Value→Shared→Prop),Q (.int (g i) s.toks) { s with toks:=s.toks+1 }→wpAny (model X.prog X.w) X.A (f (.int i t)) Q E s):
  UnR X f (rU fun i=>.int (g i)):=by
 intro pins s σ H x v Q I rx h
 obtain ⟨i,rfl,q⟩:=h
 obtain ⟨t,rfl⟩:=rx
 exact rule i t s _ _ ⟨.int (g i),H,I.tok _,⟨_,rfl⟩,q⟩
theorem Z2:UnR X (unaryOp .USub) (rU fun i=>.int (-i)):=unI fun _ _ _ _ _ q=>neg_int q
end
def Rc:V→V→Bool
 | .non,.non=>true | .non,.int _=>true | .int _,.non=>true | .non,.bl _=>true | .bl _,.non=>true | .non,.str _=>true | .str _,.non=>true
 | .int _,.int _=>true | .bl _,.bl _=>true | .str _,.str _=>true | .byt _,.byt _=>true
 | .int _,.str _=>true | .str _,.int _=>true | .bl _,.str _=>true | .str _,.bl _=>true
 | _,_=>false
def rEq:R2:=fun x y H Q=>Rc x y=true∧Q (.bl (decide (x=y))) H
theorem Za {i j:Int}:decide (V.int i=V.int j)=(i == j):=by
 rw [Bool.eq_iff_iff]
 simp
theorem V6 {i j:Bool}:decide (V.bl i=V.bl j)=(i == j):=by
 rw [Bool.eq_iff_iff]
 simp
theorem a_ {i j:Str}:decide (V.str i=V.str j)=(i == j):=by
 rw [Bool.eq_iff_iff]
 simp
theorem Zb {i j:Array UInt8}:decide (V.byt i=V.byt j)=(i.toList == j.toList):=by
 rw [Bool.eq_iff_iff]
 cases i
 cases j
 simp
section
variable {X:Cx} {a b c:Expr} {ta tb tc:TE} {pos:Pos}
theorem yw {pins:List (Addr × Obj)} {σ:St} {H:Hp} {s:Shared} {Q:VK} {k k':Bool} (I:Inv X pins σ H s) (q:Q (.bl k) H) (e:k=k'):EP X pins σ Q (.bool k') s:=by
 subst e
 exact ⟨.bl k,H,I,rfl,q⟩
theorem UU:OpR X (compareOp .Eq) rEq:=by
 intro pins s σ H x y v u Q I rx ry h
 obtain ⟨hs,q⟩:=h
 cases x with
 | non=>
  cases rx
  cases y with
  | non=>cases ry; exact PySem.EqNone.eq_none_none (yw I q (by simp))
  | bl j=>cases ry; exact PySem.EqNone.eq_none_bool (yw I q (by simp))
  | int j=>obtain ⟨t',rfl⟩:=ry; exact PySem.EqNone.eq_none_int (yw I q (by simp))
  | str j=>obtain ⟨t',rfl⟩:=ry; exact PySem.EqNone.eq_none_str (yw I q (by simp))
  | _=>exact absurd (show false=true from hs) Bool.false_ne_true
 | bl i=>
  cases rx
  cases y with
  | non=>cases ry; exact PySem.EqNone.eq_bool_none (yw I q (by simp))
  | bl j=>cases ry; exact eq_bool (yw I q V6)
  | str j=>obtain ⟨t',rfl⟩:=ry; exact PySem.EqMixed.eq_bool_str (yw I q (by simp))
  | _=>exact absurd (show false=true from hs) Bool.false_ne_true
 | int i=>
  obtain ⟨t,rfl⟩:=rx
  cases y with
  | non=>cases ry; exact PySem.EqNone.eq_int_none (yw I q (by simp))
  | int j=>obtain ⟨t',rfl⟩:=ry; exact eq_int (yw I q Za)
  | str j=>obtain ⟨t',rfl⟩:=ry; exact PySem.EqMixed.eq_int_str (yw I q (by simp))
  | _=>exact absurd (show false=true from hs) Bool.false_ne_true
 | str i=>
  obtain ⟨t,rfl⟩:=rx
  cases y with
  | non=>cases ry; exact PySem.EqNone.eq_str_none (yw I q (by simp))
  | bl j=>cases ry; exact PySem.EqMixed.eq_str_bool (yw I q (by simp))
  | int j=>obtain ⟨t',rfl⟩:=ry; exact PySem.EqMixed.eq_str_int (yw I q (by simp))
  | str j=>obtain ⟨t',rfl⟩:=ry; exact eq_str (yw I q a_)
  | _=>exact absurd (show false=true from hs) Bool.false_ne_true
 | byt i=>
  obtain ⟨t,rfl⟩:=rx
  cases y with
  | byt j=>obtain ⟨t',rfl⟩:=ry; exact PySem.W.eq_bytes (yw I q Zb)
  | _=>exact absurd (show false=true from hs) Bool.false_ne_true
 | _=>cases y <;> exact absurd (show false=true from hs) Bool.false_ne_true
theorem UR:OpR X (compareOp .Lt) (rI0 fun i j=>.bl (decide (i<j))):=YE fun _ _ _ _ _ _ _ q=>lt_int q
theorem US:OpR X (compareOp .Gt) (rI0 fun i j=>.bl (decide (j<i))):=YE fun _ _ _ _ _ _ _ q=>gt_int q
theorem UT:OpR X (compareOp .GtE) (rI0 fun i j=>.bl (decide (j≤i))):=YE fun _ _ _ _ _ _ _ q=>ge_int q
theorem OpR.or {f:Value→Value→Sem Value} {r r':R2} (h:OpR X f r) (h':OpR X f r'):OpR X f (fun x y H Q=>r x y H Q∨r' x y H Q):=by
 intro pins s σ H x y v u Q I rx ry q
 rcases q with q | q
 ·exact h pins s σ H x y v u Q I rx ry q
 ·exact h' pins s σ H x y v u Q I rx ry q
theorem zp (b:Expr) {op:CmpOp} (h:op≠.In:=by decide) (h2:op≠.NotIn:=by decide):behindInMarks op b=false:=by
 have e1:(op == CmpOp.In)=false:=by cases op <;> first | rfl | exact absurd rfl h
 have e2:(op == CmpOp.NotIn)=false:=by cases op <;> first | rfl | exact absurd rfl h2
 cases b <;> simp [behindInMarks,e1,e2]
theorem dH {op:CmpOp} {r:R2} (ho:OpR X (compareOp op) r) (ha:PE X a ta) (hb:PE X b tb) (hm:behindInMarks op b=false):PE X (.Compare a [op] [b] pos) (tOp r ta tb):=by
 intro pins s σ H Q I h
 exact wpAny_Compare1 (Uo ha hb I h fun v u s2 x y H2 I2 rx ry q=>ho pins s2 σ H2 x y v u Q I2 rx ry q) hm
def Zr (t:TE):TT:=fun σ H Q=>t σ H fun x H'=>∃ k,x=.bl k∧Q k H'
theorem dw {op:CmpOp} {r:R2} (ho:OpR X (compareOp op) r) (ha:PE X a ta) (hb:PE X b tb) (hm:behindInMarks op b=false):PT X (.Compare a [op] [b] pos) (Zr (tOp r ta tb)):=by
 intro pins s σ H Q I h
 refine wpAny_isTrue_Compare1 (thn (ha pins s σ H _ I h) fun v s1 ⟨x,H1,I1,r1,q1⟩=>thn (hb pins s1 σ H1 _ I1 q1) fun u s2 ⟨y,H2,I2,r2,q2⟩=>
  thn (ho pins s2 σ H2 x y v u _ I2 r1 r2 q2) fun c s3 ⟨z,H3,I3,r3,k,e,q3⟩=>?_) hm
 subst e
 cases r3
 exact wpAny_truthy_bool ⟨H3,I3,q3⟩
def SQ (K:PySem.W.Frag) (x:V) (H:Hp) (k:Bool):Prop:=
 match x with
 | .non=>k=false
 | .bl b=>k=b
 | .int i=>k=(i != 0)
 | .str y=>y.length≤sizeLine∧k=((y.length:Int) != 0)
 | .byt y=>y.size≤sizeLine∧k=((y.size:Int) != 0)
 | .ref p=>(∃ xs,SqL K H p xs∧k=!xs.isEmpty)∨(∃ xs,SqT K H p xs∧k=!xs.isEmpty)∨∃ kvs,H p=some (.dK kvs)∧k=!kvs.isEmpty
 | _=>False
theorem nW {κ:Type} {kvs:List (κ × V)} {vs:List (κ × Value)} (r:KV kvs vs):(!vs.isEmpty)=!kvs.isEmpty:=by
 cases r <;> rfl
theorem sU {xs:List V} {its:List Value} (r:Vals xs its):(!its.toArray.isEmpty)=!xs.isEmpty:=by
 cases r <;> simp
theorem vJ:(sizeLine:Nat)<2 ^ 63:=by rw [sizeLine_eq]; decide
theorem Z3:RY X (fun x H Q=>∃ k,SQ X.K x H k∧Q k H):=by
 intro pins s σ H x v Q I rx h
 obtain ⟨k,e,q⟩:=h
 have hl:=vJ
 have hs:sizeLine=16777216:=sizeLine_eq
 cases x with
 | non=>
  cases rx
  have e':k=false:=e
  subst e'
  exact truthy_none ⟨H,I,q⟩
 | bl b=>
  cases rx
  have e':k=b:=e
  subst e'
  exact wpAny_truthy_bool ⟨H,I,q⟩
 | int i=>
  obtain ⟨t,rfl⟩:=rx
  have e':k=(i != 0):=e
  subst e'
  exact PySem.P.truthy_int ⟨H,I,q⟩
 | str y=>
  obtain ⟨t,rfl⟩:=rx
  obtain ⟨hy,e'⟩:y.length≤sizeLine∧k=((y.length:Int) != 0):=e
  subst e'
  exact PySem.P.truthy_str (by omega) ⟨H,I.tok _,q⟩
 | byt y=>
  obtain ⟨t,rfl⟩:=rx
  obtain ⟨hy,e'⟩:y.size≤sizeLine∧k=((y.size:Int) != 0):=e
  subst e'
  exact PySem.W.truthy_bytes (by omega) ⟨H,I.tok _,q⟩
 | ref p=>
  cases rx
  have e':(∃ xs,SqL X.K H p xs∧k=!xs.isEmpty)∨(∃ xs,SqT X.K H p xs∧k=!xs.isEmpty)∨∃ kvs,H p=some (.dK kvs)∧k=!kvs.isEmpty:=e
  rcases e' with ⟨xs,hx,e'⟩ | ⟨xs,hx,e'⟩ | ⟨kvs,hx,e'⟩
  ·subst e'
   obtain ⟨its,r,pl,hz⟩:=I.list hx
   have hlen:=r.length
   exact wpAny_truthy_list pl.isList (by simp only [List.size_toArray]; omega) ⟨H,I.tok _,by rw [sU r]; exact q⟩
  ·subst e'
   obtain ⟨its,r,pl,hz⟩:=I.tuple hx
   have hlen:=r.length
   exact truthy_tuple pl (by simp only [List.size_toArray]; omega) ⟨H,I.tok _,by rw [sU r]; exact q⟩
  ·subst e'
   obtain ⟨hz,hS,vs,r,m⟩:kvs.length≤sizeLine∧(p == sysModules)=false∧∃ vs,KV kvs vs∧s.heap.DictOf (qU X.prog X.w) p vs:=I.hok p _ hx
   have hlen:kvs.length=vs.length:=Paired.length r
   exact wpAny_truthy_dict hS m (by omega) ⟨H,I.tok _,by rw [nW r]; exact q⟩
 | _=>exact (show False from e).elim
theorem p8 (ha:PE X a ta) (he:∀ yM,isTrue a X.env yM=(do let v ← yM; standAt a.pos; holding [v] (truthy v))):
  PT X a (fun σ H Q=>ta σ H fun x H'=>∃ k,SQ X.K x H' k∧Q k H'):=by
 intro pins s σ H Q I h
 exact isTrue_plain (thn (ha pins s σ H _ I h) fun v s1 ⟨x,H1,I1,r1,q1⟩=>Z3 pins s1 σ H1 x v Q I1 r1 q1) (he _)
theorem Zp {x:V} {us:List Value} (r:Vals [x] us):∃ u,us=[u]∧RelV x u:=by
 cases r with
 | cons r1 r2=>cases r2; exact ⟨_,rfl,r1⟩
theorem Zo {x y:V} {us:List Value} (r:Vals [x,y] us):∃ u w',us=[u,w']∧RelV x u∧RelV y w':=by
 cases r with
 | cons r1 r2=>
  cases r2 with
  | cons r3 r4=>cases r4; exact ⟨_,_,rfl,r1,r3⟩
theorem kP (hc:X.calm=true):CallR X (.builtin "max") (fun xs H Q=>∃ i j,xs=[.int i,.int j]∧Q (.int (if j>i then j else i)) H):=by
 intro pins s σ H xs us Q I r h
 obtain ⟨i,j,rfl,q⟩:=h
 obtain ⟨u,w',rfl,⟨t,rfl⟩,⟨t',rfl⟩⟩:=Zo r
 refine max_two_ints (I.ok.hd hc) fun h' tk k=>⟨_,H,I.kept k,?_,q⟩
 by_cases hj:j>i
 ·rw [if_pos hj,if_pos hj]; exact ⟨_,rfl⟩
 ·rw [if_neg hj,if_neg hj]; exact ⟨_,rfl⟩
theorem kO (hc:X.calm=true):CallR X (.builtin "min") (fun xs H Q=>∃ i j,xs=[.int i,.int j]∧Q (.int (if j<i then j else i)) H):=by
 intro pins s σ H xs us Q I r h
 obtain ⟨i,j,rfl,q⟩:=h
 obtain ⟨u,w',rfl,⟨t,rfl⟩,⟨t',rfl⟩⟩:=Zo r
 refine min_two_ints (I.ok.hd hc) fun h' tk k=>⟨_,H,I.kept k,?_,q⟩
 by_cases hj:j<i
 ·rw [if_pos hj,if_pos hj]; exact ⟨_,rfl⟩
 ·rw [if_neg hj,if_neg hj]; exact ⟨_,rfl⟩
end
end L2
namespace L2
open PySem PySem.Spec PyProof.Rows
structure ObjM (h:Heap) (x dx C:Addr) (mA:Str→Option Value):Prop where
 obj:h.get? x=some (PySem.W.instObj C dx)
 ns:h.Ns1 dx mA
 ne:dx≠x
theorem kx {h:Heap} {dx:Addr} {mA:Str→Option Value} (n:h.Ns1 dx mA):∃ od,h.get? dx=some od∧∀ name,PySem.W.lookIn name od=some (mA name):=by
 obtain ⟨o,es,ep,ho,hd,hk,_,hm⟩:=n
 refine ⟨o,ho,fun name=>?_⟩
 have e:=hm name
 unfold nsFind findBy at e
 rw [← Array.find?_toList] at e
 unfold PySem.W.lookIn
 rw [hd]
 dsimp only
 split
 ·rename_i y q
  rw [q] at e
  exact congrArg some e
 ·rename_i q
  rw [q] at e
  have a:es.toList.any (·.refKey)=false:=by
   rw [List.any_eq_false]
   intro y hy
   obtain ⟨z,t,hkey⟩:=hk y (Array.mem_toList_iff.mp hy)
   simp [DictEntry.refKey,hkey]
  have a':¬ es.toList.any (·.refKey)=true:=by rw [a]; exact Bool.false_ne_true
  rw [if_neg a']
  exact congrArg some e
theorem ObjM.look {h:Heap} {x dx C:Addr} {mA:Str→Option Value} (I:ObjM h x dx C mA):∃ od,PySem.W.InstAt h x (PySem.W.instObj C dx) C (some od)∧∀ name,PySem.W.lookIn name od=some (mA name):=
 let ⟨od,ho,hl⟩:=kx I.ns
 ⟨od,⟨I.obj,rfl,rfl,ho⟩,hl⟩
section
variable {prog:Program} {w:World} {A:Around} {E:Value→Shared→Prop} {s:Shared} {K:PySem.W.Frag} {x dx C f:Addr} {mA:Str→Option Value} {name:Str} {v:Value}
theorem aP {expr:Bool} {Q:Value→Shared→Prop} (X:K.In s.heap) (I:ObjM s.heap x dx C mA) (hg:PySem.W.plainGet K C name=true) (hh:PySem.W.hasDictIn K C=true)
  (ha:PySem.W.findIn K (.ref C) name=some none) (hv:mA name=some v) (hv':PySem.W.handedIn v=true) (h:Q v { s with toks:=s.toks+1 }):
  wpAny (model prog w) A (getAttr (.ref x) name expr) Q E s:=by
 obtain ⟨od,J,hl⟩:=I.look
 exact PySem.W.get_value X J (PySem.W.plainGet_of hg).1 (PySem.W.findObj_own hh ha rfl (by rw [hl,hv])) hv' h
theorem gZ {pl:Sem Bool} {Q:Value × List Value→Shared→Prop} (X:K.In s.heap) (I:ObjM s.heap x dx C mA) (hg:PySem.W.plainGet K C name=true)
  (hf:PySem.W.findIn K (.ref C) name=some (some (.ref f))) (ht:PySem.W.isFn K (.ref f)=true) (hv:mA name=none) (h:Q (.ref f,[.ref x]) s):
  wpAny (model prog w) A (getMethod (.ref x) name pl) Q E s:=by
 obtain ⟨od,J,hl⟩:=I.look
 exact PySem.W.method_fn X J (PySem.W.plainGet_of hg).1 (PySem.W.plainGet_of hg).2 hf (beq_iff_eq.mp ht) (by show (PySem.W.lookIn name od).map (·.isSome)=some false; rw [hl,hv]; rfl) h
theorem e7 {ns:List Str} {Q:Unit→Shared→Prop} (X:K.In s.heap) (I:ObjM s.heap x dx C mA)
  (hs:PySem.W.findIn K (.ref C) "__setattr__"=some (some (.builtin "object.__setattr__"))) (hp:PySem.W.plainOver K C=true) (ht:PySem.W.takerIn K C name=some none) (hh:PySem.W.hasDictIn K C=true)
  (hw:PySem.Within mA ns) (hsz:ns.length≤sizeLine)
  (h:∀ h',ObjM h' x dx C (fun y=>if y=name then some v else mA y)→Heap.SameBut dx s.heap h'→Q () { s with heap:=h',toks:=s.toks+2 }):
  wpAny (model prog w) A (setAttr (.ref x) name v) Q E s:=by
 obtain ⟨od,J,hl⟩:=I.look
 refine PySem.W.set_plain X J hs (PySem.W.osa_open (s:={ s with toks:=s.toks+1 }) (r:=none) X J hp ht fun b=>?_)
 obtain ⟨cd,hc,hd'⟩:=PySem.W.any_some hh
 have hx:s.heap.get? x=some ⟨.ref C,some dx,.plain,#[]⟩:=I.obj
 refine wpAny_bind (wpAny_pure (wpAny_bind (wpAny_bind (wpAny_loadPart hx (wpAny_bind (PySem.W.Looks.here (s:={ s with toks:=s.toks+1 }) (PySem.W.looks_clsIn X hc) ?_))))))
 rw [hd']
 refine wpAny_pure (a:=some dx) (wpAny_bind (wpAny_pure (wpAny_bind ?_)))
 refine wpAny_nsSet1 (s:={ s with toks:=s.toks+1 }) I.ns fun h' hn2 hs2=>?_
 obtain ⟨oD,esD,epD,hoD,hdD,hcD⟩:=hn2.count (PySem.Within.cons name v hw)
 refine wpAny_bind (wpAny_lookBehind hoD (by rw [hdD]; exact pastItsLine_dict (Nat.le_trans hcD (by rw [List.length_cons]; omega))) ?_)
 exact wpAny_pure (h _ ⟨(hs2.2 _ (Ne.symm I.ne)).trans I.obj,hn2,I.ne⟩ hs2)
theorem gL {R:Result→Shared→Prop} {vs:List Value} {kw:List (Str × Value)} (X:K.In s.heap) (hm:PySem.W.makesIn K C=true)
  (hi:PySem.W.findIn K (.ref C) "__init__"=some (some (.ref f))) (hf:PySem.W.typeIn K (.ref f)=some (.type "function"))
  (h:codeAny (model prog w) (A.under (.builtin "type.__call__" ⟨.ref C::vs,kw⟩)) (.call (.ref f) ⟨.ref (s.heap.objs.size+1)::vs,kw⟩) (PySem.W.InitBack (s.heap.objs.size+1) R)
   { s with heap:=(s.heap.push PySem.W.emptyDict).push (PySem.W.instObj C s.heap.objs.size) }):
  codeAny (model prog w) A (.call (.ref C) ⟨vs,kw⟩) R s:=by
 obtain ⟨hh,g,d,t,os⟩:=s
 exact PySem.W.make_core (PySem.W.makes_of X hm) (PySem.W.looks_findIn X hi) (fun self=>PySem.W.bind_fn X self hf) (.inl rfl) h
end
def vp (f:Str) (v:V):List (Str × V)→List (Str × V)
 | []=>[(f,v)]
 | (g,x)::r=>if g=f then (g,v)::r else (g,x)::vp f v r
theorem u7 (f g:Str) (v:V):∀ fs:List (Str × V),(vp f v fs).lookup g=if g=f then some v else fs.lookup g
 | []=>by
  show List.lookup g [(f,v)]=_
  by_cases h:g=f
  ·have hb:(g == f)=true:=beq_iff_eq.mpr h
   simp only [List.lookup,hb,if_pos h]
  ·have hb:(g == f)=false:=beq_eq_false_iff_ne.mpr h
   simp only [List.lookup,hb,if_neg h]
 | (k,x)::r=>by
  have ih:=u7 f g v r
  rw [show vp f v ((k,x)::r)=(if k=f then (k,v)::r else (k,x)::vp f v r) from rfl]
  by_cases hk:k=f
  ·rw [if_pos hk]
   by_cases h:g=k
   ·have hb:(g == k)=true:=beq_iff_eq.mpr h
    simp only [List.lookup,hb,if_pos (h.trans hk)]
   ·have hb:(g == k)=false:=beq_eq_false_iff_ne.mpr h
    simp only [List.lookup,hb,if_neg (fun e:g=f=>h (e.trans hk.symm))]
  ·rw [if_neg hk]
   by_cases h:g=k
   ·have hb:(g == k)=true:=beq_iff_eq.mpr h
    simp only [List.lookup,hb,if_neg (fun e:g=f=>hk (h.symm.trans e))]
   ·have hb:(g == k)=false:=beq_eq_false_iff_ne.mpr h
    simp only [List.lookup,hb]
    exact ih
theorem uR (f:Str) (v:V):∀ fs:List (Str × V),f∈(vp f v fs).map (·.1)∧∀ g,g∈fs.map (·.1)→g∈(vp f v fs).map (·.1)
 | []=>⟨by simp [vp],fun g h=>by simp at h⟩
 | (k,x)::r=>by
  obtain ⟨i1,i2⟩:=uR f v r
  rw [show vp f v ((k,x)::r)=(if k=f then (k,v)::r else (k,x)::vp f v r) from rfl]
  by_cases hk:k=f
  ·rw [if_pos hk]
   subst hk
   exact ⟨by simp,fun g h=>by simpa using h⟩
  ·rw [if_neg hk]
   refine ⟨?_,fun g h=>?_⟩
   ·rw [List.map_cons]
    exact List.mem_cons_of_mem _ i1
   ·rw [List.map_cons] at h ⊢
    rcases List.mem_cons.mp h with e | e
    ·exact List.mem_cons.mpr (.inl e)
    ·exact List.mem_cons_of_mem _ (i2 g e)
theorem u8 (f:Str) (v:V):∀ fs:List (Str × V),(vp f v fs).length≤fs.length+1
 | []=>by simp [vp]
 | (k,x)::r=>by
  have ih:=u8 f v r
  rw [show vp f v ((k,x)::r)=(if k=f then (k,v)::r else (k,x)::vp f v r) from rfl]
  by_cases hk:k=f
  ·rw [if_pos hk,List.length_cons,List.length_cons]; omega
  ·rw [if_neg hk,List.length_cons,List.length_cons]; omega
theorem RelO.some_of {v:V} {o:Option Value} (r:RelO (some v) o):∃ u,o=some u∧RelV v u:=by
 cases o with
 | none=>exact (show False from r).elim
 | some u=>exact ⟨u,rfl,r⟩
theorem RelO.none_of {o:Option Value} (r:RelO none o):o=none:=by
 cases o with
 | none=>rfl
 | some u=>exact (show False from r).elim
theorem kH {v:V} {u:Value} (r:RelV v u):PySem.W.handedIn u=true:=by
 cases v with
 | non=>cases (show u=Value.none from r); rfl
 | bl b=>cases (show u=Value.bool b from r); rfl
 | int i=>obtain ⟨t,e⟩:=(show ∃ t,u=Value.int i t from r); cases e; rfl
 | str x=>obtain ⟨t,e⟩:=(show ∃ t,u=Value.str x t from r); cases e; rfl
 | byt b=>obtain ⟨t,e⟩:=(show ∃ t,u=Value.bytes b t from r); cases e; rfl
 | flt b=>obtain ⟨t,e⟩:=(show ∃ t,u=Value.float b t from r); cases e; rfl
 | ref a=>cases (show u=Value.ref a from r); rfl
 | ty n=>cases (show u=Value.type n from r); rfl
section
variable {P:Program} {w:World} {H H':Hp} {h h':Heap} {a C dx:Addr} {fs fs':List (Str × V)}
theorem tT (hok:HOk P w H h) (e:H a=some (.ins C dx fs)):∃ mA,ObjM h a dx C mA∧(∀ f,RelO (fs.lookup f) (mA f))∧PySem.Within mA (fs.map (·.1))∧fs.length≤1000∧H dx=some (.own a):=by
 obtain ⟨d,z,ne,ob,mA,n,r,q⟩:=(show ObjOk P w H h a (.ins C dx fs) from hok a _ e)
 exact ⟨mA,⟨ob,n,ne⟩,r,q,z,d⟩
end
structure Cls (K:PySem.W.Frag) (C:Addr):Prop where
 pg:PySem.W.plainGet K C Str.empty=true
 hd:PySem.W.hasDictIn K C=true
 po:PySem.W.plainOver K C=true
 sa:PySem.W.findIn K (.ref C) "__setattr__"=some (some (.builtin "object.__setattr__"))
theorem Cls.get {K:PySem.W.Frag} {C:Addr} (c:Cls K C) (f:Str):PySem.W.plainGet K C f=true:=c.pg
def NoAttr (K:PySem.W.Frag) (C:Addr) (f:Str):Prop:=PySem.W.findIn K (.ref C) f=some none
theorem NoAttr.taker {K:PySem.W.Frag} {C:Addr} {f:Str} (n:NoAttr K C f):PySem.W.takerIn K C f=some none:=by
 unfold PySem.W.takerIn
 rw [show PySem.W.findIn K (.ref C) f=some none from n]
 rfl
structure eO (K:PySem.W.Frag) (C:Addr) (m:Str) (f:Addr):Prop where
 at_:PySem.W.findIn K (.ref C) m=some (some (.ref f))
 fn:PySem.W.isFn K (.ref f)=true
 kp:PySem.W.keepIn K (.ref f)=true
section
variable {X:Cx} {pins:List (Addr × Obj)} {σ:St} {H:Hp} {s:Shared} {a C dx:Addr} {fs:List (Str × V)} {f:Str} {v:V} {A:Around} {E:Value→Shared→Prop}
theorem n5 {b:Bool} {Q:Value→Shared→Prop} (I:Inv X pins σ H s) (e:H a=some (.ins C dx fs)) (c:Cls X.K C) (n:NoAttr X.K C f) (l:fs.lookup f=some v)
  (h:∀ u s',Inv X pins σ H s'→RelV v u→Q u s'):wpAny (model X.prog X.w) A (getAttr (.ref a) f b) Q E s:=by
 obtain ⟨mA,O,r,_,_,_⟩:=tT I.hok e
 obtain ⟨u,hu,ru⟩:=RelO.some_of (v:=v) (o:=mA f) (by rw [← l]; exact r f)
 exact aP I.kIn O (c.get f) c.hd n hu (kH ru) (h u _ (I.tok _) ru)
theorem sV {m:Str} {g:Addr} {pl:Sem Bool} {Q:Value × List Value→Shared→Prop} (I:Inv X pins σ H s) (e:H a=some (.ins C dx fs)) (c:Cls X.K C) (k:eO X.K C m g) (l:fs.lookup m=none)
  (h:Q (.ref g,[.ref a]) s):wpAny (model X.prog X.w) A (getMethod (.ref a) m pl) Q E s:=by
 obtain ⟨mA,O,r,_,_,_⟩:=tT I.hok e
 have hn:mA m=none:=RelO.none_of (by rw [← l]; exact r m)
 exact gZ I.kIn O (c.get m) k.at_ k.fn hn h
theorem nl {y:V} {u:Value} {Q:Unit→Shared→Prop} (I:Inv X pins σ H s) (e:H a=some (.ins C dx fs)) (c:Cls X.K C) (n:NoAttr X.K C f) (hl:fs.length<1000) (ry:RelV y u)
  (h:∀ s',Inv X pins σ (upd H a (.ins C dx (vp f y fs))) s'→Q () s'):wpAny (model X.prog X.w) A (setAttr (.ref a) f u) Q E s:=by
 obtain ⟨mA,O,r,wi,_,ho⟩:=tT I.hok e
 have hz:(fs.map (·.1)).length≤sizeLine:=by rw [List.length_map,sizeLine_eq]; omega
 refine e7 I.kIn O c.sa c.po n.taker c.hd wi hz fun h' O' sb=>h _ ?_
 have hd:∃ o,h'.get? dx=some o:=let ⟨o,_,_,e',_⟩:=O'.ns; ⟨o,e'⟩
 refine I.write (x:=a) (e:=dx) (by rw [e]; exact True.intro) (.inr ho) (fun b q hb z=>(sb.2 b hb).trans z) hd ?_
 refine ⟨by rw [zu O.ne]; exact ho,?_,O.ne,O'.obj,_,O'.ns,fun g=>?_,fun g hg=>?_⟩
 ·have:=u8 f y fs; omega
 ·show RelO ((vp f y fs).lookup g) (if g=f then some u else mA g)
  rw [u7]
  by_cases q:g=f
  ·rw [if_pos q,if_pos q]; exact ry
  ·rw [if_neg q,if_neg q]; exact r g
 ·by_cases q:g=f
  ·rw [q]; exact (uR f y fs).1
  ·refine (uR f y fs).2 g (wi g fun z=>hg ?_)
   show (if g=f then some u else mA g)=none
   rw [if_neg q]; exact z
theorem Inv.made (I:Inv X pins σ H s):Inv X pins σ (upd (upd H s.heap.objs.size (.own (s.heap.objs.size+1))) (s.heap.objs.size+1) (.ins C s.heap.objs.size []))
  { s with heap:=(s.heap.push PySem.W.emptyDict).push (PySem.W.instObj C s.heap.objs.size) }:=by
 have e1:(s.heap.push PySem.W.emptyDict).get? s.heap.objs.size=some PySem.W.emptyDict:=Heap.get?_push_size s.heap rfl
 have e2:((s.heap.push PySem.W.emptyDict).push (PySem.W.instObj C s.heap.objs.size)).get? (s.heap.objs.size+1)=some (PySem.W.instObj C s.heap.objs.size):=by
  have:=Heap.get?_push_size (s.heap.push PySem.W.emptyDict) (o:=PySem.W.instObj C s.heap.objs.size) rfl
  rwa [Heap.size_push] at this
 have e3:(s.heap.push PySem.W.emptyDict).Ns s.heap.objs.size (fun _=>none):=⟨PySem.W.emptyDict,#[],_,e1,rfl,(fun e he=>absurd he (by simp)),fun _=>rfl⟩
 have I1:=I.laid (a:=s.heap.objs.size) (o:=.own (s.heap.objs.size+1)) (h':=s.heap.push PySem.W.emptyDict) (t':=s.toks) (fun b u q=>Heap.get?_push_of_some _ q) (Nat.le_refl _) ⟨_,e1⟩
 refine I1.laid (a:=s.heap.objs.size+1) (o:=.ins C s.heap.objs.size []) (t':=s.toks) (fun b u q=>Heap.get?_push_of_some _ q) (Nat.le_of_eq (Heap.size_push _ _)) ?_
 have ne:s.heap.objs.size≠s.heap.objs.size+1:=Nat.ne_of_lt (Nat.lt_succ_self _)
 refine ⟨by rw [zu ne,zw],Nat.zero_le _,ne,e2,fun _=>none,(Heap.Ns1.of_empty e3).at fun o q=>Heap.get?_push_of_some _ q,fun _=>True.intro,fun y hy=>absurd rfl hy⟩
theorem Zj {prog:Program} {w:World} {env:Env} {e:Expr} {f:Str} {pos:Pos} {s:Shared} {Q:Value→Shared→Prop} (hb:attributeBase e f env (eval e env)=eval e env)
  (h:wpAny (model prog w) A (eval e env) (fun o s₁=>wpAny (model prog w) A (getAttr o f true) Q E s₁) E s):wpAny (model prog w) A (eval (.Attribute e f pos) env) Q E s:=
 Attribute_any_ h (by rw [arm_eval_Attribute,hb])
end
def S8 (K:PySem.W.Frag) (ta:TE) (f:Str):TE:=fun σ H Q=>ta σ H fun x H1=>∃ a C dx fs v,x=.ref a∧H1 a=some (.ins C dx fs)∧Cls K C∧NoAttr K C f∧fs.lookup f=some v∧Q v H1
def UH (K:PySem.W.Frag) (ta tv:TE) (f:Str):TS:=fun D σ H=>tv σ H fun y H1=>ta σ H1 fun x H2=>∃ a C dx fs,x=.ref a∧H2 a=some (.ins C dx fs)∧Cls K C∧NoAttr K C f∧fs.length<1000∧
 D.nx σ (upd H2 a (.ins C dx (vp f y fs)))
section
variable {X:Cx} {o e value:Expr} {f:Str} {pos pos' tpos:Pos} {ta tv:TE}
theorem Yu (he:PE X e ta) (hb:attributeBase e f X.env (eval e X.env)=eval e X.env):PE X (.Attribute e f pos) (S8 X.K ta f):=by
 intro pins s σ H Q I h
 refine Zj hb (thn (he pins s σ H _ I h) fun u s1 ⟨x,H1,I1,rx,a,C,dx,fs,v,ex,ea,c,n,l,q⟩=>?_)
 subst ex
 obtain rfl:u=Value.ref a:=rx
 exact n5 I1 ea c n l fun u' s2 I2 ru=>⟨v,H1,I2,ru,q⟩
theorem uH (ha:PE X o ta) (hv:PE X value tv) (hs:swapsWith value (some (.Attribute o f pos')) pos.line X.env=pure false):PS X (.Assign [.Attribute o f pos'] value pos) (UH X.K ta tv f):=by
 intro pins s σ H D I h
 refine plainObj_wpAny_Assign_Attribute (thn (hv pins s σ H _ I h) fun u s1 ⟨y,H1,I1,ry,q⟩=>thn (ha pins s1 σ H1 _ I1 q) fun ov s2 ⟨x,H2,I2,rx,a,C,dx,fs,ex,ea,c,n,l,q2⟩=>?_) hs
 subst ex
 obtain rfl:ov=Value.ref a:=rx
 exact nl I2 ea c n l ry fun s3 I3=>⟨σ,_,I3,q2⟩
end
section
variable {X:Cx} {pins:List (Addr × Obj)} {σ:St} {H:Hp} {s:Shared} {A:Around} {E:Value→Shared→Prop} {Q:Value→Shared→Prop} {c:Value} {b:Bool}
inductive vO (K:PySem.W.Frag) (H:Hp):V→Value→Prop where
 | non:vO K H .non (.type "NoneType")
 | bl (x:Bool):vO K H (.bl x) (.type "bool")
 | int (i:Int):vO K H (.int i) (.type "int")
 | str (x:Str):vO K H (.str x) (.type "str")
 | flt (x:UInt64):vO K H (.flt x) (.type "float")
 | lst {a:Addr} {xs:List V} (e:H a=some (.lst xs)):vO K H (.ref a) (.type "list")
 | frz {a:Addr} {o:Obj} {xs:List V} (e:H a=some (.frz o (.lst xs))):vO K H (.ref a) (.type "list")
 | tup {a:Addr} {xs:List V} (e:H a=some (.tup xs)):vO K H (.ref a) (.type "tuple")
 | dK {a:Addr} {kvs:List (Key × V)} (e:H a=some (.dK kvs)):vO K H (.ref a) (.type "dict")
 | dT {a:Addr} {kvs:List (List Key × V)} (e:H a=some (.dT kvs)):vO K H (.ref a) (.type "dict")
 | ins {a C dx:Addr} {fs:List (Str × V)} (e:H a=some (.ins C dx fs)) (cl:Cls K C) (ha:PySem.W.findIn K (.ref C) "__class__"=some (some (.builtin "object.__class__")))
   (hn:PySem.W.specialIn K (.builtin "object.__class__") "__get__"=some (some (.builtin "getset_descriptor.__get__"))) (htk:PySem.W.takesIn K (.builtin "object.__class__")=some true)
   (hm:PySem.W.mroIn K C (.type "object")=some true):vO K H (.ref a) (.ref C)
theorem rW {x:V} {u t:Value} (I:Inv X pins σ H s) (rx:RelV x u) (ty:vO X.K H x t) (e:PySem.W.kitOne X.K t c=some b) (h:∀ tk,Q (.bool b) { s with toks:=tk }):
  wpAny (model X.prog X.w) A (call (.builtin "isinstance") [u,c]) Q E s:=by
 cases ty with
 | non=>cases (show u=Value.none from rx); exact PySem.W.kia_one PySem.W.kitx_none I.kIn True.intro e (fun z=>nomatch z) h
 | bl y=>cases (show u=Value.bool y from rx); exact PySem.W.kia_one PySem.W.kitx_bool I.kIn True.intro e (fun z=>nomatch z) h
 | int i=>obtain ⟨t,q⟩:=(show ∃ t,u=Value.int i t from rx); cases q; exact PySem.W.kia_one PySem.W.kitx_int I.kIn True.intro e (fun z=>nomatch z) h
 | str y=>obtain ⟨t,q⟩:=(show ∃ t,u=Value.str y t from rx); cases q; exact PySem.W.kia_one PySem.W.kitx_str I.kIn True.intro e (fun z=>nomatch z) h
 | flt y=>obtain ⟨t,q⟩:=(show ∃ t,u=Value.float y t from rx); cases q; exact PySem.W.kia_one PySem.W.kitx_float I.kIn True.intro e (fun z=>nomatch z) h
 | @lst a xs ea=>
  cases (show u=Value.ref a from rx)
  obtain ⟨_,_,n,_,h1⟩:=(show ObjOk X.prog X.w H s.heap a (.lst xs) from I.hok a _ ea)
  exact PySem.W.kia_one PySem.W.kitx_list I.kIn ⟨_,h1,rfl⟩ e (fun z=>nomatch z) h
 | @frz a ob xs ea=>
  cases (show u=Value.ref a from rx)
  obtain ⟨_,_,_,n,_,h1⟩:=(show ObjOk X.prog X.w H s.heap a (.frz ob (.lst xs)) from I.hok a _ ea)
  exact PySem.W.kia_one PySem.W.kitx_list I.kIn ⟨_,h1,rfl⟩ e (fun z=>nomatch z) h
 | @tup a xs ea=>
  cases (show u=Value.ref a from rx)
  obtain ⟨_,_,_,p⟩:=(show ObjOk X.prog X.w H s.heap a (.tup xs) from I.hok a _ ea)
  obtain ⟨o,h1,h2,_⟩:=p
  exact PySem.W.kia_one PySem.W.kitx_tuple I.kIn ⟨o,h1,h2⟩ e (fun z=>nomatch z) h
 | @dK a kvs ea=>
  cases (show u=Value.ref a from rx)
  obtain ⟨_,_,vs,_,p⟩:=(show ObjOk X.prog X.w H s.heap a (.dK kvs) from I.hok a _ ea)
  obtain ⟨o,es,ep,h1,h2,_⟩:=p
  exact PySem.W.kia_one PySem.W.kitx_dict I.kIn ⟨o,h1,h2.1⟩ e (fun z=>nomatch z) h
 | @dT a kvs ea=>
  cases (show u=Value.ref a from rx)
  obtain ⟨_,_,xs,_,o,es,ep,h1,h2,_⟩:=(show ObjOk X.prog X.w H s.heap a (.dT kvs) from I.hok a _ ea)
  exact PySem.W.kia_one PySem.W.kitx_dict I.kIn ⟨o,h1,h2.1⟩ e (fun z=>nomatch z) h
 | @ins a C dx fs ea cl ha hn htk hm=>
  cases (show u=Value.ref a from rx)
  obtain ⟨mA,O,_⟩:=tT I.hok ea
  obtain ⟨od,J,_⟩:=O.look
  exact PySem.W.kia_one (PySem.W.kitx_own (cl.get _) cl.hd ha hn htk hm) I.kIn J e (fun z=>nomatch z) h
end
end L2
namespace L2
open PySem PySem.Spec PyProof.Rows
structure Room (k:Nat) (A:Around):Prop where
 hd:A.handled=none
 dp:A.depth+3*k+5<recursionLimit
 un:A.units+16*k+200<cLine
theorem Room.mono {j k:Nat} {A:Around} (r:Room k A) (h:j≤k):Room j A:=⟨r.hd,by have:=r.dp; omega,by have:=r.un; omega⟩
theorem Room.deeper {k:Nat} {A:Around} (r:Room (k+1) A) (env:Env):Room k (A.deeper env):=
 ⟨r.hd,by have:=r.dp; show A.depth+1+3*k+5<_; omega,by have:=r.un; show A.units+3+16*k+200<_; omega⟩
theorem Room.in1 {k:Nat} {A:Around} (r:Room (k+1) A):Room k A.in1:=
 ⟨r.hd,by have:=r.dp; show A.depth+3*k+5<_; omega,by have:=r.un; show A.units+1+16*k+200<_; omega⟩
theorem nS {A:Around} {C:Addr} {us:List Value} {kw:List (Str × Value)}:(A.under (.builtin "type.__call__" ⟨.ref C::us,kw⟩)).depth=A.depth+1:=by
 first | rfl | simp [Around.under,Code.weight,Code.isCreation,Code.isGuard,Code.isCaller,Code.frames,Code.isFrame,guardIds]
theorem nR {A:Around} {C:Addr} {us:List Value} {kw:List (Str × Value)}:(A.under (.builtin "type.__call__" ⟨.ref C::us,kw⟩)).units=A.units+1:=by
 first | rfl | simp [Around.under,Code.cUnits,Code.frames,Code.isFrame]
theorem Room.make {k:Nat} {A:Around} (r:Room (k+1) A) (C:Addr) (us:List Value) (kw:List (Str × Value)):Room k (A.under (.builtin "type.__call__" ⟨.ref C::us,kw⟩)):=
 ⟨r.hd,by have:=r.dp; rw [nS]; omega,by have:=r.un; rw [nR]; omega⟩
theorem Room.depth {k:Nat} {A:Around} (r:Room k A):A.depth<recursionLimit:=by have:=r.dp; omega
theorem Room.units {k:Nat} {A:Around} (r:Room k A):A.units+64<cLine:=by have:=r.un; omega
def Ux:TA:=fun _ H Q=>Q [] H
def UC (ta:TE) (tr:TA):TA:=fun σ H Q=>ta σ H fun x H1=>tr σ H1 fun xs H2=>Q (x::xs) H2
section
variable {X:Cx} {e:Expr} {es:List Expr} {te:TE} {t:TA} {pos:Pos}
theorem ym:PA X [] Ux:=fun _ _ _ _ H Q I h=>Calls.spliced_nil ⟨[],H,I,.nil,h⟩
theorem zI (ha:PE X e te) (hr:PA X es t) (hs:starEach (e::es) X.env=(false,eval e X.env)::starEach es X.env:=by rfl):PA X (e::es) (UC te t):=by
 intro pos pins s σ H Q I h
 rw [hs]
 show wpAny _ _ (spliced ((false,eval e X.env)::backTo pos (starEach es X.env))) _ _ s
 refine Calls.spliced_cons (thn (ha pins s σ H _ I h) fun u s1 ⟨x,H1,I1,r1,q1⟩=>?_)
 exact thn (hr pos pins s1 σ H1 _ I1 q1) fun us s2 ⟨xs,H2,I2,r2,q2⟩=>⟨x::xs,H2,I2,.cons r1 r2,q2⟩
def S1 (t:TA):TE:=fun σ H Q=>t σ H fun xs H1=>xs.length≤sizeLine∧∀ p,H1 p=none→Q (.ref p) (upd H1 p (.tup xs))
def S5 (t:TA):TE:=fun σ H Q=>t σ H fun xs H1=>xs.length≤sizeLine∧∀ p,H1 p=none→Q (.ref p) (upd H1 p (.lst xs))
theorem jB {x1} (h:PA X es t):PE X (.Tuple es x1 pos) (S1 t):=by
 intro pins s σ H Q I hq
 refine wpAny_Tuple_spliced (thn (h pos pins s σ H _ I hq) fun us s1 ⟨xs,H1,I1,r,z,q⟩=>⟨by rw [← r.length]; exact z,?_⟩)
 have hf:H1 s1.heap.objs.size=none:=I1.hok.fresh (Nat.le_refl _)
 refine ⟨.ref s1.heap.objs.size,upd H1 s1.heap.objs.size (.tup xs),I1.laid (t':=s1.toks) (fun b u e=>Heap.get?_push_of_some _ e) (Nat.le_refl _) ?_,rfl,q _ hf⟩
 exact ⟨z,us,r,⟨_,Heap.get?_push_size _ rfl,rfl,_,rfl⟩⟩
theorem jE (h:PA X es t):PE X (.List es pos) (S5 t):=by
 intro pins s σ H Q I hq
 refine wpAny_List_spliced (thn (h pos pins s σ H _ I hq) fun us s1 ⟨xs,H1,I1,r,z,q⟩=>⟨by rw [← r.length]; exact z,?_⟩)
 have hf:H1 s1.heap.objs.size=none:=I1.hok.fresh (Nat.le_refl _)
 refine ⟨.ref s1.heap.objs.size,upd H1 s1.heap.objs.size (.lst xs),I1.laid (t':=s1.toks) (fun b u e=>Heap.get?_push_of_some _ e) (Nat.le_refl _) ?_,rfl,q _ hf⟩
 exact ⟨z,us,0,r,Heap.get?_push_size _ rfl⟩
end
abbrev Sp:=List V→Hp→VK→XK→Prop
abbrev CXT:=List Env→Hp→Shared→XK→Value→Shared→Prop
structure Env0 (P:Program) (w:World) (K:PySem.W.Frag) (mg:Str→Option Value) (base:Heap) (A:Around) (outer:List Env) (s:Shared) (H:Hp):Prop where
 frames:A.frames=some outer
 mod:Mod K mg base
 bs:∀ b o,base.get? b=some o→s.heap.get? b=some o∧H b=none
 bsz:base.objs.size≤s.heap.objs.size
 funs:s.heap.FunFrames base outer
 frf:∀ b∈frs outer,H b=none
 hok:HOk P w H s.heap
 bare:AllBare s.gens
def CE (outer:List Env) (P:Program) (w:World) (H:Hp) (s:Shared) (Q:VK) (u:Value) (s':Shared):Prop:=
 ∃ v H',s'.os=s.os∧AllBare s'.gens∧Un (frs outer) [] H H' s.heap s'.heap∧HOk P w H' s'.heap∧RelV v u∧Q v H'
def CR (CX:CXT) (outer:List Env) (P:Program) (w:World) (H:Hp) (s:Shared) (Q:VK) (E:XK) (r:Result) (s':Shared):Prop:=
 match r with
 | .ok (.ret u)=>CE outer P w H s Q u s'
 | .ok _=>False
 | .error e=>CX outer H s E e s'
structure FnOk (P:Program) (w:World) (K:PySem.W.Frag) (mg:Str→Option Value) (base:Heap) (CX:CXT) (k:Nat) (f:Addr) (fd:FuncData) (ps:List Str) (sp:Sp):Prop where
 len:∀ vs H Q E,sp vs H Q E→vs.length=ps.length
 run:∀ (A:Around) (outer:List Env) (s:Shared) (H:Hp) (args:Args) (us:List Value) (vs:List V) (Q:VK) (E:XK),Room k A→Env0 P w K mg base A outer s H→BindsTo s fd args (ps.zip us)→Vals vs us→sp vs H Q E→
  codeAny (model P w) A (.call (.ref f) args) (CR CX outer P w H s Q E) s
theorem FnOk.mono {P:Program} {w:World} {K:PySem.W.Frag} {mg:Str→Option Value} {base:Heap} {CX:CXT} {j k:Nat} {f:Addr} {fd:FuncData} {ps:List Str} {sp:Sp} (F:FnOk P w K mg base CX j f fd ps sp) (h:j≤k):
  FnOk P w K mg base CX k f fd ps sp:=⟨F.len,fun A outer s H args us vs Q E hr=>F.run A outer s H args us vs Q E (hr.mono h)⟩
theorem FnOk.imp {P:Program} {w:World} {K:PySem.W.Frag} {mg:Str→Option Value} {base:Heap} {CX:CXT} {k:Nat} {f:Addr} {fd:FuncData} {ps:List Str} {sp sp':Sp} (F:FnOk P w K mg base CX k f fd ps sp)
  (h:∀ vs H Q E,sp' vs H Q E→sp vs H Q E):FnOk P w K mg base CX k f fd ps sp':=
 ⟨fun vs H Q E q=>F.len vs H Q E (h _ _ _ _ q),fun A outer s H args us vs Q E hr he hb hv hs=>F.run A outer s H args us vs Q E hr he hb hv (h _ _ _ _ hs)⟩
theorem Env0.make {P:Program} {w:World} {K:PySem.W.Frag} {mg:Str→Option Value} {base:Heap} {A:Around} {outer:List Env} {s:Shared} {H:Hp} (e:Env0 P w K mg base A outer s H) (C:Addr) (us:List Value) (kw:List (Str × Value)):
  Env0 P w K mg base (A.under (.builtin "type.__call__" ⟨.ref C::us,kw⟩)) outer s H:=⟨by first | exact e.frames | (simpa [Around.under,Code.envs,Code.isFrame,pushEnvs] using e.frames),e.mod,e.bs,e.bsz,e.funs,e.frf,e.hok,e.bare⟩
theorem Env0.in1 {P:Program} {w:World} {K:PySem.W.Frag} {mg:Str→Option Value} {base:Heap} {A:Around} {outer:List Env} {s:Shared} {H:Hp} (e:Env0 P w K mg base A outer s H):
  Env0 P w K mg base A.in1 outer s H:=⟨e.frames,e.mod,e.bs,e.bsz,e.funs,e.frf,e.hok,e.bare⟩
section
variable {X:Cx} {pins:List (Addr × Obj)} {σ:St} {H:Hp} {s s':Shared}
theorem Inv.env0 (I:Inv X pins σ H s):Env0 X.prog X.w X.K X.mg X.base X.A X.stack s H:=
 ⟨I.ok.frames,I.ok.mod,I.bs,Nat.le_trans I.ok.bsz I.sz,I.stack,I.stkFree,I.hok,I.bare⟩
theorem Inv.after {Q:VK} {u:Value} (I:Inv X pins σ H s) (h:CE X.stack X.prog X.w H s Q u s'):EP X pins σ Q u s':=by
 obtain ⟨v,H',os,bare,un,hok,r,q⟩:=h
 obtain ⟨hh,g,d,t,os'⟩:=s'
 obtain rfl:os'=s.os:=os
 exact ⟨v,H',I.call (h':=hh) (g':=g) (d':=d) (t':=t) (ch:=[]) un hok bare (fun b z=>absurd z (by simp)),r,q⟩
end
def UD (sp:Sp) (dvs:List V) (E:XK) (t:TA):TE:=fun σ H Q=>t σ H fun vs H1=>sp (vs++dvs) H1 Q E
def Uz (C:Addr) (sp:Sp) (dvs:List V) (E:XK) (t:TA):TE:=fun σ H Q=>t σ H fun vs H1=>∀ x dx,H1 x=none→H1 dx=none→dx≠x→
 sp (.ref x::(vs++dvs)) (upd (upd H1 dx (.own x)) x (.ins C dx [])) (fun v H2=>v=.non∧Q (.ref x) H2) E
def Binds (K:PySem.W.Frag) (fd:FuncData) (ps:List Str) (ds:List Value):Prop:=
 ∀ (s:Shared) (us:List Value),K.In s.heap→(us++ds).length=ps.length→BindsTo s fd ⟨us,[]⟩ (ps.zip (us++ds))
theorem Binds.all {K:PySem.W.Frag} {fd:FuncData} {ps:List Str} (h:∀ us:List Value,us.length=ps.length→bindArgs fd ⟨us,[]⟩=pure (ps.zip us)):Binds K fd ps []:=fun s us _ hl=>by
 rw [List.append_nil] at hl ⊢
 exact .of_eq (h us hl)
def u5 (CX:CXT) (X:Cx) (E:XK):Prop:=∀ (pins:List (Addr × Obj)) (σ:St) (H:Hp) (s:Shared) (e:Value) (s':Shared),Inv X pins σ H s→CX X.stack H s E e s'→X.xe e s'
section
variable {X:Cx} {CX:CXT} {k:Nat} {f C:Addr} {fd:FuncData} {ps:List Str} {sp:Sp} {dvs:List V} {ds:List Value} {E:XK} {x m:Str} {p pos apos:Pos} {e o:Expr} {es:List Expr} {ta:TE} {t:TA}
theorem nD {pins:List (Addr × Obj)} {σ:St} {H:Hp} {s:Shared} {Q:VK} {us:List Value} {vs:List V} (F:FnOk X.prog X.w X.K X.mg X.base CX k f fd ps sp) (hr:Room k X.A) (hb:Binds X.K fd ps ds) (hd:Vals dvs ds) (hx:u5 CX X E)
  (I:Inv X pins σ H s) (r:Vals vs us) (h:sp (vs++dvs) H Q E):wpAny (model X.prog X.w) X.A (call (.ref f) us) (EP X pins σ Q) X.xe s:=by
 have r2:Vals (vs++dvs) (us++ds):=r.append hd
 have hl:(us++ds).length=ps.length:=by rw [← r2.length]; exact F.len _ _ _ _ h
 refine wpAny_call (codeAny_mono (F.run X.A X.stack s H ⟨us,[]⟩ (us++ds) (vs++dvs) Q E hr I.env0 (hb s us I.kIn hl) r2 h) fun r s' hq=>?_)
 cases r with
 | error e=>exact hx pins σ H s e s' I hq
 | ok fl=>
  cases fl with
  | ret u=>exact I.after hq
  | next=>exact False.elim hq
  | brk=>exact False.elim hq
  | cont=>exact False.elim hq
theorem ve (F:FnOk X.prog X.w X.K X.mg X.base CX k f fd ps sp) (hr:Room k X.A) (hg:Gl X x) (hm:X.mg x=some (.ref f)) (hk:PySem.W.keepIn X.K (.ref f)=true) (hb:Binds X.K fd ps ds) (hd:Vals dvs ds) (hx:u5 CX X E)
  (ha:PA X (e::es) t) (hdb:(x == ("__debug__":Str))=false:=by decide) (he:starEach (e::es) X.env=(false,eval e X.env)::starEach es X.env:=by rfl) (hpl:(backTo pos (starEach es X.env)).any (·.1)=false:=by rfl):
  PE X (.Call (.Name x p) (e::es) [] pos) (UD sp dvs E t):=by
 intro pins s σ H Q I h
 refine wpAny_Call_Name_kw (wn I hg hm ?_ hdb)
 refine PySem.W.callWith_K (h₀:=X.base) I.ok.mod.kin hk (thn (ha pos pins s σ H _ I h) fun us s1 ⟨vs,H1,I1,r,q⟩=>⟨I1.kIn,?_⟩) he hpl
 exact nD F hr hb hd hx I1 r q
structure Mk (K:PySem.W.Frag) (C f:Addr):Prop where
 makes:PySem.W.makesIn K C=true
 init:PySem.W.findIn K (.ref C) "__init__"=some (some (.ref f))
 fn:PySem.W.isFn K (.ref f)=true
 kp:PySem.W.keepIn K (.ref C)=true
theorem ji {pins:List (Addr × Obj)} {σ:St} {H:Hp} {s:Shared} {Q:VK} {us:List Value} {vs:List V} (M:Mk X.K C f) (F:FnOk X.prog X.w X.K X.mg X.base CX k f fd ps sp) (hr:Room (k+1) X.A) (hb:Binds X.K fd ps ds) (hd:Vals dvs ds)
  (hx:u5 CX X E) (I:Inv X pins σ H s) (r:Vals vs us)
  (h:∀ x dx,H x=none→H dx=none→dx≠x→sp (.ref x::(vs++dvs)) (upd (upd H dx (.own x)) x (.ins C dx [])) (fun v H2=>v=.non∧Q (.ref x) H2) E):
  wpAny (model X.prog X.w) X.A (call (.ref C) us) (EP X pins σ Q) X.xe s:=by
 have hq:=h (s.heap.objs.size+1) s.heap.objs.size (I.hok.fresh (Nat.le_succ _)) (I.hok.fresh (Nat.le_refl _)) (Nat.ne_of_lt (Nat.lt_succ_self _))
 have I2:=Inv.made (C:=C) I
 have r2:Vals (V.ref (s.heap.objs.size+1)::(vs++dvs)) (Value.ref (s.heap.objs.size+1)::(us++ds)):=.cons rfl (r.append hd)
 have hl:(Value.ref (s.heap.objs.size+1)::us++ds).length=ps.length:=by
  have e:=r2.length
  rw [F.len _ _ _ _ hq] at e
  exact e.symm
 refine wpAny_call (gL (f:=f) I.kIn M.makes M.init (beq_iff_eq.mp M.fn) (codeAny_mono (F.run _ X.stack _ _ ⟨Value.ref (s.heap.objs.size+1)::us,[]⟩ (Value.ref (s.heap.objs.size+1)::(us++ds)) _ _ E (hr.make C us [])
  (I2.env0.make C us []) (hb _ (Value.ref (s.heap.objs.size+1)::us) I2.kIn hl) r2 hq) fun r s' hq'=>?_))
 cases r with
 | error e=>exact hx pins σ _ _ e s' I2 hq'
 | ok fl=>
  cases fl with
  | ret u=>
   obtain ⟨v,H',I3,rv,ev,q3⟩:=I2.after hq'
   subst ev
   exact ⟨rv,⟨V.ref (s.heap.objs.size+1),H',I3,rfl,q3⟩⟩
  | next=>exact False.elim hq'
  | brk=>exact False.elim hq'
  | cont=>exact False.elim hq'
theorem dG (M:Mk X.K C f) (F:FnOk X.prog X.w X.K X.mg X.base CX k f fd ps sp) (hr:Room (k+1) X.A) (hg:Gl X x) (hm:X.mg x=some (.ref C)) (hb:Binds X.K fd ps ds) (hd:Vals dvs ds) (hx:u5 CX X E)
  (ha:PA X (e::es) t) (hdb:(x == ("__debug__":Str))=false:=by decide) (he:starEach (e::es) X.env=(false,eval e X.env)::starEach es X.env:=by rfl) (hpl:(backTo pos (starEach es X.env)).any (·.1)=false:=by rfl):
  PE X (.Call (.Name x p) (e::es) [] pos) (Uz C sp dvs E t):=by
 intro pins s σ H Q I h
 refine wpAny_Call_Name_kw (wn I hg hm ?_ hdb)
 refine PySem.W.callWith_K (h₀:=X.base) I.ok.mod.kin M.kp (thn (ha pos pins s σ H _ I h) fun us s1 ⟨vs,H1,I1,r,q⟩=>⟨I1.kIn,?_⟩) he hpl
 exact ji M F hr hb hd hx I1 r q
end
section
variable {X:Cx} {CX:CXT} {k:Nat} {f C:Addr} {fd:FuncData} {ps ks:List Str} {sp:Sp} {E:XK} {x m:Str} {p pos apos kpos:Pos} {e o:Expr} {es:List Expr} {kws:List Keyword} {te ta:TE} {t tk:TA} {nm:Option Str}
variable {g:List Value→List Value→List Value} {gV:List V→List V→List V}
end
structure zi (N P:List Str) (sc:Scope):Prop where
 kind:sc.kind=.function
 co:sc.isCoroutine=false
 gen:sc.isGenerator=false
 nd:N.Nodup
 pre:N.take P.length=P
 par:∀ x∈P,sc.names.lookup x=some .local∨sc.names.lookup x=some .cell
 nofree:∀ y∈sc.names,y.2≠.free
theorem qi {kindOf:Str→Option NameKind} {x:Str}:∀ {binds:List (Str × Value)} {m:Str→Option Value},(∀ v,(x,v)∉binds)→bindL kindOf binds m x=m x
 | [],_,_=>rfl
 | (n,v)::r,m,h=>by
  unfold bindL
  rw [qi fun w hw=>h w (List.mem_cons_of_mem _ hw)]
  split
  ·have:x≠n:=by rintro rfl; exact h v List.mem_cons_self
   simp [this]
  ·rfl
theorem qk {kindOf:Str→Option NameKind} {x:Str}:∀ {binds:List (Str × Value)} {m:Str→Option Value},(∀ v,(x,v)∉binds)→bindC kindOf binds m x=m x
 | [],_,_=>rfl
 | (n,v)::r,m,h=>by
  unfold bindC
  rw [qk fun w hw=>h w (List.mem_cons_of_mem _ hw)]
  split
  ·rfl
  ·have:x≠n:=by rintro rfl; exact h v List.mem_cons_self
   simp [this]
theorem qj {kindOf:Str→Option NameKind} {x:Str} {v:Value}:∀ {P:List Str} {vs:List Value} {i:Nat} {m:Str→Option Value},P.Nodup→P[i]? = some x→vs[i]? = some v→kindOf x=some .local→
  bindL kindOf (P.zip vs) m x=some v
 | [],_,_,_,_,h,_,_=>by simp at h
 | _::_,[],_,_,_,_,h,_=>by simp at h
 | p::P,w::vs,0,m,nd,h1,h2,hk=>by
  simp at h1 h2; subst h1; subst h2
  show bindL kindOf ((p,w)::P.zip vs) m p=_
  unfold bindL
  rw [qi fun v hv=>(List.nodup_cons.mp nd).1 (List.of_mem_zip hv).1,if_pos hk]
  simp
 | p::P,w::vs,i+1,m,nd,h1,h2,hk=>by
  show bindL kindOf ((p,w)::P.zip vs) m x=_
  unfold bindL
  exact qj (i:=i) (List.nodup_cons.mp nd).2 (by simpa using h1) (by simpa using h2) hk
theorem ql {kindOf:Str→Option NameKind} {x:Str} {v:Value}:∀ {P:List Str} {vs:List Value} {i:Nat} {m:Str→Option Value},P.Nodup→P[i]? = some x→vs[i]? = some v→kindOf x≠some .local→
  bindC kindOf (P.zip vs) m x=some v
 | [],_,_,_,_,h,_,_=>by simp at h
 | _::_,[],_,_,_,_,h,_=>by simp at h
 | p::P,w::vs,0,m,nd,h1,h2,hk=>by
  simp at h1 h2; subst h1; subst h2
  show bindC kindOf ((p,w)::P.zip vs) m p=_
  unfold bindC
  rw [qk fun v hv=>(List.nodup_cons.mp nd).1 (List.of_mem_zip hv).1,if_neg hk]
  simp
 | p::P,w::vs,i+1,m,nd,h1,h2,hk=>by
  show bindC kindOf ((p,w)::P.zip vs) m x=_
  unfold bindC
  exact ql (i:=i) (List.nodup_cons.mp nd).2 (by simpa using h1) (by simpa using h2) hk
def start (N:List Str) (vs:List V):St:=vs.map some++List.replicate (N.length - vs.length) none
def yC (CX:CXT) (P:Program) (w:World) (K:PySem.W.Frag) (mg:Str→Option Value) (base:Heap) (N:List Str) (qual:Str) (scope:Scope) (f:Addr) (cd:Value) (A:Around) (outer:List Env) (s:Shared) (H:Hp) (E:XK):Cx where
 prog:=P
 w:=w
 K:=K
 mg:=mg
 base:=base
 A:=A.deeper (envOfC qual scope s.heap.objs.size f cd)
 N:=N
 s₀:=s
 H₀:=H
 env:=envOfC qual scope s.heap.objs.size f cd
 outer:=outer
 stack:=envOfC qual scope s.heap.objs.size f cd::outer
 ex:=[]
 calm:=true
 fn:=fun _=>true
 pn:=[]
 xe:=fun e s'=>wpAny (model P w) (A.deeper (envOfC qual scope s.heap.objs.size f cd)) (leaving (envOfC qual scope s.heap.objs.size f cd) e) (fun _ s''=>CX outer H s E e s'') (fun e' s''=>CX outer H s E e' s'') s'
theorem rg {sc:Scope} {n:Nat} {x:Str} (h:sc.names.lookup x=some .cell):∃ c,(cellsFrom n sc.names []).lookup x=some c:=by
 have q:=PySem.W.cellsFrom_some sc.names n [] (.inl h)
 exact Option.isSome_iff_exists.mp q
theorem kC {CX:CXT} {P:Program} {w:World} {K:PySem.W.Frag} {mg:Str→Option Value} {base:Heap} {N ps:List Str} {qual:Str} {scope:Scope} {f:Addr} {cd:Value} {A:Around} {outer:List Env} {s s1:Shared} {H:Hp} {E:XK} {us:List Value} {vs:List V}
  (S:zi N ps scope) (hd:A.handled=none) (e0:Env0 P w K mg base A outer s H) (hl:vs.length=ps.length) (r:Vals vs us)
  (x:InCallC s s.heap.objs.size (bindL (envOfC qual scope s.heap.objs.size f cd).kindOf (ps.zip us) fun _=>none) (cellsFrom (s.heap.objs.size+1) scope.names []) (bindC (envOfC qual scope s.heap.objs.size f cd).kindOf (ps.zip us) fun _=>none) s1):
  Inv (yC CX P w K mg base N qual scope f cd A outer s H E) [] (start N vs) H s1:=by
 have hpl:ps.length≤N.length:=by have:=congrArg List.length S.pre; rw [List.length_take] at this; omega
 obtain ⟨h1,tk,rfl,hk⟩:=x.done
 have noA:∀ b:Addr,b∉(yC CX P w K mg base N qual scope f cd A outer s H E).ex:=fun b z=>absurd (show b∈([]:List Addr) from z) (by simp)
 refine ⟨⟨e0.mod,S.kind,rfl,rfl,Nat.le_refl _,fun y z c h1 h2=>?_,fun y hy=>?_,fun y c _ h=>?_,fun _=>hd,Around.frames_deeper e0.frames,.inr ⟨rfl,rfl⟩,fun b z=>absurd z (noA b),e0.bs,e0.bsz,fun b _ _=>noA b,fun b z=>absurd z (noA b),e0.funs,e0.frf⟩,
  rfl,e0.bare,Un.kept hk,⟨_,x.toInCall.ns,fun i y v h1 h2 h3=>?_⟩,fun y c h=>⟨_,x.cell y c h⟩,e0.hok.fresh (Nat.le_refl _),fun y c h=>?_,fun p hp=>absurd (show p∈([]:List (Addr × Obj)) from hp) (by simp),e0.hok.kept hk,?_⟩
 ·exact name_of_addr x.apart (PySem.mem_of_lookup h1) (PySem.mem_of_lookup h2)
 ·have hy:scope.names.lookup y=some .cell∨scope.names.lookup y=some .free:=hy
  rcases hy with hy | hy
  ·exact rg hy
  ·exact absurd rfl (S.nofree _ (PySem.mem_of_lookup hy))
 ·exact Nat.le_of_lt (x.above y c (PySem.mem_of_lookup h))
 ·have hi:i<vs.length:=by
   unfold start at h2
   by_cases hi:i<vs.length
   ·exact hi
   ·rw [List.getElem?_append_right (by simpa using hi)] at h2
    rw [List.getElem?_replicate] at h2
    split at h2 <;> cases h2
  have ha:vs[i]? = some v:=by
   unfold start at h2
   rw [List.getElem?_append_left (by simpa using hi),List.getElem?_map] at h2
   cases e:vs[i]? with
   | none=>rw [e] at h2; cases h2
   | some a=>rw [e] at h2; cases h2; rfl
  obtain ⟨u,hu,rv⟩:=r.get ha
  have hp:ps[i]? = some y:=by
   rw [← S.pre,List.getElem?_take_of_lt (by omega)]; exact h1
  have ndP:ps.Nodup:=by rw [← S.pre]; exact S.nd.sublist (List.take_sublist _ _)
  refine ⟨u,rv,?_⟩
  rcases S.par y (List.mem_of_getElem? hp) with k | k
  ·exact .inl ⟨k,qj ndP hp hu k⟩
  ·obtain ⟨c,e⟩:=rg (n:=s.heap.objs.size+1) k
   refine .inr ⟨.inl k,c,e,?_⟩
   have q:=x.cell y c e
   rw [ql ndP hp hu (by show scope.names.lookup y≠_; rw [k]; decide)] at q
   exact q
 ·exact e0.hok.fresh (Nat.le_of_lt (x.above y c (PySem.mem_of_lookup h)))
 ·unfold start
  show _=N.length
  rw [List.length_append,List.length_map,List.length_replicate]
  omega
theorem ZK {CX:CXT} {P:Program} {w:World} {K:PySem.W.Frag} {mg:Str→Option Value} {base:Heap} {k:Nat} {f:Addr} {name qual:Str} {params:Arguments} {body:List Stmt} {scope:Scope} {dV kV doc pm cdv ct oc:Value} {an od:Option Addr}
  {osl:Array (Option Value)} {N ps:List Str} {sp:Sp} (lk:K.lookup f=some ⟨oc,od,.func (PySem.W.fnOf name qual params body scope dV kV doc pm an cdv ct),osl⟩) (hcd:PySem.W.codeIn K cdv qual=true) (S:zi N ps scope)
  (len:∀ vs H Q E,sp vs H Q E→vs.length=ps.length)
  (hbody:∀ (A:Around) (outer:List Env) (s:Shared) (H:Hp) (vs:List V) (Q:VK) (E:XK),Room k (A.deeper (envOfC qual scope s.heap.objs.size f cdv))→sp vs H Q E→
   ∃ t,PSs (yC CX P w K mg base N qual scope f cdv A outer s H E) body t∧t { nx:=fun _ H'=>Q .non H',rt:=Q } (start N vs) H):
  FnOk P w K mg base CX (k+1) f (PySem.W.fnOf name qual params body scope dV kV doc pm an cdv ct) ps sp:=by
 refine ⟨len,fun A outer s H args us vs Q E hr e0 hb r hsp=>?_⟩
 have hl:=len _ _ _ _ hsp
 have KX:K.In s.heap:=e0.mod.kin.keeps fun b o e=>(e0.bs b o e).1
 have lim:s.heap.NoLimit:=e0.mod.nolimit.keeps fun b o e=>(e0.bs b o e).1
 have hkind:∀ y∈ps.zip us,scope.names.lookup y.1=some .local∨(scope.names.lookup y.1=some .cell∧((cellsFrom (s.heap.objs.size+1) scope.names []).lookup y.1).isSome=true):=fun ⟨n,v⟩ hy=>by
  rcases S.par n (List.of_mem_zip hy).1 with q | q
  ·exact .inl q
  ·exact .inr ⟨q,PySem.W.cellsFrom_some _ _ _ (.inl q)⟩
 refine codeAny_call_function hr.depth (KX _ _ lk) rfl S.co S.gen rfl (PySem.W.codeRec_of KX hcd) (hb _ _ _ _ ?_)
 refine wpAny_newFunctionEnv_cells S.kind hkind fun env he s1 x=>?_
 subst he
 refine ⟨lim.keeps x.toInCall.keep,codeAny_func ?_⟩
 obtain ⟨t,ht,hq⟩:=hbody A outer s H vs Q E (hr.deeper _) hsp
 have I:Inv (yC CX P w K mg base N qual scope f cdv A outer s H E) [] (start N vs) H s1:=kC S hr.hd e0 hl r x
 refine wpAny_mono (ht [] s1 (start N vs) H _ I hq) (fun fl s' hs=>?_) fun e s' hs=>hs
 have fin:∀ {σ':St} {H':Hp} {v:V} {u:Value},Inv (yC CX P w K mg base N qual scope f cdv A outer s H E) [] σ' H' s'→RelV v u→Q v H'→CE outer P w H s Q u s':=
  fun {σ' H' v u} J rv q=>⟨v,H',J.os,J.bare,J.base,J.hok,rv,q⟩
 cases fl with
 | ret u=>
  obtain ⟨v,σ',H',J,rv,q⟩:=hs
  exact fin J rv q
 | next=>
  obtain ⟨σ',H',J,q⟩:=hs
  exact fin (v:=V.non) (u:=Value.none) J rfl q
 | brk=>
  obtain ⟨_,_,_,q⟩:=hs
  exact False.elim q
 | cont=>
  obtain ⟨_,_,_,q⟩:=hs
  exact False.elim q
end L2
namespace L2
open PySem PySem.Spec PyProof.Rows
section
variable {X:Cx} {x:Str} {p pos:Pos} {e:Expr} {es:List Expr} {t:TA} {id T:String} {r:List V→Hp→VK→Prop}
def tCB (r:List V→Hp→VK→Prop) (t:TA):TE:=fun σ H Q=>t σ H fun vs H1=>r vs H1 Q
theorem yG (hc:CallR X (.builtin id) r) (hg:Gl X x) (hm:X.mg x=none) (hv:bootBuiltins x=some (.builtin id)) (ha:PA X (e::es) t) (hn:x≠"__name__":=by decide) (hdb:(x == ("__debug__":Str))=false:=by decide)
  (he:starEach (e::es) X.env=(false,eval e X.env)::starEach es X.env:=by rfl) (hpl:(backTo pos (starEach es X.env)).any (·.1)=false:=by rfl):PE X (.Call (.Name x p) (e::es) [] pos) (tCB r t):=by
 intro pins s σ H Q I h
 refine wpAny_Call_Name_kw (wV I hg hm hv ?_ hn hdb)
 exact PyProof.Rows.callWith_builtin1 (thn (ha pos pins s σ H _ I h) fun us s1 ⟨vs,H1,I1,r1,q1⟩=>hc pins s1 σ H1 vs us Q I1 r1 q1) he hpl
theorem l8 (hc:CallR X (.type T) r) (hg:Gl X x) (hm:X.mg x=none) (hv:bootBuiltins x=some (.type T)) (ha:PA X (e::es) t) (hn:x≠"__name__":=by decide) (hdb:(x == ("__debug__":Str))=false:=by decide)
  (he:starEach (e::es) X.env=(false,eval e X.env)::starEach es X.env:=by rfl) (hpl:(backTo pos (starEach es X.env)).any (·.1)=false:=by rfl):PE X (.Call (.Name x p) (e::es) [] pos) (tCB r t):=by
 intro pins s σ H Q I h
 refine wpAny_Call_Name_kw (wV I hg hm hv ?_ hn hdb)
 exact PyProof.Rows.callWith_type1 (thn (ha pos pins s σ H _ I h) fun us s1 ⟨vs,H1,I1,r1,q1⟩=>hc pins s1 σ H1 vs us Q I1 r1 q1) he hpl
end
end L2
namespace HT
open PySem PyProof.Rows
section
open PySem.SeqAt
open PySem.AutoSeq1 (wpAny_loadPart')
open PySem.MeetsSeq PySem.MeetsSeq2 PySem.MeetsSeq3
end
section
variable {prog:Program} {w:World} {A:Around} {E:Value→Shared→Prop} {s:Shared}
def sIx (n d:Nat):Option Int→Nat
 | none=>d
 | some v=>if v<0 then (v+(n:Int)).toNat else min v.toNat n
theorem sIx_none (n d:Nat):sIx n d none=d:=rfl
theorem sIx_nat (n d k:Nat):sIx n d (some (k:Int))=min k n:=by
 show (if (k:Int)<0 then ((k:Int)+(n:Int)).toNat else min (k:Int).toNat n)=min k n
 rw [if_neg (by omega),Int.toNat_natCast]
end
end HT
namespace L2
open PySem PySem.Spec PyProof.Rows
abbrev TO:=St→Hp→(Option Int→Hp→Prop)→Prop
def PO (X:Cx) (e:Option Expr) (t:TO):Prop:=
 ∀ (pins:List (Addr × Obj)) (s:Shared) (σ:St) (H:Hp) (Q:Option Int→Hp→Prop),Inv X pins σ H s→t σ H Q→
  wpAny (model X.prog X.w) X.A (evalPart e X.env) (fun u s'=>∃ o H',Inv X pins σ H' s'∧IsPart u o∧Q o H') X.xe s
def eV:TO:=fun _ H Q=>Q none H
def Uv (t:TE):TO:=fun σ H Q=>t σ H fun x H1=>∃ i,x=.int i∧Q (some i) H1
section
variable {X:Cx} {e:Expr} {te:TE} {lo hi:Option Expr} {tl th:TO} {pos p2:Pos}
theorem dD:PO X none eV:=by
 intro pins s σ H Q I h
 rw [evalPart_none]
 exact wpAny_pure ⟨none,H,I,.none,h⟩
theorem dB (h:PE X e te):PO X (some e) (Uv te):=by
 intro pins s σ H Q I hw
 rw [evalPart_some]
 refine thn (h pins s σ H _ I hw) fun u s1 ⟨x,H1,I1,r1,q1⟩=>?_
 obtain ⟨i,rfl,q⟩:=q1
 obtain ⟨t,rfl⟩:=r1
 exact ⟨some i,H1,I1,.int i t,q⟩
def SlR (X:Cx) (r:V→Option Int→Option Int→Hp→VK→Prop):Prop:=
 ∀ (pins:List (Addr × Obj)) (s:Shared) (σ:St) (H:Hp) (x:V) (v vl vu:Value) (lo hi:Option Int) (sl:Addr) (Q:VK),Inv X pins σ H s→RelV x v→s.heap.IsSliceOf sl vl vu .none→IsPart vl lo→IsPart vu hi→r x lo hi H Q→
  ∃ T id,typeLookup (.type T) "__getitem__"=pure (some (.builtin id))∧s.TypeIs v T∧wpAny (model X.prog X.w) X.A (getItem v (.ref sl)) (EP X pins σ Q) X.xe s
theorem SlR.or {r r':V→Option Int→Option Int→Hp→VK→Prop} (h:SlR X r) (h':SlR X r'):SlR X (fun x lo hi H Q=>r x lo hi H Q∨r' x lo hi H Q):=by
 intro pins s σ H x v vl vu lo hi sl Q I rx hs pl pu q
 rcases q with q | q
 ·exact h pins s σ H x v vl vu lo hi sl Q I rx hs pl pu q
 ·exact h' pins s σ H x v vl vu lo hi sl Q I rx hs pl pu q
def tSl (r:V→Option Int→Option Int→Hp→VK→Prop) (te:TE) (tl th:TO):TE:=fun σ H Q=>te σ H fun x H1=>tl σ H1 fun l H2=>th σ H2 fun u H3=>r x l u H3 Q
theorem jC {r:V→Option Int→Option Int→Hp→VK→Prop} (hr:SlR X r) (he:PE X e te) (hl:PO X lo tl) (hu:PO X hi th):PE X (.Subscript e (.Slice lo hi none p2) pos) (tSl r te tl th):=by
 intro pins s σ H Q I h
 refine Subscript_ (thn (he pins s σ H _ I h) fun v s1 ⟨x,H1,I1,r1,q1⟩=>?_)
 refine wpAny_Slice (thn (hl pins s1 σ H1 _ I1 q1) fun vl s2 ⟨l,H2,I2,pl,q2⟩=>thn (hu pins s2 σ H2 _ I2 q2) fun vu s3 ⟨u,H3,I3,pu,q3⟩=>?_)
 rw [evalPart_none]
 refine wpAny_pure ?_
 have I4:Inv X pins σ H3 { s3 with heap:=s3.heap.push { cls:=.type "slice",data:=.fields #[vl,vu,.none] } }:=I3.kept (t':=s3.toks) fun b ob q=>Heap.get?_push_of_some _ q
 obtain ⟨T,id,hT,ht,hg⟩:=hr pins { s3 with heap:=s3.heap.push { cls:=.type "slice",data:=.fields #[vl,vu,.none] } } σ H3 x v vl vu l u s3.heap.objs.size Q I4 r1 (Heap.IsSliceOf.new ..) pl pu q3
 show wpAny (model X.prog X.w) X.A (subscriptTail e (.Slice lo hi none p2) v (.ref s3.heap.objs.size)) (EP X pins σ Q) X.xe { s3 with heap:=s3.heap.push { cls:=.type "slice",data:=.fields #[vl,vu,.none] } }
 exact tail_any (ops:=[.ref s3.heap.objs.size,v]) ht hT hg (by with_unfolding_all rfl)
def mm (xs:List V) (lo hi:Option Int):List V:=(xs.drop (HT.sIx xs.length 0 lo)).take (HT.sIx xs.length xs.length hi - HT.sIx xs.length 0 lo)
theorem oT (xs:List V) (lo hi:Option Int):(mm xs lo hi).length≤xs.length:=by
 unfold mm
 rw [List.length_take,List.length_drop]
 omega
end
end L2
namespace L2
open PySem PySem.Spec PyProof.Rows
def ixN (n:Nat) (i:Int):Option Nat:=if 0≤i then (if i<n then some i.toNat else none) else if -(n:Int)≤i then some (i+n).toNat else none
def atI {α:Type} (xs:List α) (i:Int):Option α:=(ixN xs.length i).bind fun j=>xs[j]?
theorem m6 {n:Nat} {i:Int} {j:Nat} (h:ixN n i=some j):seqIndex? i n=some j∧j<n∧-(n:Int)≤i∧i<n:=by
 unfold ixN at h
 by_cases h0:0≤i
 ·rw [if_pos h0] at h
  by_cases h1:i<n
  ·rw [if_pos h1] at h
   have e:i.toNat=j:=Option.some.inj h
   exact ⟨by rw [seqIndex_of h0 h1,e],by omega,by omega,h1⟩
  ·rw [if_neg h1] at h; cases h
 ·rw [if_neg h0] at h
  by_cases h1:-(n:Int)≤i
  ·rw [if_pos h1] at h
   have e:(i+n).toNat=j:=Option.some.inj h
   exact ⟨by rw [seqIndex_neg (by omega) h1,e],by omega,h1,by omega⟩
  ·rw [if_neg h1] at h; cases h
theorem pr {α:Type} {xs:List α} {i:Int} {v:α} (h:atI xs i=some v):∃ j,seqIndex? i xs.length=some j∧xs[j]? = some v∧j<xs.length∧-(xs.length:Int)≤i∧i<xs.length:=by
 unfold atI at h
 cases e:ixN xs.length i with
 | none=>rw [e] at h; cases h
 | some j=>
  rw [e] at h
  obtain ⟨h1,h2,h3,h4⟩:=m6 e
  exact ⟨j,h1,h,h2,h3,h4⟩
theorem wx {α:Type} {xs:List α} {j:Nat} {v:α} (h:xs[j]? = some v):atI xs (j:Int)=some v:=by
 have hj:j<xs.length:=(List.getElem?_eq_some_iff.mp h).1
 have e:ixN xs.length (j:Int)=some j:=by
  unfold ixN
  rw [if_pos (by omega),if_pos (by omega)]; simp
 unfold atI; rw [e]; exact h
theorem uk {α:Type} (xs:List α) (v:α):atI (xs++[v]) (-1)=some v:=by
 have hl:(xs++[v]).length=xs.length+1:=by simp
 have e:ixN (xs++[v]).length (-1)=some xs.length:=by
  unfold ixN
  rw [hl,if_neg (by decide),if_pos (by omega)]
  congr 1
  omega
 unfold atI
 rw [e]
 show (xs++[v])[xs.length]? = some v
 simp
def tW (b:Expr):Prop:=∀ o i,subscripted b false o i=operate [o,i] (getItem o i)
def IxR (X:Cx) (r:R2):Prop:=
 ∀ (value slice:Expr) (pins:List (Addr × Obj)) (s:Shared) (σ:St) (H:Hp) (x y:V) (v u:Value) (Q:VK),Inv X pins σ H s→RelV x v→RelV y u→r x y H Q→
  subscripted slice false v u=operate [v,u] (getItem v u)→wpAny (model X.prog X.w) X.A (subscriptTail value slice v u) (EP X pins σ Q) X.xe s
def MtR (X:Cx) (id:String) (r:V→List V→Hp→VK→Prop):Prop:=
 ∀ (pins:List (Addr × Obj)) (s:Shared) (σ:St) (H:Hp) (x:V) (xs:List V) (v:Value) (us:List Value) (Q:VK),Inv X pins σ H s→RelV x v→Vals xs us→r x xs H Q→
  wpAny (model X.prog X.w) X.A (call (.builtin id) (v::us)) (EP X pins σ Q) X.xe s
section
variable {X:Cx} {a b:Expr} {ta tb:TE} {pos:Pos}
theorem IxR.or {r r':R2} (h:IxR X r) (h':IxR X r'):IxR X (fun x y H Q=>r x y H Q∨r' x y H Q):=by
 intro value slice pins s σ H x y v u Q I rx ry q hs
 rcases q with q | q
 ·exact h value slice pins s σ H x y v u Q I rx ry q hs
 ·exact h' value slice pins s σ H x y v u Q I rx ry q hs
theorem MtR.or {id:String} {r r':V→List V→Hp→VK→Prop} (h:MtR X id r) (h':MtR X id r'):MtR X id (fun x xs H Q=>r x xs H Q∨r' x xs H Q):=by
 intro pins s σ H x xs v us Q I rx rs q
 rcases q with q | q
 ·exact h pins s σ H x xs v us Q I rx rs q
 ·exact h' pins s σ H x xs v us Q I rx rs q
theorem jF {r:R2} (hr:IxR X r) (ha:PE X a ta) (hb:PE X b tb) (hs:tW b):PE X (.Subscript a b pos) (tOp r ta tb):=by
 intro pins s σ H Q I h
 exact Subscript_ (Uo ha hb I h fun v u s2 x y H2 I2 rx ry q=>hr a b pins s2 σ H2 x y v u Q I2 rx ry q (hs _ _))
def UL (K:PySem.W.Frag):R2:=fun x y H Q=>∃ p xs i v,x=.ref p∧y=.int i∧SqL K H p xs∧atI xs i=some v∧Q v H
def UJ (K:PySem.W.Frag):R2:=fun x y H Q=>∃ p xs i v,x=.ref p∧y=.int i∧SqT K H p xs∧atI xs i=some v∧Q v H
def UK:R2:=fun x y H Q=>∃ z i c,x=.str z∧y=.int i∧z.length≤sizeLine∧atI z.cps.toList i=some c∧Q (.str ⟨#[c]⟩) H
theorem ix_list:IxR X (UL X.K):=by
 intro value slice pins s σ H x y v u Q I rx ry h hs
 obtain ⟨p,xs,i,z,rfl,rfl,hq,he,q⟩:=h
 cases rx
 obtain ⟨t,rfl⟩:=ry
 obtain ⟨its,r,pl,hz⟩:=I.list hq
 obtain ⟨j,h1,h2,h3,h4,h5⟩:=pr he
 obtain ⟨w,ew,rw'⟩:=r.get h2
 have hl:=r.length
 have hn:=vJ
 have fin:EP X pins σ Q w s:=⟨z,H,I,rw',q⟩
 by_cases h0:0≤i
 ·have hj:i.toNat=j:=by
   rw [seqIndex_of h0 h5] at h1
   exact Option.some.inj h1
  exact item_listR pl.isList h0 (by omega) (by rw [hj]; simpa using ew) fin hs
 ·have hj:(i+(its.toArray.size:Int)).toNat=j:=by
   rw [seqIndex_neg (by omega) h4] at h1
   rw [List.size_toArray,← hl]
   exact Option.some.inj h1
  exact subscriptTail_builtinR (x:=w) pl.isList.typeIs slot_list_getitem.lookup
   (wpAny_getItem_list_neg (Q:=fun r s'=>r=w∧EP X pins σ Q r s') pl.isList (by omega) (by rw [List.size_toArray] <;> omega) (by omega) (by rw [hj]; simpa using ew) ⟨rfl,fin⟩) hs
theorem ix_tup:IxR X (UJ X.K):=by
 intro value slice pins s σ H x y v u Q I rx ry h hs
 obtain ⟨p,xs,i,z,rfl,rfl,hq,he,q⟩:=h
 cases rx
 obtain ⟨t,rfl⟩:=ry
 obtain ⟨its,r,pl,hz⟩:=I.tuple hq
 obtain ⟨j,h1,h2,h3,h4,h5⟩:=pr he
 obtain ⟨w,ew,rw'⟩:=r.get h2
 have hl:=r.length
 have hn:=vJ
 have fin:EP X pins σ Q w s:=⟨z,H,I,rw',q⟩
 exact subscriptTail_builtinR (x:=w) pl.typeIs slot_tuple_getitem.lookup
  (getItem_tuple (j:=j) (Q:=fun r s'=>r=w∧EP X pins σ Q r s') pl (by omega) (by omega) (by rw [List.size_toArray,← hl]; exact h1) (by simpa using ew) ⟨rfl,fin⟩) hs
theorem VR:IxR X UK:=by
 intro value slice pins s σ H x y v u Q I rx ry h hs
 obtain ⟨z,i,c,rfl,rfl,hz,he,q⟩:=h
 obtain ⟨t,rfl⟩:=rx
 obtain ⟨t',rfl⟩:=ry
 obtain ⟨j,h1,h2,h3,h4,h5⟩:=pr he
 have hl:z.cps.toList.length=z.length:=by simp [Str.length]
 rw [hl] at h1 h4 h5
 have hn:=vJ
 exact tail_any (typeIs_str s z t) slot_str_getitem.lookup (getItem_str (c:=c) (by
  have e1:decide (i < -(2 ^ 63:Int))=false:=decide_eq_false (by omega)
  have e2:decide (i ≥ 2 ^ 63)=false:=decide_eq_false (by omega)
  rw [e1,e2,Bool.or_false]) (by rw [h1]; simpa using h2) ⟨.str ⟨#[c]⟩,H,I.tok _,⟨_,rfl⟩,q⟩) hs
def rIx (K:PySem.W.Frag):R2:=fun x y H Q=>UL K x y H Q∨UJ K x y H Q∨UK x y H Q
theorem gQ:IxR X (rIx X.K):=ix_list.or (ix_tup.or VR)
theorem nQ (its:List Value) (n j:Nat) (u:Value):Obj.mapSeq (·.setIfInBounds j u) { cls:=.type "list",data:=.seq its.toArray n }={ cls:=.type "list",data:=.seq (its.set j u).toArray n }:=by
 simp [Obj.mapSeq]
theorem Inv.lst {pins:List (Addr × Obj)} {σ:St} {H:Hp} {s:Shared} {p:Addr} {xs:List V} (I:Inv X pins σ H s) (h:H p=some (.lst xs)):
  ∃ (its:List Value) (n:Nat),Vals xs its∧s.heap.get? p=some { cls:=.type "list",data:=.seq its.toArray n }∧xs.length≤sizeLine:=by
 obtain ⟨z,its,n,r,e⟩:=I.hok p _ h
 exact ⟨its,n,r,e,z⟩
theorem Inv.lstUpd {pins:List (Addr × Obj)} {σ:St} {H:Hp} {s:Shared} {p:Addr} {xs ys:List V} {its its':List Value} {n n':Nat} {f:Obj→Obj} (I:Inv X pins σ H s) (h:H p=some (.lst xs))
  (ho:s.heap.get? p=some { cls:=.type "list",data:=.seq its.toArray n }) (hf:f { cls:=.type "list",data:=.seq its.toArray n }={ cls:=.type "list",data:=.seq its'.toArray n' }) (r:Vals ys its') (hz:ys.length≤sizeLine) (t:Nat):
  Inv X pins σ (upd H p (.lst ys)) { s with heap:=s.heap.update p f,toks:=t }:=by
 have e:(s.heap.update p f).get? p=some { cls:=.type "list",data:=.seq its'.toArray n' }:=by
  rw [Heap.get?_update_self f ho (by rw [hf] <;> rfl),hf]
 refine I.write (x:=p) (e:=p) (by rw [h]; trivial) (.inl rfl) (fun b u hb q=>(Heap.get?_update_other _ _ (Ne.symm hb)).trans q) ⟨_,e⟩ ?_
 exact ⟨hz,its',n',r,e⟩
def UI:V→V→V→Hp→(Hp→Prop)→Prop:=fun o i v H Q=>∃ p xs k j,o=.ref p∧i=.int k∧H p=some (.lst xs)∧ixN xs.length k=some j∧Q (upd H p (.lst (xs.set j v)))
theorem pS:Ut X UI:=by
 intro pins s σ H o i v ov iv u Q I ro ri rv h
 obtain ⟨p,xs,k,j,rfl,rfl,hp,hj,q⟩:=h
 cases ro
 obtain ⟨t,rfl⟩:=ri
 obtain ⟨its,n,r,ho,hz⟩:=I.lst hp
 obtain ⟨h1,h2,h3,h4⟩:=m6 hj
 have hl:=r.length
 have hn:=vJ
 have I':Inv X pins σ (upd H p (.lst (xs.set j v))) { s with heap:=s.heap.update p (Obj.mapSeq (·.setIfInBounds j u)) }:=
  I.lstUpd hp ho (nQ its n j u) (r.set rv j) (by rw [List.length_set]; exact hz) s.toks
 by_cases h0:0≤k
 ·have hk:k.toNat=j:=by
   rw [seqIndex_of h0 h4] at h1
   exact Option.some.inj h1
  exact PySem.W.ki_setAt ho h0 (by omega) (by rw [List.size_toArray,← hl]; exact h4) (by rw [hk]; exact ⟨_,I',q⟩)
 ·have hk:(k+(its.toArray.size:Int)).toNat=j:=by
   rw [seqIndex_neg (by omega) h3] at h1
   rw [List.size_toArray,← hl]
   exact Option.some.inj h1
  exact PySem.W.ki_setBack ho (by omega) (by rw [List.size_toArray,← hl]; exact h3) (by omega) (by rw [hk]; exact ⟨_,I',q⟩)
theorem qw (lo hi:Option Int) (n:Nat):(sliceBounds lo hi none n).1=((HT.sIx n 0 lo:Nat):Int)∧(sliceBounds lo hi none n).2.1=((HT.sIx n n hi:Nat):Int)∧(sliceBounds lo hi none n).2.2=1:=by
 refine ⟨?_,?_,rfl⟩
 ·cases lo with
  | none=>simp [sliceBounds,HT.sIx]
  | some i=>
   simp only [sliceBounds,HT.sIx,Option.getD_none,show (1:Int)>0 by decide,if_true]
   by_cases h:i<0
   ·simp only [h,if_true] <;> omega
   ·simp only [h,if_false] <;> omega
 ·cases hi with
  | none=>simp [sliceBounds,HT.sIx]
  | some i=>
   simp only [sliceBounds,HT.sIx,Option.getD_none,show (1:Int)>0 by decide,if_true]
   by_cases h:i<0
   ·simp only [h,if_true] <;> omega
   ·simp only [h,if_false] <;> omega
theorem rj (its:List Value) (lo hi:Option Int):slicePick its.toArray lo hi none=((its.drop (HT.sIx its.length 0 lo)).take (HT.sIx its.length its.length hi - HT.sIx its.length 0 lo)).toArray:=by
 obtain ⟨h1,h2,h3⟩:=qw lo hi its.toArray.size
 unfold slicePick
 rw [h1,h2,h3]
 simp only [sliceRange_one,pick_run,List.size_toArray] <;> rfl
def Rg (K:PySem.W.Frag):V→Option Int→Option Int→Hp→VK→Prop:=fun x lo hi H Q=>∃ a xs,x=.ref a∧SqL K H a xs∧∀ p,H p=none→Q (.ref p) (upd H p (.lst (mm xs lo hi)))
theorem eX:SlR X (Rg X.K):=by
 intro pins s σ H x v vl vu lo hi sl Q I rx hs pl pu h
 obtain ⟨a,xs,rfl,hx,q⟩:=h
 cases rx
 obtain ⟨its,r,ht,hz⟩:=I.list hx
 have hlen:=r.length
 refine ⟨"list",_,slot_list_getitem.lookup,ht.isList.typeIs,?_⟩
 refine wpAny_getItem_list_slice ht.isList hs pl pu .none (by simp) ?_ (by rw [List.size_toArray] <;> omega)
 rw [rj,← hlen]
 refine ⟨.ref s.heap.objs.size,_,I.laid (t':=s.toks) (o:=.lst (mm xs lo hi)) (fun b ob q=>Heap.get?_push_of_some _ q) (Nat.le_refl _) ?_,rfl,q _ (I.hok.fresh (Nat.le_refl _))⟩
 exact ⟨Nat.le_trans (oT xs lo hi) hz,_,0,(r.drop (HT.sIx xs.length 0 lo)).take (HT.sIx xs.length xs.length hi - HT.sIx xs.length 0 lo),Heap.get?_push_size _ rfl⟩
def m8:V→Bool
 | .non=>true
 | .bl _=>true
 | .int _=>true
 | .str _=>true
 | _=>false
def eqV:V→V→Bool
 | .non,.non=>true
 | .bl a,.bl b=>a == b
 | .bl a,.int b=>(if a then 1 else 0) == b
 | .int a,.bl b=>a == (if b then 1 else 0)
 | .int a,.int b=>a == b
 | .str a,.str b=>a == b
 | _,_=>false
theorem fj {A:Around} {s:Shared} {y x:V} {u v:Value} (ry:RelV y u) (rx:RelV x v) (fy:m8 y=true) (fx:m8 x=true):SeqAt.EqAt A s u v (eqV y x):=by
 cases y with
 | non=>
  cases ry
  cases x with
  | non=>cases rx; exact SeqAt.EqAt.same _
  | bl b=>cases rx; exact SeqAt.EqAt.none_bool b
  | int b=>obtain ⟨t,rfl⟩:=rx; exact SeqAt.EqAt.none_int b t
  | str b=>obtain ⟨t,rfl⟩:=rx; exact SeqAt.EqAt.none_str b t
  | _=>exact absurd (show false=true from fx) Bool.false_ne_true
 | bl a=>
  cases ry
  cases x with
  | non=>cases rx; exact SeqAt.EqAt.bool_none a
  | bl b=>cases rx; exact SeqAt.EqAt.bool_bool a b
  | int b=>obtain ⟨t,rfl⟩:=rx; exact SeqAt.EqAt.bool_int a b t
  | str b=>obtain ⟨t,rfl⟩:=rx; exact SeqAt.EqAt.bool_str a b t
  | _=>exact absurd (show false=true from fx) Bool.false_ne_true
 | int a=>
  obtain ⟨t',rfl⟩:=ry
  cases x with
  | non=>cases rx; exact SeqAt.EqAt.int_none a t'
  | bl b=>cases rx; exact SeqAt.EqAt.int_bool a t' b
  | int b=>obtain ⟨t,rfl⟩:=rx; exact SeqAt.EqAt.int_int a t' b t
  | str b=>obtain ⟨t,rfl⟩:=rx; exact SeqAt.EqAt.int_str a t' b t
  | _=>exact absurd (show false=true from fx) Bool.false_ne_true
 | str a=>
  obtain ⟨t',rfl⟩:=ry
  cases x with
  | non=>cases rx; exact SeqAt.EqAt.str_none a t'
  | bl b=>cases rx; exact SeqAt.EqAt.str_bool a t' b
  | int b=>obtain ⟨t,rfl⟩:=rx; exact SeqAt.EqAt.str_int a t' b t
  | str b=>obtain ⟨t,rfl⟩:=rx; exact SeqAt.EqAt.str_str a t' b t
  | _=>exact absurd (show false=true from fx) Bool.false_ne_true
 | _=>exact absurd (show false=true from fy) Bool.false_ne_true
theorem ww:CallR X (.builtin "len") (fun xs H Q=>∃ p ys,xs=[.ref p]∧(SqL X.K H p ys∨SqT X.K H p ys)∧Q (.int ys.length) H):=by
 intro pins s σ H xs us Q I r h
 obtain ⟨p,ys,rfl,hq,q⟩:=h
 obtain ⟨u,rfl,rx⟩:=Zp r
 cases rx
 have hn:=vJ
 rcases hq with hq | hq
 ·obtain ⟨its,r',pl,hz⟩:=I.list hq
  have hlen:=r'.length
  exact Calls.call_len_list pl.isList (by simp only [List.size_toArray] <;> omega) ⟨.int ys.length,H,I.tok _,⟨s.toks + 1,by rw [List.size_toArray,hlen]⟩,q⟩
 ·obtain ⟨its,r',pl,hz⟩:=I.tuple hq
  have hlen:=r'.length
  exact len_tuple pl (by simp only [List.size_toArray] <;> omega) ⟨.int ys.length,H,I.tok _,⟨s.toks + 1,by rw [List.size_toArray,hlen]⟩,q⟩
theorem CallR.or {f:Value} {r r':List V→Hp→VK→Prop} (h:CallR X f r) (h':CallR X f r'):CallR X f (fun xs H Q=>r xs H Q∨r' xs H Q):=by
 intro pins s σ H xs us Q I rs q
 rcases q with q | q
 ·exact h pins s σ H xs us Q I rs q
 ·exact h' pins s σ H xs us Q I rs q
theorem pq:CallR X (.type "list") (fun xs H Q=>∃ p ys,xs=[.ref p]∧(SqL X.K H p ys∨SqT X.K H p ys)∧∀ l,H l=none→Q (.ref l) (upd H l (.lst ys))):=by
 intro pins s σ H xs us Q I r h
 obtain ⟨p,ys,rfl,hq,q⟩:=h
 obtain ⟨u,rfl,rx⟩:=Zp r
 cases rx
 have fin:∀ (its:List Value),Vals ys its→ys.length≤sizeLine→∀ (h':Heap) (c':Nat),(∀ b o',s.heap.get? b=some o'→h'.get? b=some o')→
   h'.get? s.heap.objs.size=some { cls:=.type "list",dict:=none,data:=.seq its.toArray c',slots:=#[] }→EP X pins σ Q (.ref s.heap.objs.size) { s with heap:=h' }:=fun its r' hz h' c' kp e=>
  ⟨.ref s.heap.objs.size,_,I.laid (t':=s.toks) kp (Nat.le_refl _) (show ObjOk X.prog X.w _ h' _ (.lst ys) from ⟨hz,its,c',r',e⟩),rfl,q _ (I.hok.fresh (Nat.le_refl _))⟩
 rcases hq with hq | hq
 ·obtain ⟨its,r',pl,hz⟩:=I.list hq
  have hlen:=r'.length
  obtain ⟨o,ho,hc,n,hd⟩:=pl.isList
  exact call_list_seq p (.inl rfl) ho hc hd (fun h' c' kp e=>fin its r' hz h' c' kp e) (by simp only [List.size_toArray] <;> omega)
 ·obtain ⟨its,r',pl,hz⟩:=I.tuple hq
  have hlen:=r'.length
  obtain ⟨o,ho,hc,n,hd⟩:=pl
  exact call_list_seq p (.inr rfl) ho hc hd (fun h' c' kp e=>fin its r' hz h' c' kp e) (by simp only [List.size_toArray] <;> omega)
def tyV (K:PySem.W.Frag) (T:String) (x:V) (H:Hp):Prop:=match x with
 | .str _=>T="str"
 | .int _=>T="int"
 | .ref p=>(T="list"∧∃ xs,SqL K H p xs)∨(T="tuple"∧∃ o,K.lookup p=some o∧o.cls=.type "tuple"∧o.dict=none)∨
   (T="dict"∧((∃ kvs,H p=some (.dK kvs))∨∃ kvs,H p=some (.dT kvs)))∨(T="set"∧∃ S n,H p=some (.set S n))
 | _=>False
theorem kW {pins:List (Addr × Obj)} {σ:St} {H:Hp} {s:Shared} {T:String} {x:V} {v:Value} (I:Inv X pins σ H s) (r:RelV x v) (ty:tyV X.K T x H):
  s.TypeIs v T∧∀ a,v=.ref a→∃ ob,s.heap.get? a=some ob∧ob.dict=none:=by
 cases x with
 | str z=>
  obtain ⟨t,rfl⟩:=r
  cases (show T="str" from ty)
  exact ⟨typeIs_str s z t,fun _ e=>nomatch e⟩
 | int i=>
  obtain ⟨t,rfl⟩:=r
  cases (show T="int" from ty)
  exact ⟨typeIs_int s i t,fun _ e=>nomatch e⟩
 | ref p=>
  cases r
  rcases ty with ⟨rfl,xs,hq⟩ | ⟨rfl,o,hk,hc,hd⟩ | ⟨rfl,hk⟩ | ⟨rfl,S,n,hk⟩
  ·obtain ⟨its,_,pl,_⟩:=I.list hq
   refine ⟨pl.isList.typeIs,fun a e=>?_⟩
   cases e
   obtain ⟨o,n,e,c,hd,_⟩:=pl
   exact ⟨o,e,hd⟩
  ·refine ⟨⟨o,I.kIn p o hk,hc⟩,fun a e=>?_⟩
   cases e
   exact ⟨o,I.kIn _ o hk,hd⟩
  ·have z:∃ o,s.heap.get? p=some o∧o.ExactDict:=by
    rcases hk with ⟨kvs,hk⟩ | ⟨kvs,hk⟩
    ·obtain ⟨_,_,_,_,o,_,_,e,ex,_⟩:=I.hok p _ hk
     exact ⟨o,e,ex⟩
    ·obtain ⟨_,_,_,_,o,_,_,e,ex,_⟩:=I.hok p _ hk
     exact ⟨o,e,ex⟩
   obtain ⟨o,e,ex⟩:=z
   refine ⟨⟨o,e,ex.1⟩,fun a e2=>?_⟩
   cases e2
   exact ⟨o,e,ex.2.1⟩
  ·obtain ⟨o,_,_,_,e,ex,_⟩:=I.hok p _ hk
   refine ⟨⟨o,e,ex.1⟩,fun a e2=>?_⟩
   cases e2
   exact ⟨o,e,ex.2.1⟩
 | _=>exact False.elim ty
def S9 (K:PySem.W.Frag) (T:String) (r:V→List V→Hp→VK→Prop) (to:TE):TE:=fun σ H Q=>to σ H fun x H1=>tyV K T x H1∧r x [] H1 Q
def tBM (K:PySem.W.Frag) (T:String) (r:V→List V→Hp→VK→Prop) (to:TE) (t:TA):TE:=fun σ H Q=>to σ H fun x H1=>tyV K T x H1∧t σ H1 fun xs H2=>r x xs H2 Q
variable {o e:Expr} {es:List Expr} {to:TE} {t:TA} {name:Str} {apos cpos:Pos} {T id:String} {r:V→List V→Hp→VK→Prop}
theorem jI (pa:PlainAttrs T) (slot:Slot T name id) (hty:typeOf (.builtin id)=pure (.type "method_descriptor")) (hm:MtR X id r) (ho:PE X o to)
  (hbase:attributeBase o name X.env (eval o X.env)=eval o X.env:=by rfl) (hline:(apos.endLine == cpos.line)=true:=by rfl):PE X (.Call (.Attribute o name apos) [] [] cpos) (S9 X.K T r to):=by
 intro pins s σ H Q I h
 refine wpAny_Call_method0_late hbase hline (thn (ho pins s σ H _ I h) fun v s1 ⟨x,H1,I1,r1,ty,q1⟩=>?_)
 obtain ⟨h1,h2⟩:=kW I1 r1 ty
 exact ⟨T,id,pa,slot,hty,h1,h2,Calls.callWith_builtin rfl (PySem.evalArgs_none (hm pins s1 σ H1 x [] v [] Q I1 r1 .nil q1))⟩
theorem jJ (pa:PlainAttrs T) (slot:Slot T name id) (hty:typeOf (.builtin id)=pure (.type "method_descriptor")) (hm:MtR X id r) (ho:PE X o to) (ha:PA X (e::es) t)
  (hbase:attributeBase o name X.env (eval o X.env)=eval o X.env:=by rfl)
  (hfew:((backTo cpos (starEach (e::es) X.env)).all (fun x=>!x.1) && (backToKw cpos (keywordEach [] X.env)).all (fun x=>x.1.isSome)
   && decide ((e::es).length+([]:List Keyword).length+(if ([]:List Keyword).isEmpty then 0 else 1)<30))=true:=by rfl)
  (hline:(apos.endLine == cpos.line)=true:=by rfl) (hs:starEach (e::es) X.env=(false,eval e X.env)::starEach es X.env:=by rfl) (hplain:(backTo cpos (starEach es X.env)).any (·.1)=false:=by rfl):
  PE X (.Call (.Attribute o name apos) (e::es) [] cpos) (tBM X.K T r to t):=by
 intro pins s σ H Q I h
 refine wpAny_Call_method_late hbase hfew hline rfl (thn (ho pins s σ H _ I h) fun v s1 ⟨x,H1,I1,r1,ty,q1⟩=>?_)
 obtain ⟨h1,h2⟩:=kW I1 r1 ty
 refine ⟨T,id,pa,slot,hty,h1,h2,?_⟩
 have hA:=ha cpos pins s1 σ H1 _ I1 q1
 rw [hs] at hA ⊢
 refine Calls.callWith_builtin (by show (false || (backTo cpos (starEach es X.env)).any (·.1))=false; rw [hplain] <;> rfl) (Calls.evalArgs_plain ?_)
 exact thn hA fun us s2 ⟨vs,H2,I2,r2,q2⟩=>hm pins s2 σ H2 x vs v us Q I2 r1 r2 q2
end
end L2
namespace L2
open PySem PySem.Spec PyProof.Rows
def MtM (X:Cx) (id:String) (r:V→List V→Hp→VK→Prop):Prop:=
 ∀ (pins:List (Addr × Obj)) (s:Shared) (σ:St) (H:Hp) (x:V) (xs:List V) (v:Value) (us:List Value) (Q:VK),Inv X pins σ H s→RelV x v→Vals xs us→r x xs H Q→
  wpAny (model X.prog X.w) X.A (call (.builtin id) (v::us)) (EP X pins σ Q) X.xe s
theorem Vals.one:∀ {x:V} {us:List Value},Vals [x] us→∃ u,us=[u]∧RelV x u
 | _,_,.cons r .nil=>⟨_,rfl,r⟩
theorem Vals.two:∀ {x y:V} {us:List Value},Vals [x,y] us→∃ u v,us=[u,v]∧RelV x u∧RelV y v
 | _,_,_,.cons r (.cons q .nil)=>⟨_,_,rfl,r,q⟩
theorem Vals.zero:∀ {us:List Value},Vals [] us→us=[]
 | _,.nil=>rfl
theorem Vals.dropLast {xs:List V} {us:List Value} (h:Vals xs us):Vals xs.dropLast us.dropLast:=by
 induction h with
 | nil=>exact .nil
 | cons r t ih=>
  cases t with
  | nil=>exact .nil
  | cons q t'=>exact .cons r ih
theorem Vals.eraseIdx:∀ {xs:List V} {us:List Value} (i:Nat),Vals xs us→Vals (xs.eraseIdx i) (us.eraseIdx i)
 | _,_,_,.nil=>.nil
 | _,_,0,.cons _ t=>t
 | _,_,i+1,.cons r t=>.cons r (Vals.eraseIdx i t)
theorem Vals.reverse {xs:List V} {us:List Value} (h:Vals xs us):Vals xs.reverse us.reverse:=by
 induction h with
 | nil=>exact .nil
 | cons r t ih=>rw [List.reverse_cons,List.reverse_cons]; exact Vals.append ih (.cons r .nil)
theorem Vals.rep {xs:List V} {us:List Value} (h:Vals xs us):∀ k:Nat,Vals (List.replicate k xs).flatten (List.replicate k us).flatten
 | 0=>.nil
 | k+1=>by
  rw [List.replicate_succ,List.replicate_succ,List.flatten_cons,List.flatten_cons]
  exact Vals.append h (Vals.rep h k)
theorem n8 {α:Type} (l:List α):l.eraseIdx (l.length - 1)=l.dropLast:=by
 induction l with
 | nil=>rfl
 | cons a r ih=>
  cases r with
  | nil=>rfl
  | cons b r=>
   have e:(a::b::r).length - 1=((b::r).length - 1)+1:=by
    have h1:(a::b::r).length=r.length+2:=rfl
    have h2:(b::r).length=r.length+1:=rfl
    omega
   rw [e,List.eraseIdx_cons_succ,ih]
   all_goals rfl
theorem rZ (its:List Value):∀ (k:Nat) (acc:List Value),
  List.foldl (fun x1 x2=>x1++x2) acc.toArray (List.replicate k its.toArray)=(acc++(List.replicate k its).flatten).toArray
 | 0,acc=>by simp
 | k+1,acc=>by
  have e:acc.toArray++its.toArray=(acc++its).toArray:=by simp
  have e2:(acc++its)++(List.replicate k its).flatten=acc++(List.replicate (k+1) its).flatten:=by
   rw [List.replicate_succ,List.flatten_cons,List.append_assoc]
  rw [← e2,← rZ its k (acc++its),← e,List.replicate_succ,List.foldl_cons]
section
variable {X:Cx} {pins:List (Addr × Obj)} {σ:St} {H:Hp} {s:Shared} {l b:Addr} {xs ys zs:List V}
theorem Inv.lset {its its':List Value} {n:Nat} {f:Array Value→Array Value} {t':Nat} (I:Inv X pins σ H s) (hH:H l=some (.lst xs))
  (e:s.heap.get? l=some { cls:=.type "list",data:=.seq its.toArray n }) (hf:f its.toArray=its'.toArray) (hv:Vals ys its') (hz:ys.length≤sizeLine):
  Inv X pins σ (upd H l (.lst ys)) { s with heap:=s.heap.update l (Obj.mapSeq f),toks:=t' }:=by
 have q:=PySem.IsL.update e f
 rw [hf] at q
 refine I.write (x:=l) (e:=l) (by rw [hH]; exact trivial) (.inl rfl) (fun b' u hb hu=>(Heap.get?_update_other s.heap (Obj.mapSeq f) (Ne.symm hb)).trans hu) ⟨_,q⟩ ?_
 exact ⟨hz,its',_,hv,q⟩
theorem Inv.lnew {its:List Value} {t':Nat} (I:Inv X pins σ H s) (hv:Vals ys its) (hz:ys.length≤sizeLine):
  Inv X pins σ (upd H s.heap.objs.size (.lst ys)) { s with heap:=s.heap.push { cls:=.type "list",data:=.seq its.toArray },toks:=t' }:=
 I.laid (fun _ _ q=>Heap.get?_push_of_some _ q) (Nat.le_refl _) ⟨hz,its,0,hv,Heap.get?_push_size _ rfl⟩
theorem Inv.fresh (I:Inv X pins σ H s):H s.heap.objs.size=none:=I.hok.fresh (Nat.le_refl _)
theorem Inv.lstM (I:Inv X pins σ H s) (hH:H l=some (.lst xs)):xs.length≤sizeLine∧∃ (its:List Value) (n:Nat),Vals xs its∧xs.length=its.length∧s.heap.get? l=some { cls:=.type "list",data:=.seq its.toArray n }:=by
 obtain ⟨z,its,n,r,e⟩:=I.hok l _ hH
 exact ⟨z,its,n,r,r.length,e⟩
theorem oz {n:Nat} (h:n≤sizeLine):Builtin.List.listTooLong n=false:=by
 unfold Builtin.List.listTooLong
 exact decide_eq_false (by omega)
end
section
variable {X:Cx}
def dq:V→List V→Hp→VK→Prop:=fun x vs H Q=>∃ l xs y,x=.ref l∧vs=[y]∧H l=some (.lst xs)∧xs.length<sizeLine∧Q .non (upd H l (.lst (xs++[y])))
theorem uO:MtM X "list.append" dq:=by
 intro pins s σ H x vs v us Q I rx rv h
 obtain ⟨l,xs,y,rfl,rfl,hH,hz,q⟩:=h
 cases rx
 obtain ⟨u,rfl,ru⟩:=rv.one
 obtain ⟨z,its,n,r,hl,e⟩:=I.lstM hH
 refine call_meets F.slot_list_append ⟨_,e,rfl⟩ F.entry_list_append (F.args_list_append_2 _ _) (PySem.list_append l its.toArray n u (by rw [List.size_toArray]; omega)) ⟨e,?_⟩
 refine ⟨.non,_,I.lset (its':=its++[u]) hH e (by simp) (r.append (.cons ru .nil)) ?_,rfl,q⟩
 rw [List.length_append,List.length_singleton]
 omega
def dm:V→List V→Hp→VK→Prop:=fun x vs H Q=>∃ l b xs zs,x=.ref l∧vs=[.ref b]∧H l=some (.lst xs)∧H b=some (.lst zs)∧xs.length+zs.length≤sizeLine∧Q .non (upd H l (.lst (xs++zs)))
theorem kv:MtM X "list.extend" dm:=by
 intro pins s σ H x vs v us Q I rx rv h
 obtain ⟨l,b,xs,zs,rfl,rfl,hH,hB,hz,q⟩:=h
 cases rx
 obtain ⟨u,rfl,ru⟩:=rv.one
 cases ru
 obtain ⟨z,its,n,r,hl,e⟩:=I.lstM hH
 obtain ⟨z2,its2,n2,r2,hl2,e2⟩:=I.lstM hB
 have hsz:its.toArray.size+its2.toArray.size≤sizeLine:=by rw [List.size_toArray,List.size_toArray]; omega
 have hlong:¬ (!its.toArray.isEmpty && Builtin.List.listTooLong (its.toArray.size+its2.toArray.size))=true:=by
  rw [oz hsz,Bool.and_false]
  exact Bool.false_ne_true
 refine call_meets F.slot_list_extend ⟨_,e,rfl⟩ F.entry_list_extend (F.args_list_extend_2 _ _)
  (AutoSeq1.list_extend_list_list_0 l its.toArray n b its2.toArray n2 hlong (by rw [List.size_toArray]; omega) (by omega)) ⟨e,e2,?_⟩
 refine ⟨.non,_,I.lset (its':=its++its2) hH e (by simp) (r.append r2) ?_,rfl,q⟩
 rw [List.length_append]
 omega
def Ri:V→List V→Hp→VK→Prop:=fun x vs H Q=>∃ l xs y,x=.ref l∧vs=[]∧H l=some (.lst xs)∧xs[xs.length - 1]? = some y∧Q y (upd H l (.lst xs.dropLast))
theorem VJ:MtM X "list.pop" Ri:=by
 intro pins s σ H x vs v us Q I rx rv h
 obtain ⟨l,xs,y,rfl,rfl,hH,hy,q⟩:=h
 cases rx
 have hus:=rv.zero
 subst hus
 obtain ⟨z,its,n,r,hl,e⟩:=I.lstM hH
 obtain ⟨u,hu,ru⟩:=r.get hy
 have hy':its.toArray[its.toArray.size - 1]? = some u:=by
  show its.toArray[its.length - 1]? = some u
  rw [← Array.getElem?_toList,← hl]
  exact hu
 refine call_meets F.slot_list_pop ⟨_,e,rfl⟩ F.entry_list_pop (F.args_list_pop_1 _) (MeetsSeq.list_pop_last l its.toArray n u hy' (by rw [List.size_toArray]; omega)) ⟨e,?_⟩
 refine ⟨y,_,I.lset (its':=its.dropLast) hH e ?_ r.dropLast ?_,ru,q⟩
 ·show its.toArray.eraseIdxIfInBounds (its.toArray.size - 1)=its.dropLast.toArray
  rw [List.size_toArray,List.eraseIdxIfInBounds_toArray,n8]
 ·rw [List.length_dropLast]
  omega
def jp:V→List V→Hp→VK→Prop:=fun x vs H Q=>∃ l xs,x=.ref l∧vs=[]∧H l=some (.lst xs)∧Q .non (upd H l (.lst xs.reverse))
theorem nP:MtM X "list.reverse" jp:=by
 intro pins s σ H x vs v us Q I rx rv h
 obtain ⟨l,xs,rfl,rfl,hH,q⟩:=h
 cases rx
 have hus:=rv.zero
 subst hus
 obtain ⟨z,its,n,r,hl,e⟩:=I.lstM hH
 refine call_meets F.slot_list_reverse ⟨_,e,rfl⟩ F.entry_list_reverse (F.args_list_reverse_1 _) (AutoSeq1.list_reverse_list_0 l its.toArray n (by rw [List.size_toArray]; omega)) ⟨e,?_⟩
 refine ⟨.non,_,I.lset (its':=its.reverse) hH e (by simp) r.reverse ?_,rfl,q⟩
 rw [List.length_reverse]
 omega
def Rj:R2:=fun x y H Q=>∃ l b xs zs,x=.ref l∧y=.ref b∧H l=some (.lst xs)∧H b=some (.lst zs)∧xs.length+zs.length≤sizeLine∧∀ p,H p=none→Q (.ref p) (upd H p (.lst (xs++zs)))
theorem YC:OpR X (binaryOp .Add) Rj:=by
 intro pins s σ H x y v u Q I rx ry h
 obtain ⟨l,b,xs,zs,rfl,rfl,hH,hB,hz,q⟩:=h
 cases rx
 cases ry
 obtain ⟨z,its,n,r,hl,e⟩:=I.lstM hH
 obtain ⟨z2,its2,n2,r2,hl2,e2⟩:=I.lstM hB
 refine PySem.P.add_list e e2 ?_ (by rw [List.size_toArray,List.size_toArray]; omega)
 have ea:its.toArray++its2.toArray=(its++its2).toArray:=by simp
 rw [ea]
 exact ⟨.ref _,_,I.lnew (t':=s.toks) (r.append r2) (by rw [List.length_append]; omega),rfl,q _ I.fresh⟩
def Rh:R2:=fun x y H Q=>∃ l k xs,x=.ref l∧y=.int k∧H l=some (.lst xs)∧-(2 ^ 63)≤k∧k<2 ^ 63∧xs.length*k.toNat≤sizeLine∧
 ∀ p,H p=none→Q (.ref p) (upd H p (.lst (List.replicate k.toNat xs).flatten))
theorem aK {α:Type} (xs:List α) (k:Nat):(List.replicate k xs).flatten.length=k*xs.length:=by
 induction k with
 | zero=>simp
 | succ k ih=>rw [List.replicate_succ,List.flatten_cons,List.length_append,ih,Nat.succ_mul,Nat.add_comm]
theorem YB:OpR X (binaryOp .Mult) Rh:=by
 intro pins s σ H x y v u Q I rx ry h
 obtain ⟨l,k,xs,rfl,rfl,hH,h1,h2,hz,q⟩:=h
 cases rx
 obtain ⟨t,rfl⟩:=ry
 obtain ⟨z,its,n,r,hl,e⟩:=I.lstM hH
 have hlen:its.toArray.size*k.toNat≤sizeLine:=by rw [List.size_toArray,← hl]; exact hz
 have hcap:¬ its.toArray.size*k.toNat>(2 ^ 63 - 1) / 8:=by
  have:(sizeLine:Nat)≤(2 ^ 63 - 1) / 8:=by decide
  omega
 have hfit:¬ (!Builtin.List.listFitsIndex k)=true:=by
  rw [fitsIndex_both h1 h2]
  exact Bool.false_ne_true
 have hlong:¬ Builtin.List.listTooLong (its.toArray.size*k.toNat)=true:=by
  rw [oz hlen]
  exact Bool.false_ne_true
 have hnew:List.foldl (fun x1 x2=>x1++x2) #[] (List.replicate (if its.toArray.isEmpty=true then 0 else k.toNat) its.toArray)=(List.replicate k.toNat its).flatten.toArray:=by
  have f0:∀ m:Nat,List.foldl (fun x1 x2=>x1++x2) #[] (List.replicate m its.toArray)=(List.replicate m its).flatten.toArray:=fun m=>by
   have:=rZ its m []
   rw [List.nil_append] at this
   exact this
  rw [f0]
  cases its with
  | nil=>simp
  | cons a r'=>rw [if_neg (by simp)]
 refine wpAny_binaryOp_repeat_ref (T:="list") (U:="int") (by decide) ⟨_,e,rfl⟩ (fun s'=>typeIs_int s' k t) noFill_list_mul F.fills_int_mul F.slot_int_rmul repeat_list F.slot_int_index.lookup
  (call_meets F.slot_int_rmul (typeIs_int s k t) F.entry_int_rmul (F.args_int_rmul_2 _ _) (int___rmul___int_list k t l its.toArray n)
   ⟨e,rfl,⟨_,e,rfl⟩,call_meets F.slot_list_mul ⟨_,e,rfl⟩ F.entry_list_mul (F.args_list_mul_2 _ _) (AutoListH.list___mul___list_int_3 l its.toArray n k t hfit hcap hlong) ⟨e,?_⟩⟩)
 rw [hnew]
 exact ⟨.ref _,_,I.lnew (t':=s.toks) (r.rep k.toNat) (by rw [aK,Nat.mul_comm]; exact hz),rfl,q _ I.fresh⟩
end
section
variable {prog:Program} {w:World} {A:Around} {E:Value→Shared→Prop} {s:Shared}
set_option maxRecDepth 100000 in
end
section
variable {X:Cx}
end
end L2
namespace Att
open PySem PySem.W PySem.Calls PyProof.Rows
theorem tM {P:Params} {h:Heap}:∀ (ns:List Int) (vs:List Value),WellAll P h vs (ns.map WData.int)→IntsAre vs ns:=by
 intro ns
 induction ns with
 | nil=>
  intro vs w
  rw [List.map_nil] at w
  cases w
  exact .nil
 | cons n ns ih=>
  intro vs w
  rw [List.map_cons] at w
  cases w with
  | cons a b=>
   cases a
   exact .cons _ _ (ih _ b)
theorem lW {l:OpenLaw} {n:Nat} (hn:l.most=some n) {P:Params} {h:Heap} {args:List WData} {vals:List Value}
  (hpre:l.row.toRowW.claim.pre args=true) (hwl:WellAll P h vals args):
  ∃ a vs ns,vals=[Value.ref a]∧args=[WData.list (ns.map WData.int)]∧h.get? a=some { cls:=.type "list",data:=.seq vs.toArray }∧IntsAre vs ns∧ns.length≤n:=by
 have hsh:WShape.hasAll [] args [.list .int]=true:=(pre_splitW hpre).1
 have hc:l.pre.holds [] { args:=args }=true:=(pre_splitW hpre).2
 obtain ⟨d,r,rfl,h1,h2⟩:=hasAllW_cons hsh
 obtain rfl:=hasAllW_nil h2
 obtain ⟨xs,rfl,h3⟩:=hasW_list h1
 obtain ⟨ns,rfl⟩:=items_int h3
 have hlen:ns.length≤n:=by
  unfold OpenLaw.pre at hc
  have h4:(WTm.not (.lt (.lit (.int (n:Int))) (.len (.arg 0)))).holds [] { args:=[.list (ns.map .int)] }=true:=by
   have h4:=(holds_andW hc).1
   rw [hn] at h4
   exact h4
  have h5:=condW_of h4 (w_not (w_lt w_lit (w_len_list (w_arg rfl))))
  rw [List.length_map] at h5
  refine Nat.le_of_not_lt fun q=>?_
  have q':(n:Int)<((ns.length:Nat):Int):=by omega
  first
   | (rw [decide_eq_true q'] at h5; exact absurd h5 (by decide))
   | (simp at h5; omega)
 cases hwl with
 | cons w1 w2=>
  cases w2
  cases w1 with
  | list ho hall=>exact ⟨_,_,ns,rfl,rfl,ho,tM ns _ hall,hlen⟩
theorem l4 (l:OpenLaw) (args:List WData):l.row.toRowW.claim.post args (.bool true) args=true:=
 postW_of (r:=l.row.toRowW) (X:=(true == true))
  (show WShape.has [] (.bool true) .bool=true by first | rfl | decide | simp [WShape.has,WShape.arms,WShape.armsAll])
  (show (WTm.eq .res (.lit (.bool true))).value [] { args:=args,res:=some (.bool true),after:=args }=some (.bool (true == true)) from w_eq_bool (w_res rfl) w_lit) rfl
theorem attach_call {l:OpenLaw} {n:Nat} {q:Program} {loose:List Str} {XP:(Str→Option Value)→Heap→Prop} {YP:World→Heap→Prop} {d:DefRec}
  (hn:l.most=some n) (hdf:d.params.defaults=[])
  (call:∀ (w:World) (s₀ s₁:Shared) (mg mb:Str→Option Value) (fa:Addr) (o:Obj) (pm cd doc:Value) (a:Addr) (vs:List Value) (ns:List Int),
   Ground q loose [] XP w s₀ mg mb s₁.heap→YP w s₁.heap→
   s₁.heap.get? fa=some o→o.data=.func (docDef d.name d.params d.body d.scope pm cd doc)→s₁.heap.CodeRec cd d.name→mg d.name=some (.ref fa)→
   s₁.heap.get? a=some { cls:=.type "list",data:=.seq vs.toArray }→IntsAre vs ns→ns.length≤n→s₁.gens=#[]→
   codeAny (model l.prog w) callerA (.call (.ref fa) ⟨[.ref a],[]⟩) (fun r s'=>r=.ok (.ret (.bool true))∧OldK s₁.heap s'.heap∧s'.os=s₁.os∧AllBare s'.gens) s₁):
  WalkO q loose XP YP l.row.toRowW d [] (fun f vs=>PySem.call f vs):=by
 intro w s₀ s₁ mg mb G Y fa o pm cd doc dV kV ho hd hcd hD hmg hg args vals as hpre hlay hrd hwl hlo
 obtain rfl:dV=.none:=Dflts.none hD hdf
 obtain rfl:kV=.none:=Dflts.noKw hD
 obtain ⟨a,vs,ns,rfl,rfl,hobj,hints,hlen⟩:=lW hn hpre hwl
 refine enter_call (codeAny_mono (call w s₀ s₁ mg mb fa o pm cd doc a vs ns G Y ho (fd_plain hd) hcd hmg hobj hints hlen hg) fun r s' hq=>?_)
 obtain ⟨rfl,h2,h3,h4⟩:=hq
 exact ⟨.inl ⟨.bool true,.bool true,[],rfl,fun _=>rfl,.bool true,l4 l _,fun _=>⟨List.Pairwise.nil,fun _ hm=>(nomatch hm)⟩⟩,h2,h3,h4⟩
section
variable {prog:Program} {w:World} {A:Around} {E:Value→Shared→Prop} {s:Shared} {K:Frag}
def Rv (h:Heap) (L d:Addr):List (Addr × Obj):=(List.range h.objs.size).filterMap fun a=>if a=L∨a=d then none else (h.get? a).map fun o=>(a,o)
end
end Att
namespace L2
open PySem PySem.Spec PyProof.Rows
theorem rO:∀ {vs:List Value} {ns:List Int},IntsAre vs ns→Vals (ns.map V.int) vs
 | _,_,.nil=>.nil
 | _,_,.cons n t h=>.cons ⟨t,rfl⟩ (rO h)
def Uu (H:Hp):Prop:=∀ b,H b=none∨∃ o xs,H b=some (.frz o (.lst xs))
theorem gO {P:Program} {w:World} {K:PySem.W.Frag} {mg mb:Str→Option Value} {CX:CXT} {k:Nat} {fa a:Addr} {fd:FuncData} {x:Str} {sp:Sp} {s₁:Shared} {vs:List Value} {ns:List Int}
  (KX:K.In s₁.heap) (hns:s₁.heap.Ns mainGlobals mg) (hb:s₁.heap.Ns builtinsNs mb) (hbb:∀ x:Str,x≠"__name__"→mb x=bootBuiltins x) (hlim:s₁.heap.NoLimit) (hg:s₁.gens=#[])
  (ha:s₁.heap.get? a=some { cls:=.type "list",data:=.seq vs.toArray }) (hi:IntsAre vs ns) (hl:ns.length≤sizeLine) (hr:Room k callerA)
  (F:∀ base:Heap,K.In base→base.Ns mainGlobals mg→FnOk P w K mg base CX k fa fd [x] sp) (hbind:∀ (s:Shared) (u:Value),BindsTo s fd ⟨[u],[]⟩ [(x,u)])
  (hsp:∀ H:Hp,Uu H→SqL K H a (ns.map V.int)→sp [.ref a] H (fun v _=>v=.bl true) fun _ _ _=>False)
  (hCX:∀ H e s',CX [] H s₁ (fun _ _ _=>False) e s'→False):
  codeAny (model P w) callerA (.call (.ref fa) ⟨[.ref a],[]⟩) (fun r s'=>r=.ok (.ret (.bool true))∧OldK s₁.heap s'.heap∧s'.os=s₁.os∧AllBare s'.gens) s₁:=by
 have rv:=rO hi
 have lenV:=hi.length
 have core:∀ H:Hp,Uu H→SqL K H a (ns.map V.int)→HOk P w H s₁.heap→(∀ b,H b≠none→b=a)→(H a≠none→K.lookup a=none)→
   codeAny (model P w) callerA (.call (.ref fa) ⟨[.ref a],[]⟩) (fun r s'=>r=.ok (.ret (.bool true))∧OldK s₁.heap s'.heap∧s'.os=s₁.os∧AllBare s'.gens) s₁:=by
  intro H hO hS hok hA hK
  have base_of:∀ {b:Addr} {o:Obj},s₁.heap.get? b=some o→H b=none→(qX s₁.heap H).get? b=some o:=fun e n=>gX e n
  have noA:∀ {b:Addr} {o:Obj} {es:Array DictEntry} {ep:Nat},s₁.heap.get? b=some o→o.data=.dict es ep→H b=none:=fun {b o es ep} e d=>by
   cases q:H b with
   | none=>rfl
   | some u=>
    have e':b=a:=hA b (by rw [q]; simp)
    subst e'
    rw [ha] at e; cases e
    have d':Data.seq vs.toArray _=Data.dict es ep:=d
    cases d'
  have nsK:∀ {b:Addr} {m:Str→Option Value},s₁.heap.Ns b m→(qX s₁.heap H).Ns b m:=fun {b m} ⟨o,es,ep,e,d,r⟩=>⟨o,es,ep,base_of e (noA e d),d,r⟩
  have hKb:K.In (qX s₁.heap H):=fun b o e=>base_of (KX b o e) (by
   cases q:H b with
   | none=>rfl
   | some u=>
    have e':b=a:=hA b (by rw [q]; simp)
    subst e'
    rw [hK (by rw [q]; simp)] at e; cases e)
  have hM:Mod K mg (qX s₁.heap H):=⟨hKb,nsK hns,⟨mb,nsK hb,hbb⟩,let ⟨mc,h1,h2⟩:=hlim; ⟨mc,nsK h1,h2⟩⟩
  have e0:Env0 P w K mg (qX s₁.heap H) callerA [] s₁ H:=⟨rfl,hM,fun b o e=>dQ e,Nat.le_of_eq (kF _ _),trivial,fun b hb=>absurd (show b∈([]:List Addr) from hb) (by simp),hok,.of_eq hg⟩
  refine codeAny_mono ((F _ hKb (nsK hns)).run callerA [] s₁ H ⟨[.ref a],[]⟩ [.ref a] [.ref a] _ _ hr e0 (hbind s₁ (.ref a)) (.cons rfl .nil) (hsp H hO hS)) fun r s' h=>?_
  cases r with
  | error e=>exact (hCX H e s' h).elim
  | ok fl=>
   cases fl with
   | next=>exact False.elim h
   | brk=>exact False.elim h
   | cont=>exact False.elim h
   | ret u=>
    obtain ⟨v,H',os,bare,un,hok',r',q⟩:=h
    have q':v=.bl true:=q
    subst q'
    obtain rfl:u=Value.bool true:=r'
    refine ⟨rfl,OldK.of_keep fun b o e=>?_,os,bare⟩
    cases q:H b with
    | none=>exact un.keep b o e q (by intro z; exact absurd (show b∈([]:List Addr) from z) (by simp)) (by simp)
    | some u=>
     rcases hO b with z | ⟨ob,xs,z⟩
     ·rw [q] at z; cases z
     ·have z2:=un.frzs b ob _ z
      obtain ⟨e1,_⟩:=hok b _ z
      obtain ⟨e2,_⟩:=hok' b _ z2
      rw [e] at e1; cases e1
      exact e2
 cases hk:K.lookup a with
 | some o=>
  have e:=KX a o hk
  rw [ha] at e
  cases e
  refine core (fun _=>none) (fun _=>.inl rfl) (.inr ⟨_,vs.toArray,_,hk,rfl,rfl,rfl,by rw [List.size_toArray,lenV]; exact hl,by simpa using rv⟩) (fun b u z=>by have z':(none:Option HO)=some u:=z; cases z') (fun b z=>absurd rfl z) fun z=>absurd rfl z
 | none=>
  refine core (fun b=>if b=a then some (.frz { cls:=.type "list",data:=.seq vs.toArray } (.lst (ns.map V.int))) else none) (fun b=>?_) (.inl (.inr ⟨{ cls:=.type "list",data:=.seq vs.toArray },if_pos rfl⟩)) (fun b u z=>?_) (fun b z=>?_) fun _=>hk
  ·by_cases hb:b=a
   ·exact .inr ⟨_,_,if_pos hb⟩
   ·exact .inl (if_neg hb)
  ·by_cases hb:b=a
   ·have z':=(if_pos hb).symm.trans z
    cases z'
    subst hb
    exact ⟨ha,by rw [List.length_map]; exact hl,vs,_,rv,ha⟩
   ·have z':=(if_neg hb).symm.trans z
    cases z'
  ·by_cases hb:b=a
   ·exact hb
   ·exact absurd (if_neg hb) z
end L2
namespace L2
open PySem PySem.Spec PyProof.Rows
abbrev KOf {K:PySem.W.Frag} {h:Heap} (_:K.In h):PySem.W.Frag:=K
theorem walk_of {l:PySem.W.OpenLaw} {n k:Nat} {q:Program} {loose:List Str} {XP:(Str→Option Value)→Heap→Prop} {YP:World→Heap→Prop} {d:DefRec} {K:Params→PySem.W.Frag} {CX:World→CXT} {sp:World→Sp} {x:Str}
  (hn:l.most=some n) (hn2:n≤sizeLine) (hdf:d.params.defaults=[]) (hr:Room k callerA)
  (hY:∀ (w:World) (h:Heap),YP w h→(K w.params).In h)
  (F:∀ (w:World) (mg:Str→Option Value) (fa:Addr) (h:Heap),(K w.params).In h→h.Ns mainGlobals mg→mg d.name=some (.ref fa)→
   ∃ fd:FuncData,(∀ (s:Shared) (u:Value),BindsTo s fd ⟨[u],[]⟩ [(x,u)])∧
    ∀ base:Heap,(K w.params).In base→base.Ns mainGlobals mg→FnOk l.prog w (K w.params) mg base (CX w) k fa fd [x] (sp w))
  (hsp:∀ (w:World) (H:Hp) (a:Addr) (ns:List Int),ns.length≤n→Uu H→SqL (K w.params) H a (ns.map V.int)→sp w [.ref a] H (fun v _=>v=.bl true) fun _ _ _=>False)
  (hCX:∀ (w:World) (H:Hp) (s:Shared) (e:Value) (s':Shared),CX w [] H s (fun _ _ _=>False) e s'→False):
  PySem.W.WalkO q loose XP YP l.row.toRowW d [] (fun f vs=>PySem.call f vs):=by
 refine Att.attach_call hn hdf fun w s₀ s₁ mg mb fa o pm cd doc a vs ns G Y ho hd hcd hmg hobj hints hlen hg=>?_
 have KX:=hY w _ Y
 obtain ⟨fd,hb,hF⟩:=F w mg fa _ KX G.T.g hmg
 exact gO KX G.T.g G.T.b G.T.builtins G.T.nolimit hg hobj hints (Nat.le_trans hlen hn2) hr hF hb (fun H hO hS=>hsp w H a ns hlen hO hS) fun H e s'=>hCX w H s₁ e s'
end L2
namespace L2
open PySem PySem.Spec PyProof.Rows
def inClass (s:Stmt) (j:Nat):Stmt:=match s with
 | .ClassDef _ _ _ body _ _ _ _ _ _ _=>body.getD j (.Pass ⟨0,0,0,0⟩)
 | _=>.Pass ⟨0,0,0,0⟩
def defArgs (s:Stmt):Arguments:=match s with
 | .FunctionDef _ a _ _ _ _ _ _ _ _=>a
 | _=>{ posonlyargs:=[],args:=[],vararg:=none,kwonlyargs:=[],kw_defaults:=[],kwarg:=none,defaults:=[] }
def defBody (s:Stmt):List Stmt:=match s with
 | .FunctionDef _ _ b _ _ _ _ _ _ _=>b
 | _=>[]
def defScope (s:Stmt):Scope:=match s with
 | .FunctionDef _ _ _ _ _ _ sc _ _ _=>sc
 | _=>{ kind:=.function,names:=[],isGenerator:=false,isCoroutine:=false }
abbrev CX0:CXT:=fun _ _ _ _ _ _=>False
abbrev E0:XK:=fun _ _ _=>False
theorem rT {X:Cx}:u5 CX0 X E0:=fun _ _ _ _ _ _ _ h=>h.elim
structure Fun (K:PySem.W.Frag) (x qual:Str) (st:Stmt) (f:Addr) (fd:FuncData):Prop where
 ex:∃ (oc:Value) (od:Option Addr) (kV doc pm:Value) (an:Option Addr) (cdv ct:Value) (osl:Array (Option Value)),
  fd=PySem.W.fnOf x qual (defArgs st) (defBody st) (defScope st) .none kV doc pm an cdv ct∧K.lookup f=some ⟨oc,od,.func fd,osl⟩∧PySem.W.codeIn K cdv qual=true
 kp:PySem.W.keepIn K (.ref f)=true
section
variable {P:Program} {w:World} {K:PySem.W.Frag} {mg:Str→Option Value} {base:Heap}
theorem Fun.ok {x qual:Str} {st:Stmt} {f:Addr} {fd:FuncData} {N ps:List Str} {k:Nat} {sp:Sp} (F:Fun K x qual st f fd) (S:zi N ps (defScope st)) (len:∀ vs H Q E,sp vs H Q E→vs.length=ps.length)
  (hbody:∀ (cdv:Value) (A:Around) (outer:List Env) (s:Shared) (H:Hp) (vs:List V) (Q:VK) (E:XK),Room k (A.deeper (envOfC qual (defScope st) s.heap.objs.size f cdv))→sp vs H Q E→
   ∃ t,PSs (yC CX0 P w K mg base N qual (defScope st) f cdv A outer s H E).nox (defBody st) t∧t { nx:=fun _ H'=>Q .non H',rt:=Q } (start N vs) H):FnOk P w K mg base CX0 (k+1) f fd ps sp:=by
 obtain ⟨oc,od,kV,doc,pm,an,cdv,ct,osl,rfl,lk,hcd⟩:=F.ex
 refine ZK lk hcd S len fun A outer s H vs Q E hr hsp=>?_
 obtain ⟨t,h,q⟩:=hbody cdv A outer s H vs Q E hr hsp
 exact ⟨t,h.nox,q⟩
theorem Fun.binds {x qual:Str} {st:Stmt} {f:Addr} {fd:FuncData} {ps:List Str} (F:Fun K x qual st f fd)
  (h:∀ (kV doc pm:Value) (an:Option Addr) (cdv ct:Value) (us:List Value),us.length=ps.length→bindArgs (PySem.W.fnOf x qual (defArgs st) (defBody st) (defScope st) .none kV doc pm an cdv ct) ⟨us,[]⟩=pure (ps.zip us)):Binds K fd ps []:=by
 obtain ⟨oc,od,kV,doc,pm,an,cdv,ct,osl,rfl,lk,hcd⟩:=F.ex
 exact .all (h kV doc pm an cdv ct)
theorem n6 {x qual:Str} {st:Stmt} {f:Addr} {oc:Value} {od an:Option Addr} {osl:Array (Option Value)} {kV doc pm cdv ct:Value} (l:K.lookup f=some ⟨oc,od,.func (PySem.W.fnOf x qual (defArgs st) (defBody st) (defScope st) .none kV doc pm an cdv ct),osl⟩)
  (c:PySem.W.codeIn K cdv qual=true) (k:PySem.W.keepIn K (.ref f)=true):Fun K x qual st f (PySem.W.fnOf x qual (defArgs st) (defBody st) (defScope st) .none kV doc pm an cdv ct):=⟨⟨oc,od,kV,doc,pm,an,cdv,ct,osl,rfl,l,c⟩,k⟩
end
section
variable {X:Cx}
theorem pv (i:Nat) {x:Str} {pos:Pos} (hN:X.N[i]? = some x:=by rfl) (hv:Vis X.env.scope x:=by first | exact Or.inl rfl | exact Or.inr (Or.inl rfl) | exact Or.inr (Or.inr rfl)) (hd:(x == ("__debug__":Str))=false:=by decide)
  (hcd:(x == ("__classdict__":Str))=false:=by decide):PE X (.Name x pos) (eU i):=yl hN hv hd hcd
end
theorem RA {A B:Prop} (h:B):if false=true then A else B:=by
 rw [if_neg Bool.false_ne_true]
 exact h
theorem Ry {A B:Prop} (h:A):if true=true then A else B:=by
 rw [if_pos rfl]
 exact h
theorem T0 {c A B:Prop} [Decidable c] (h1:c→A) (h2:¬ c→B):if c then A else B:=by
 by_cases h:c
 ·rw [if_pos h]
  exact h1 h
 ·rw [if_neg h]
  exact h2 h
def Same (H H':Hp):Prop:=∀ b o,H b=some o→H' b=some o
theorem Same.refl (H:Hp):Same H H:=fun _ _ h=>h
theorem Same.trans {H H1 H2:Hp} (a:Same H H1) (b:Same H1 H2):Same H H2:=fun c o h=>b c o (a c o h)
theorem Same.free {H H':Hp} (e:Same H H') {l:Addr} (h:H' l=Option.none):H l=Option.none:=by
 cases q:H l with
 | none=>rfl
 | some o=>
  rw [e l o q] at h
  cases h
theorem Same.seq {K:PySem.W.Frag} {H H':Hp} {a:Addr} {xs:List V} (e:Same H H') (h:SqL K H a xs):SqL K H' a xs:=by
 rcases h with (h | ⟨o,h⟩) | h
 ·exact .inl (.inl (e _ _ h))
 ·exact .inl (.inr ⟨o,e _ _ h⟩)
 ·exact .inr h
end L2
set_option maxRecDepth 1000000
set_option maxHeartbeats 0
open PySem in
def My.top (i:Nat):Stmt:=PySem.Challenge.pw_oddbases_k35_reckoning_refused.main.body.getD i (.Pass ⟨0,0,0,0⟩)
noncomputable section
open PySem My
namespace My
abbrev v_:Option Value:=some (.ref 6)
abbrev g_:Array GenState:=⟨[]⟩
abbrev d_:=@Drawn.mk 0 0 0 0
abbrev P_:=@Pos.mk
abbrev N_ (o:Params→Obj) (a b:Params→W.BT) (x:Params):W.BT:=.node (o x) (a x) (b x)
abbrev Z_ (_:Params):W.BT:=.nil
abbrev L_ (o:Params→Obj):=N_ o Z_ Z_
theorem sg_ {tb p w n₀ ann b} {n:Nat} {s s':W.SharedT} {t:Thread} {f:Flow} {c:Code} {q:Pos} (h:W.segRunT tb p w n₀ ann b n s t=some (f,s',c,q)):W.segRun tb p w n₀ ann b n s.abs t=some (f,s'.abs,c,q):=W.segRun_of h
abbrev p_ (a:String) (b:Nat):Value:=.str (.ofString a) b
abbrev j_ (a:Int) (b:Nat):Value:=.int a b
abbrev r_ (a:Nat):Value:=.ref a
abbrev e_ (x:Params) (a:String) (b:Nat) (v:Value):DictEntry:=⟨PyData.keyHash x (.ofString a),.str (.ofString a) b,v⟩
abbrev t0 (a1:String) (a3:Nat) (a7:String) (a8 a9:Nat) (x:Params):Obj:=(@Obj.mk (.type "function") none (@Data.func (@FuncData.mk (.ofString a1) (.ofString a1) (L2.defArgs (My.top a3)) (@FuncBody.stmts (L2.defBody (My.top a3))) (L2.defScope (My.top a3)) 3 (@List.nil (@Prod @Str @Nat)) .none .none .none (p_ a7 a8) none (r_ a9) .none 0)) #[])
abbrev t1 (a1:String) (a2:Nat) (a3:String) (a4 a6:Nat) (a7 a9:Int) (a17 a20 a21 a22 a23:Nat) (a24:Int) (a29:Nat) (x:Params):Obj:=(@Obj.mk (.type "code") none (@Data.fields (List.toArray [(p_ a1 a2),(p_ a3 a4),(p_ "/claim/cut.py" a6),(j_ a7 0),(j_ a9 0),(j_ 0 0),(j_ 0 0),(j_ 3 0),(r_ a17),(.bool @Bool.true),(j_ 181 0),(r_ a20),.none,(r_ a21),(r_ a22),(r_ a23),(j_ a24 0),(j_ a7 0),(p_ "/claim/cut.py" a29)])) #[])
abbrev t2 (a0:String) (a2:Nat) (x:Params):Obj:=(@Obj.mk .none none (@Data.func (@FuncData.mk (.ofString a0) (.ofString a0) (L2.defArgs (My.top a2)) (@FuncBody.stmts (L2.defBody (My.top a2))) (L2.defScope (My.top a2)) 0 (@List.nil (@Prod @Str @Nat)) .none .none .none .none none .none .none 0)) #[])
abbrev t3 (x:Params):Obj:=(@Obj.mk (.type "tuple") none (@Data.seq #[] 0) #[])
abbrev t4 (x:Params):Obj:=(@Obj.mk .none none (@Data.fields #[]) #[])
abbrev t5 (a1:String) (a2:Nat) (a3:String) (a4:Nat) (a5:String) (a6:Nat) (a7:String) (a8:Nat) (a9:String) (a10:Nat) (a11:String) (a12:Nat) (a13:String) (a14:Nat) (a15:String) (a16:Nat) (x:Params):Obj:=(@Obj.mk (.type "tuple") none (@Data.seq (List.toArray [(p_ a1 a2),(p_ a3 a4),(p_ a5 a6),(p_ a7 a8),(p_ a9 a10),(p_ a11 a12),(p_ a13 a14),(p_ a15 a16)]) 0) #[])
abbrev t6 (a1:String) (a2:Nat) (a3:String) (a4:Nat) (a5:String) (a6:Nat) (a7:String) (a8:Nat) (a9:String) (a10:Nat) (a11:String) (a12:Nat) (x:Params):Obj:=(@Obj.mk (.type "tuple") none (@Data.seq (List.toArray [(p_ a1 a2),(p_ a3 a4),(p_ a5 a6),(p_ a7 a8),(p_ a9 a10),(p_ a11 a12)]) 0) #[])
abbrev t7 (a1:String) (a2:Nat) (a3:String) (a4:Nat) (a5:String) (a6:Nat) (a7:String) (a8:Nat) (x:Params):Obj:=(@Obj.mk (.type "tuple") none (@Data.seq (List.toArray [(p_ a1 a2),(p_ a3 a4),(p_ a5 a6),(p_ a7 a8)]) 0) #[])
abbrev t8 (a1:String) (a2 a4 a6:Nat) (a7 a9:Int) (a17 a20 a21:Nat) (a22:Int) (a27:Nat) (x:Params):Obj:=(@Obj.mk (.type "code") none (@Data.fields (List.toArray [(p_ a1 a2),(p_ a1 a4),(p_ "/claim/cut.py" a6),(j_ a7 0),(j_ a9 0),(j_ 0 0),(j_ 0 0),(j_ 3 0),(r_ a17),(.bool @Bool.true),(j_ 181 0),(r_ a20),.none,.none,.none,(r_ a21),(j_ a22 0),(j_ a7 0),(p_ "/claim/cut.py" a27)])) #[])
abbrev t9 (a1:String) (a2:Nat) (a3:String) (a4:Nat) (a5:String) (a6:Nat) (x:Params):Obj:=(@Obj.mk (.type "tuple") none (@Data.seq (List.toArray [(p_ a1 a2),(p_ a3 a4),(p_ a5 a6)]) 0) #[])
abbrev t10 (a1:String) (a2:Nat) (a3:String) (a4:Nat) (x:Params):Obj:=(@Obj.mk (.type "tuple") none (@Data.seq (List.toArray [(p_ a1 a2),(p_ a3 a4)]) 0) #[])
abbrev t11 (a1:String) (a2:Nat) (a3:String) (a4:Nat) (a5:String) (a6:Nat) (a7:String) (a8:Nat) (a9:String) (a10:Nat) (x:Params):Obj:=(@Obj.mk (.type "tuple") none (@Data.seq (List.toArray [(p_ a1 a2),(p_ a3 a4),(p_ a5 a6),(p_ a7 a8),(p_ a9 a10)]) 0) #[])
abbrev t12 (a1:String) (a2:Nat) (x:Params):Obj:=(@Obj.mk (.type "tuple") none (@Data.seq (List.toArray [(p_ a1 a2)]) 0) #[])
abbrev t13 (a1:String) (a2:Nat) (a3:String) (a4:Nat) (a5:String) (a6:Nat) (a7:String) (a8:Nat) (a9:String) (a10:Nat) (a11:String) (a12:Nat) (a13:String) (a14:Nat) (x:Params):Obj:=(@Obj.mk (.type "tuple") none (@Data.seq (List.toArray [(p_ a1 a2),(p_ a3 a4),(p_ a5 a6),(p_ a7 a8),(p_ a9 a10),(p_ a11 a12),(p_ a13 a14)]) 0) #[])
abbrev t14 (a2:Nat) (x:Params):Obj:=(@Obj.mk (.type "builtin_function_or_method") none (@Data.fields (List.toArray [(.builtin "object.__init_subclass__"),(r_ a2)])) #[])
abbrev t15 (a1:Nat) (x:Params):Obj:=(@Obj.mk (.type "super") none (@Data.fields (List.toArray [(r_ a1),(r_ a1),(r_ a1)])) #[])
abbrev t16 (a1:String) (a3 a6 a8 a10 a12:Nat) (x:Params):Obj:=(@Obj.mk (.type "type") none (@Data.cls (@ClassData.mk (.ofString a1) [(r_ 272)] [(r_ a3),(r_ 272),(.type "object")] a6 (.ofString a1) @Bool.true [] [] @Bool.false (@Option.none @Bool) @Bool.false)) (@List.toArray (@Option @Value) [(some (r_ a8)),none,(some (p_ a1 a10)),(some (p_ a1 a12)),(some (.builtin "object.__new__")),(some (.bool @Bool.true))]))
abbrev t17 (a1 a2:String) (a3 a4 a12:Nat) (x:Params):Obj:=(@Obj.mk (.type "function") none (@Data.func (@FuncData.mk (.ofString a1) (.ofString a2) (L2.defArgs (L2.inClass (My.top a3) a4)) (@FuncBody.stmts (L2.defBody (L2.inClass (My.top a3) a4))) (L2.defScope (L2.inClass (My.top a3) a4)) 3 (@List.nil (@Prod @Str @Nat)) .none .none .none (p_ "oddbases.ways" 449) none (r_ a12) .none 0)) #[])
abbrev t18 (a0 a1:String) (a2 a3:Nat) (x:Params):Obj:=(@Obj.mk .none none (@Data.func (@FuncData.mk (.ofString a0) (.ofString a1) (L2.defArgs (L2.inClass (My.top a2) a3)) (@FuncBody.stmts (L2.defBody (L2.inClass (My.top a2) a3))) (L2.defScope (L2.inClass (My.top a2) a3)) 0 (@List.nil (@Prod @Str @Nat)) .none .none .none .none none .none .none 0)) #[])
abbrev t19 (a1 a3:Nat) (a4:String) (a5:Nat) (x:Params):Obj:=(@Obj.mk (.type "frame") none @Data.plain (@List.toArray (@Option @Value) [(some (r_ a1)),(some (r_ 3)),(some (r_ a3)),none,(some (p_ a4 a5)),none,(some (r_ 0))]))
abbrev t20 (a1:String) (a2 a4 a6:Nat) (a7:Int) (a17 a20:Nat) (a21:Int) (a26:Nat) (x:Params):Obj:=(@Obj.mk (.type "code") none (@Data.fields (List.toArray [(p_ a1 a2),(p_ a1 a4),(p_ "/claim/cut.py" a6),(j_ a7 0),(j_ 0 0),(j_ 0 0),(j_ 0 0),(j_ 0 0),(r_ a17),(.bool @Bool.false),(j_ 181 0),(r_ a20),.none,.none,.none,.none,(j_ a21 0),(j_ a7 0),(p_ "/claim/cut.py" a26)])) #[])
abbrev t21 (a0:Int) (a4:Nat) (a5:Int) (a9:Nat) (a10:Int) (a14:Nat) (a15:Int) (a19:Nat) (a20:Int) (a24:Nat) (a25:Int) (a29:Nat) (x:Params):Obj:=(@Obj.mk .none none (@Data.fields (List.toArray [(j_ a0 0),(j_ 4 0),(r_ a4),(j_ a5 0),(j_ 4 0),(r_ a9),(j_ a10 0),(j_ 4 0),(r_ a14),(j_ a15 0),(j_ 4 0),(r_ a19),(j_ a20 0),(j_ 4 0),(r_ a24),(j_ a25 0),(j_ 4 0),(r_ a29)])) #[])
abbrev t22 (a3 a8:Nat) (a9:String) (a10 a13:Nat) (a14:Int) (a15:Nat) (a16:String) (a18 a19:Nat) (a20:String) (a22 a23:Nat) (a24:String) (a26 a27:Nat) (a28:String) (a30 a31 a34 a35 a38 a39 a42 a43:Nat) (x:Params):Obj:=(@Obj.mk (.type "dict") none (@Data.dict (List.toArray [(e_ x "__module__" a3 (p_ "oddbases.ways" 449)),(e_ x "__qualname__" a8 (p_ a9 a10)),(e_ x "__firstlineno__" a13 (j_ a14 a15)),(e_ x a16 a18 (r_ a19)),(e_ x a20 a22 (r_ a23)),(e_ x a24 a26 (r_ a27)),(e_ x a28 a30 (r_ a31)),(e_ x "split" a34 (r_ a35)),(e_ x "has" a38 (r_ a39)),(e_ x "__static_attributes__" a42 (r_ a43))]) 10) #[])
abbrev t23 (x:Params):Obj:=(@Obj.mk (.type "builtin_function_or_method") none (@Data.fields (List.toArray [(.builtin "type.__prepare__"),(.type "type")])) #[])
abbrev t24 (a1:Nat) (x:Params):Obj:=(@Obj.mk (.type "tuple") none (@Data.seq (List.toArray [(r_ a1)]) 0) #[])
abbrev t25 (a3 a8:Nat) (a9:Int) (a10 a13 a14:Nat) (a15:String) (a17 a18:Nat) (a19:String) (a21 a22 a25 a26:Nat) (a27:String) (a29 a30 a33 a34 a37:Nat) (x:Params):Obj:=(@Obj.mk (.type "dict") none (@Data.dict (List.toArray [(e_ x "__module__" a3 (p_ "oddbases.ways" 449)),(e_ x "__firstlineno__" a8 (j_ a9 a10)),(e_ x "__init__" a13 (r_ a14)),(e_ x a15 a17 (r_ a18)),(e_ x a19 a21 (r_ a22)),(e_ x "ratio" a25 (r_ a26)),(e_ x a27 a29 (r_ a30)),(e_ x "__static_attributes__" a33 (r_ a34)),(e_ x "__doc__" a37 .none)]) 2) #[])
abbrev t26 (a0:Int) (a4:Nat) (a5:Int) (a9:Nat) (a10:Int) (a14:Nat) (a15:Int) (a19:Nat) (a20:Int) (a24:Nat) (x:Params):Obj:=(@Obj.mk .none none (@Data.fields (List.toArray [(j_ a0 0),(j_ 4 0),(r_ a4),(j_ a5 0),(j_ 4 0),(r_ a9),(j_ a10 0),(j_ 4 0),(r_ a14),(j_ a15 0),(j_ 4 0),(r_ a19),(j_ a20 0),(j_ 4 0),(r_ a24)])) #[])
abbrev t27 (a3 a8:Nat) (a9:String) (a10 a13:Nat) (a14:Int) (a15 a18 a19:Nat) (a20:String) (a22 a23:Nat) (a24:String) (a26 a27 a30 a31:Nat) (a32:String) (a34 a35 a38 a39:Nat) (x:Params):Obj:=(@Obj.mk (.type "dict") none (@Data.dict (List.toArray [(e_ x "__module__" a3 (p_ "oddbases.ways" 449)),(e_ x "__qualname__" a8 (p_ a9 a10)),(e_ x "__firstlineno__" a13 (j_ a14 a15)),(e_ x "__init__" a18 (r_ a19)),(e_ x a20 a22 (r_ a23)),(e_ x a24 a26 (r_ a27)),(e_ x "ratio" a30 (r_ a31)),(e_ x a32 a34 (r_ a35)),(e_ x "__static_attributes__" a38 (r_ a39))]) 9) #[])
abbrev t28 (a3 a8:Nat) (a9:Int) (a10 a13 a14 a17 a18 a21 a22 a25 a26 a29:Nat) (x:Params):Obj:=(@Obj.mk (.type "dict") none (@Data.dict (List.toArray [(e_ x "__module__" a3 (p_ "oddbases.ways" 449)),(e_ x "__firstlineno__" a8 (j_ a9 a10)),(e_ x "__init__" a13 (r_ a14)),(e_ x "high" a17 (r_ a18)),(e_ x "ratio" a21 (r_ a22)),(e_ x "__static_attributes__" a25 (r_ a26)),(e_ x "__doc__" a29 .none)]) 2) #[])
abbrev t29 (a0:Int) (a4:Nat) (a5:Int) (a9:Nat) (a10:Int) (a14:Nat) (x:Params):Obj:=(@Obj.mk .none none (@Data.fields (List.toArray [(j_ a0 0),(j_ 4 0),(r_ a4),(j_ a5 0),(j_ 4 0),(r_ a9),(j_ a10 0),(j_ 4 0),(r_ a14)])) #[])
abbrev t30 (a3 a8:Nat) (a9:String) (a10 a13:Nat) (a14:Int) (a15 a18 a19 a22 a23 a26 a27 a30 a31:Nat) (x:Params):Obj:=(@Obj.mk (.type "dict") none (@Data.dict (List.toArray [(e_ x "__module__" a3 (p_ "oddbases.ways" 449)),(e_ x "__qualname__" a8 (p_ a9 a10)),(e_ x "__firstlineno__" a13 (j_ a14 a15)),(e_ x "__init__" a18 (r_ a19)),(e_ x "high" a22 (r_ a23)),(e_ x "ratio" a26 (r_ a27)),(e_ x "__static_attributes__" a30 (r_ a31))]) 7) #[])
abbrev t31 (a2 a3:Nat) (x:Params):Obj:=(@Obj.mk (.type "getset_descriptor") none (@Data.fields (List.toArray [(p_ "__weakref__" a2),(r_ a3),(.builtin "ExceptionGroup.__weakref__"),.none])) #[])
abbrev t32 (a1:String) (a3 a9 a11 a13 a15:Nat) (x:Params):Obj:=(@Obj.mk (.type "type") none (@Data.cls (@ClassData.mk (.ofString a1) [(r_ 31)] [(r_ a3),(r_ 31),(.type "ValueError"),(.type "Exception"),(.type "BaseException"),(.type "object")] a9 (.ofString a1) @Bool.true [] [] @Bool.false (@Option.none @Bool) @Bool.false)) (@List.toArray (@Option @Value) [(some (r_ a11)),none,(some (p_ a1 a13)),(some (p_ a1 a15)),(some (.builtin "ValueError.__new__")),(some (.bool @Bool.true))]))
abbrev t33 (a3 a8:Nat) (a9:Int) (a10 a13 a14 a17:Nat) (x:Params):Obj:=(@Obj.mk (.type "dict") none (@Data.dict (List.toArray [(e_ x "__module__" a3 (p_ "oddbases.errors" 194)),(e_ x "__firstlineno__" a8 (j_ a9 a10)),(e_ x "__static_attributes__" a13 (r_ a14)),(e_ x "__doc__" a17 .none)]) 2) #[])
abbrev t34 (a3 a8:Nat) (a9:String) (a10 a13:Nat) (a14:Int) (a15 a18 a19:Nat) (x:Params):Obj:=(@Obj.mk (.type "dict") none (@Data.dict (List.toArray [(e_ x "__module__" a3 (p_ "oddbases.errors" 194)),(e_ x "__qualname__" a8 (p_ a9 a10)),(e_ x "__firstlineno__" a13 (j_ a14 a15)),(e_ x "__static_attributes__" a18 (r_ a19))]) 4) #[])
abbrev U17 (x:Params):DictEntry:=(e_ x "NoWay" 229 (r_ 44))
abbrev U16 (x:Params):DictEntry:=(e_ x "_wall" 193 (r_ 21))
abbrev U15 (x:Params):DictEntry:=(e_ x "__doc__" 166 .none)
abbrev U14 (x:Params):DictEntry:=(e_ x "__spec__" 169 .none)
abbrev U13 (x:Params):DictEntry:=(e_ x "Nought" 341 (r_ 128))
abbrev U12 (x:Params):DictEntry:=(e_ x "NoRatio" 293 (r_ 92))
abbrev U11 (x:Params):DictEntry:=(e_ x "TooLess" 277 (r_ 80))
abbrev U10 (x:Params):DictEntry:=(e_ x "NoPairs" 325 (r_ 116))
abbrev U9 (x:Params):DictEntry:=(e_ x "NoNumber" 245 (r_ 56))
abbrev U8 (x:Params):DictEntry:=(e_ x "OddError" 213 (r_ 31))
abbrev U7 (x:Params):DictEntry:=(e_ x "__cached__" 174 .none)
abbrev U6 (x:Params):DictEntry:=(e_ x "NoWriting" 261 (r_ 68))
abbrev U5 (x:Params):DictEntry:=(e_ x "__package__" 167 .none)
abbrev U4 (x:Params):DictEntry:=(e_ x "NoFalling" 309 (r_ 104))
abbrev U3 (x:Params):DictEntry:=(e_ x "__builtins__" 171 (r_ 4))
abbrev U2 (x:Params):DictEntry:=(e_ x "__annotations__" 170 (r_ 6))
abbrev U1 (x:Params):DictEntry:=(e_ x "__file__" 173 (p_ "/claim/cut.py" 172))
abbrev U0 (x:Params):DictEntry:=(e_ x "__loader__" 168 (.builtin "__main__.__loader__#opaque"))
def YG:=t0 "law" 77 "law_oddbases_k35_reckoning_refused" 1150 810
def YH:=t1 "law" 1252 "law" 1253 1254 451 1 805 806 807 808 809 1268 1269
def UY:=t2 "law" 77
def zc:=t3
def YI (x:Params):Obj:=(@Obj.mk (.type "tuple") none (@Data.seq (List.toArray [(p_ "_law_script" 1255),(p_ "_law_kind" 1256),(p_ "_law_by" 1257),(p_ "_law_way_here" 1258),(p_ "_law_row" 1259),(p_ "_law_mixed_here" 1260),(p_ "_law_bad" 1261),(p_ "_law_deed" 1262),(p_ "_law_one" 1263),(p_ "_law_other" 1264),(p_ "_law_handed" 1265),(p_ "_law_many" 1266),(p_ "_law_due" 1267)]) 0) #[])
def zh:=t4
def YJ:=t0 "_law_spoilt" 76 "law_oddbases_k35_reckoning_refused" 1150 803
def YK:=t1 "_law_spoilt" 1238 "_law_spoilt" 1239 1240 442 4 798 799 800 801 802 1249 1250
def UZ:=t2 "_law_spoilt" 76
def YL:=t5 "_law_kind" 1241 "_law_by" 1242 "_law_row" 1243 "_law_mixed_here" 1244 "_law_at" 1245 "_law_low" 1246 "_law_high" 1247 "_law_far" 1248
def YM:=t0 "_law_end" 75 "law_oddbases_k35_reckoning_refused" 1150 796
def YN:=t1 "_law_end" 1226 "_law_end" 1227 1228 433 4 791 792 793 794 795 1235 1236
def U_:=t2 "_law_end" 75
def YO:=t6 "_law_way_here" 1229 "_law_deed" 1230 "_law_one" 1231 "_law_other" 1232 "_law_error" 1233 "_law_e" 1234
def YQ:=t0 "_law_done" 74 "law_oddbases_k35_reckoning_refused" 1150 789
def YR:=t1 "_law_done" 1216 "_law_done" 1217 1218 425 4 784 785 786 787 788 1223 1224
def Ta:=t2 "_law_done" 74
def YS:=t7 "_law_way_here" 1219 "_law_deed" 1220 "_law_one" 1221 "_law_other" 1222
def YT:=t0 "_law_names" 73 "law_oddbases_k35_reckoning_refused" 1150 782
def YU:=t8 "_law_names" 1210 1211 1212 416 1 779 780 781 1213 1214
def Tb:=t2 "_law_names" 73
def YV:=t0 "_law_figures" 72 "law_oddbases_k35_reckoning_refused" 1150 777
def YW:=t1 "_law_figures" 1195 "_law_figures" 1196 1197 400 3 772 773 774 775 776 1207 1208
def Tc:=t2 "_law_figures" 72
def YX (x:Params):Obj:=(@Obj.mk (.type "tuple") none (@Data.seq (List.toArray [(p_ "_law_kind" 1198),(p_ "_law_by" 1199),(p_ "_law_cells" 1200),(p_ "_law_row" 1201),(p_ "_law_place" 1202),(p_ "_law_mixed_here" 1203),(p_ "_law_low" 1204),(p_ "_law_high" 1205),(p_ "_law_some" 1206)]) 0) #[])
def YZ:=t0 "_law_span" 71 "law_oddbases_k35_reckoning_refused" 1150 770
def Y5:=t1 "_law_span" 1186 "_law_span" 1187 1188 390 3 765 766 767 768 769 1192 1193
def Te:=t2 "_law_span" 71
def Y6:=t9 "_law_kind" 1189 "_law_by" 1190 "_law_place" 1191
def Y7:=t0 "_law_way" 70 "law_oddbases_k35_reckoning_refused" 1150 763
def Y8:=t1 "_law_way" 1178 "_law_way" 1179 1180 378 2 758 759 760 761 762 1183 1184
def Tf:=t2 "_law_way" 70
def Y9:=t10 "_law_kind" 1181 "_law_by" 1182
def Y_:=t0 "_law_pick" 69 "law_oddbases_k35_reckoning_refused" 1150 756
def Xa:=t1 "_law_pick" 1167 "_law_pick" 1168 1169 366 1 751 752 753 754 755 1175 1176
def Tg:=t2 "_law_pick" 69
def Xb:=t11 "_law_cell" 1170 "_law_mixed_here" 1171 "_law_kind" 1172 "_law_rest" 1173 "_law_some" 1174
def Xc:=t0 "_law_mixed" 68 "law_oddbases_k35_reckoning_refused" 1150 749
def Xd:=t1 "_law_mixed" 1160 "_law_mixed" 1161 1162 364 1 744 745 746 747 748 1164 1165
def Th:=t2 "_law_mixed" 68
def Xe:=t12 "_law_cell" 1163
def Xf:=t0 "_law_cell_at" 67 "law_oddbases_k35_reckoning_refused" 1150 742
def Xg:=t1 "_law_cell_at" 1152 "_law_cell_at" 1153 1154 360 2 737 738 739 740 741 1157 1158
def Ti:=t2 "_law_cell_at" 67
def Xh:=t10 "_law_script" 1155 "_law_k" 1156
def Xi:=t0 "times" 65 "oddbases.sums" 1055 735
def Xj:=t1 "times" 1141 "times" 1142 1143 354 3 730 731 732 733 734 1147 1148
def Tj:=t2 "times" 65
def Xk:=t9 "way" 1144 "one" 1145 "other" 1146
def Xl:=t0 "minus" 64 "oddbases.sums" 1055 728
def Xm:=t1 "minus" 1131 "minus" 1132 1133 348 3 723 724 725 726 727 1138 1139
def Tk:=t2 "minus" 64
def Xn:=t7 "way" 1134 "one" 1135 "other" 1136 "difference" 1137
def Xo:=t0 "plus" 63 "oddbases.sums" 1055 721
def Xp:=t1 "plus" 1122 "plus" 1123 1124 345 3 716 717 718 719 720 1128 1129
def Tl:=t2 "plus" 63
def Xq:=t9 "way" 1125 "one" 1126 "other" 1127
def Xr:=t0 "times_in_falling" 62 "oddbases.sums" 1055 714
def Xs:=t1 "times_in_falling" 1109 "times_in_falling" 1110 1111 337 3 709 710 711 712 713 1119 1120
def Tm:=t2 "times_in_falling" 62
def Xu:=t13 "way" 1112 "one" 1113 "other" 1114 "product" 1115 "ahead" 1116 "place" 1117 "above" 1118
def Xv:=t0 "times_by_ratio" 61 "oddbases.sums" 1055 707
def Xw:=t1 "times_by_ratio" 1097 "times_by_ratio" 1098 1099 331 3 702 703 704 705 706 1106 1107
def Tn:=t2 "times_by_ratio" 61
def Xx:=t6 "way" 1100 "one" 1101 "other" 1102 "product" 1103 "place" 1104 "above" 1105
def Xy:=t0 "without_debts" 60 "oddbases.sums" 1055 700
def Xz:=t1 "without_debts" 1087 "without_debts" 1088 1089 325 2 695 696 697 698 699 1094 1095
def To:=t2 "without_debts" 60
def XA:=t7 "way" 1090 "row" 1091 "things" 1092 "place" 1093
def XB:=t0 "lend" 59 "oddbases.sums" 1055 693
def XC:=t1 "lend" 1078 "lend" 1079 1080 318 3 688 689 690 691 692 1084 1085
def Tp:=t2 "lend" 59
def XD:=t9 "way" 1081 "row" 1082 "lender" 1083
def XE:=t0 "lender_above" 58 "oddbases.sums" 1055 686
def XF:=t1 "lender_above" 1069 "lender_above" 1070 1071 313 2 681 682 683 684 685 1075 1076
def Tq:=t2 "lender_above" 58
def XG:=t9 "row" 1072 "place" 1073 "lender" 1074
def XH:=t0 "row_times" 57 "oddbases.sums" 1055 679
def XI:=t8 "row_times" 1063 1064 1065 311 2 676 677 678 1066 1067
def Tr:=t2 "row_times" 57
def XJ:=t0 "row_plus" 56 "oddbases.sums" 1055 674
def XM:=t8 "row_plus" 1057 1058 1059 308 2 671 672 673 1060 1061
def Ts:=t2 "row_plus" 56
def XN:=t0 "shared" 54 "oddbases.shares" 1007 669
def XO:=t1 "shared" 1045 "shared" 1046 1047 299 3 664 665 666 667 668 1052 1053
def Tt:=t2 "shared" 54
def XQ:=t7 "way" 1048 "row" 1049 "many" 1050 "parts" 1051
def XR:=t0 "quotients_and_rest" 53 "oddbases.shares" 1007 662
def XS:=t1 "quotients_and_rest" 1036 "quotients_and_rest" 1037 1038 295 3 657 658 659 660 661 1042 1043
def Tu:=t2 "quotients_and_rest" 53
def XT:=t9 "way" 1039 "row" 1040 "many" 1041
def XU:=t0 "quotients_in_falling" 52 "oddbases.shares" 1007 655
def XV:=t1 "quotients_in_falling" 1022 "quotients_in_falling" 1023 1024 282 3 650 651 652 653 654 1033 1034
def Tv:=t2 "quotients_in_falling" 52
def XW:=t5 "way" 1025 "row" 1026 "many" 1027 "quotients" 1028 "rest" 1029 "ahead" 1030 "place" 1031 "total" 1032
def XX:=t0 "quotients_by_ratio" 51 "oddbases.shares" 1007 648
def XY:=t1 "quotients_by_ratio" 1009 "quotients_by_ratio" 1010 1011 273 3 643 644 645 646 647 1019 1020
def Tw:=t2 "quotients_by_ratio" 51
def XZ:=t13 "way" 1012 "row" 1013 "many" 1014 "quotients" 1015 "rest" 1016 "place" 1017 "total" 1018
def X0:=t0 "written_row" 49 "oddbases.writings" 961 641
def X1:=t1 "written_row" 999 "written_row" 1000 1001 268 2 636 637 638 639 640 1004 1005
def Tx:=t2 "written_row" 49
def X2:=t10 "way" 1002 "row" 1003
def X3:=t0 "held_to_be_writings" 48 "oddbases.writings" 961 634
def X4:=t1 "held_to_be_writings" 990 "held_to_be_writings" 991 992 264 2 629 630 631 632 633 996 997
def Ty:=t2 "held_to_be_writings" 48
def X5:=t9 "way" 993 "rows" 994 "row" 995
def X6:=t0 "is_writing" 47 "oddbases.writings" 961 627
def X7:=t1 "is_writing" 982 "is_writing" 983 984 258 2 622 623 624 625 626 987 988
def Tz:=t2 "is_writing" 47
def X8:=t10 "way" 985 "row" 986
def X9:=t0 "has_mosts_above_noughts_alone" 46 "oddbases.writings" 961 620
def X_:=t1 "has_mosts_above_noughts_alone" 973 "has_mosts_above_noughts_alone" 974 975 253 2 615 616 617 618 619 979 980
def TC:=t2 "has_mosts_above_noughts_alone" 46
def Wa:=t9 "way" 976 "row" 977 "place" 978
def Wb:=t0 "has_figures_alone" 45 "oddbases.writings" 961 613
def Wc:=t1 "has_figures_alone" 963 "has_figures_alone" 964 965 248 2 608 609 610 611 612 970 971
def TD:=t2 "has_figures_alone" 45
def Wd:=t7 "way" 966 "row" 967 "place" 968 "thing" 969
def We:=t0 "settled" 43 "oddbases.settling" 938 606
def Wf:=t1 "settled" 953 "settled" 954 955 245 2 601 602 603 604 605 958 959
def TF:=t2 "settled" 43
def Wg:=t10 "way" 956 "totals" 957
def Wh:=t0 "figures_and_carries" 42 "oddbases.settling" 938 599
def Wi:=t1 "figures_and_carries" 940 "figures_and_carries" 941 942 230 2 594 595 596 597 598 950 951
def TH:=t2 "figures_and_carries" 42
def Wj:=t13 "way" 943 "totals" 944 "figures" 945 "carry" 946 "found" 947 "place" 948 "parts" 949
def Wk:=t0 "fallen" 40 "oddbases.falls" 864 592
def Wl:=t1 "fallen" 930 "fallen" 931 932 227 2 587 588 589 590 591 935 936
def TJ:=t2 "fallen" 40
def Wm:=t10 "way" 933 "heap" 934
def Wn:=t0 "steps_and_writing" 39 "oddbases.falls" 864 585
def Wo:=t1 "steps_and_writing" 917 "steps_and_writing" 918 919 212 2 580 581 582 583 584 927 928
def TK:=t2 "steps_and_writing" 39
def Wp:=t13 "way" 920 "heap" 921 "done" 922 "left" 923 "place" 924 "step" 925 "many" 926
def Wq:=t0 "how_often" 38 "oddbases.falls" 864 578
def Wr:=t1 "how_often" 907 "how_often" 908 909 207 3 573 574 575 576 577 914 915
def TL:=t2 "how_often" 38
def Ws:=t7 "way" 910 "heap" 911 "step" 912 "place" 913
def Wt:=t0 "step_at" 37 "oddbases.falls" 864 571
def Wu:=t1 "step_at" 898 "step_at" 899 900 201 3 566 567 568 569 570 904 905
def TM:=t2 "step_at" 37
def Wv:=t9 "way" 901 "heap" 902 "place" 903
def Ww:=t0 "do_steps" 36 "oddbases.falls" 864 564
def Wx:=t1 "do_steps" 886 "do_steps" 887 888 196 4 559 560 561 562 563 895 896
def TN:=t2 "do_steps" 36
def Wy:=t6 "way" 889 "heap" 890 "step" 891 "many" 892 "place" 893 "things" 894
def Wz:=t0 "changes" 35 "oddbases.falls" 864 557
def WA:=t1 "changes" 875 "changes" 876 877 184 2 552 553 554 555 556 883 884
def TQ:=t2 "changes" 35
def WB:=t11 "way" 878 "step" 879 "kind" 880 "place" 881 "parted" 882
def WC:=t0 "held_to_be_a_heap" 34 "oddbases.falls" 864 550
def WD:=t1 "held_to_be_a_heap" 866 "held_to_be_a_heap" 867 868 178 2 545 546 547 548 549 872 873
def TR:=t2 "held_to_be_a_heap" 34
def WE:=t9 "way" 869 "heap" 870 "things" 871
def WF:=t0 "trimmed" 32 "oddbases.rows" 846 543
def WG:=t1 "trimmed" 856 "trimmed" 857 858 172 1 538 539 540 541 542 861 862
def TU:=t2 "trimmed" 32
def WH:=t10 "row" 859 "things" 860
def WI:=t0 "thing_at" 31 "oddbases.rows" 846 536
def WJ:=t1 "thing_at" 848 "thing_at" 849 850 168 2 531 532 533 534 535 853 854
def TV:=t2 "thing_at" 31
def WK:=t10 "row" 851 "place" 852
def WL:=t14 528
def WM:=t15 528
def dS:=t16 "Pairs" 528 527 477 777 785
def dU (x:Params):Obj:=(@Obj.mk (.type "dict") none (@Data.dict (List.toArray [(e_ x "__module__" 784 (p_ "oddbases.ways" 449)),(e_ x "__firstlineno__" 788 (j_ 144 787)),(e_ x "__init__" 796 (r_ 490)),(e_ x "nought" 803 (r_ 497)),(e_ x "high" 811 (r_ 504)),(e_ x "ratio" 819 (r_ 511)),(e_ x "split" 832 (r_ 518)),(e_ x "has" 840 (r_ 525)),(e_ x "__static_attributes__" 842 (r_ 526)),(e_ x "__doc__" 843 .none)]) 2) #[])
def dW:=t12 "most" 841
def dX:=t17 "has" "Pairs.has" 29 5 524
def dY:=t1 "has" 833 "Pairs.has" 834 835 165 2 519 520 521 522 523 838 839
def WN:=t18 "has" "Pairs.has" 29 5
def dZ:=t10 "self" 836 "number" 837
def d5:=t17 "split" "Pairs.split" 29 4 517
def d6:=t1 "split" 820 "Pairs.split" 821 822 158 3 512 513 514 515 516 830 831
def WO:=t18 "split" "Pairs.split" 29 4
def d7:=t13 "self" 823 "total" 824 "place" 825 "pair" 826 "figures" 827 "figure" 828 "turned" 829
def d8:=t17 "ratio" "Pairs.ratio" 29 3 510
def d9:=t1 "ratio" 812 "Pairs.ratio" 813 814 155 2 505 506 507 508 509 817 818
def WP:=t18 "ratio" "Pairs.ratio" 29 3
def cb:=t10 "self" 815 "place" 816
def cc:=t17 "high" "Pairs.high" 29 2 503
def ce:=t1 "high" 804 "Pairs.high" 805 806 152 2 498 499 500 501 502 809 810
def WQ:=t18 "high" "Pairs.high" 29 2
def cf:=t10 "self" 807 "place" 808
def cg:=t17 "nought" "Pairs.nought" 29 1 496
def ci:=t1 "nought" 797 "Pairs.nought" 798 799 149 1 491 492 493 494 495 801 802
def WR:=t18 "nought" "Pairs.nought" 29 1
def cj:=t12 "self" 800
def ck:=t17 "__init__" "Pairs.__init__" 29 0 489
def cm:=t1 "__init__" 789 "Pairs.__init__" 790 791 146 2 484 485 486 487 488 794 795
def WS:=t18 "__init__" "Pairs.__init__" 29 0
def cn:=t10 "self" 792 "most" 793
def WT:=t19 482 479 "oddbases.ways" 449
def WU:=t20 "Pairs" 779 780 781 144 480 481 782 783
def WV:=t21 146 489 149 496 152 503 155 510 158 517 165 524
def WW:=t22 784 786 "Pairs" 785 788 144 787 "__init__" 796 490 "nought" 803 497 "high" 811 504 "ratio" 819 511 832 518 840 525 842 526
def zA:=t23
def y2:=t24 272
def WX:=t14 474
def WY:=t15 474
def cq:=t16 "Falling" 474 473 430 719 727
def cr:=t25 726 730 128 729 738 443 "high" 746 450 "weights" 754 457 762 464 "split" 771 471 773 472 774
def cu:=t12 "most" 772
def cv:=t17 "split" "Falling.split" 28 4 470
def cw:=t1 "split" 763 "Falling.split" 764 765 142 3 465 466 467 468 469 769 770
def WZ:=t18 "split" "Falling.split" 28 4
def cx:=t9 "self" 766 "total" 767 "place" 768
def cy:=t17 "ratio" "Falling.ratio" 28 3 463
def cz:=t1 "ratio" 755 "Falling.ratio" 756 757 139 2 458 459 460 461 462 760 761
def W5:=t18 "ratio" "Falling.ratio" 28 3
def cA:=t10 "self" 758 "place" 759
def cB:=t17 "weights" "Falling.weights" 28 2 456
def cC:=t1 "weights" 747 "Falling.weights" 748 749 136 2 451 452 453 454 455 752 753
def W6:=t18 "weights" "Falling.weights" 28 2
def cD:=t10 "self" 750 "many" 751
def cE:=t17 "high" "Falling.high" 28 1 449
def cF:=t1 "high" 739 "Falling.high" 740 741 133 2 444 445 446 447 448 744 745
def W7:=t18 "high" "Falling.high" 28 1
def cG:=t10 "self" 742 "place" 743
def cH:=t17 "__init__" "Falling.__init__" 28 0 442
def cI:=t1 "__init__" 731 "Falling.__init__" 732 733 130 2 437 438 439 440 441 736 737
def W8:=t18 "__init__" "Falling.__init__" 28 0
def cJ:=t10 "self" 734 "most" 735
def W9:=t19 435 432 "oddbases.ways" 449
def W_:=t20 "Falling" 721 722 723 128 433 434 724 725
def Va:=t26 130 442 133 449 136 456 139 463 142 470
def Vb:=t27 726 728 "Falling" 727 730 128 729 738 443 "high" 746 450 "weights" 754 457 762 464 "split" 771 471 773 472
def Vc:=t14 427
def Vd:=t15 427
def cK:=t16 "Growing" 427 426 397 678 686
def cL:=t28 685 689 118 688 697 410 705 417 713 424 715 425 716
def cM:=t12 "first" 714
def cN:=t17 "ratio" "Growing.ratio" 27 2 423
def cO:=t1 "ratio" 706 "Growing.ratio" 707 708 126 2 418 419 420 421 422 711 712
def Ve:=t18 "ratio" "Growing.ratio" 27 2
def cP:=t10 "self" 709 "place" 710
def cQ:=t17 "high" "Growing.high" 27 1 416
def cR:=t1 "high" 698 "Growing.high" 699 700 123 2 411 412 413 414 415 703 704
def Vf:=t18 "high" "Growing.high" 27 1
def cS:=t10 "self" 701 "place" 702
def cT:=t17 "__init__" "Growing.__init__" 27 0 409
def cU:=t1 "__init__" 690 "Growing.__init__" 691 692 120 2 404 405 406 407 408 695 696
def Vg:=t18 "__init__" "Growing.__init__" 27 0
def cV:=t10 "self" 693 "first" 694
def Vh:=t19 402 399 "oddbases.ways" 449
def Vi:=t20 "Growing" 680 681 682 118 400 401 683 684
def Vj:=t29 120 409 123 416 126 423
def Vk:=t30 685 687 "Growing" 686 689 118 688 697 410 705 417 713 424 715 425
def Vl:=t14 394
def Vm:=t15 394
def cW:=t16 "Balanced" 394 393 350 621 629
def cX:=t25 628 632 102 631 640 363 "low" 648 370 "high" 656 377 664 384 "has" 672 391 674 392 675
def cY:=t12 "half" 673
def cZ:=t17 "has" "Balanced.has" 26 4 390
def c5:=t1 "has" 665 "Balanced.has" 666 667 116 2 385 386 387 388 389 670 671
def Vn:=t18 "has" "Balanced.has" 26 4
def c6:=t10 "self" 668 "number" 669
def c7:=t17 "ratio" "Balanced.ratio" 26 3 383
def c8:=t1 "ratio" 657 "Balanced.ratio" 658 659 113 2 378 379 380 381 382 662 663
def Vo:=t18 "ratio" "Balanced.ratio" 26 3
def c9:=t10 "self" 660 "place" 661
def c_:=t17 "high" "Balanced.high" 26 2 376
def ba:=t1 "high" 649 "Balanced.high" 650 651 110 2 371 372 373 374 375 654 655
def Vp:=t18 "high" "Balanced.high" 26 2
def bb:=t10 "self" 652 "place" 653
def bc:=t17 "low" "Balanced.low" 26 1 369
def bf:=t1 "low" 641 "Balanced.low" 642 643 107 2 364 365 366 367 368 646 647
def Vq:=t18 "low" "Balanced.low" 26 1
def bg:=t10 "self" 644 "place" 645
def bh:=t17 "__init__" "Balanced.__init__" 26 0 362
def bj:=t1 "__init__" 633 "Balanced.__init__" 634 635 104 2 357 358 359 360 361 638 639
def Vr:=t18 "__init__" "Balanced.__init__" 26 0
def bn:=t10 "self" 636 "half" 637
def Vs:=t19 355 352 "oddbases.ways" 449
def Vu:=t20 "Balanced" 623 624 625 102 353 354 626 627
def Vv:=t26 104 362 107 369 110 376 113 383 116 390
def Vx:=t27 628 630 "Balanced" 629 632 102 631 640 363 "low" 648 370 "high" 656 377 664 384 "has" 672 391 674 392
def Vy:=t14 347
def Vz:=t15 347
def bo:=t16 "Below" 347 346 310 572 580
def bp (x:Params):Obj:=(@Obj.mk (.type "dict") none (@Data.dict (List.toArray [(e_ x "__module__" 579 (p_ "oddbases.ways" 449)),(e_ x "__firstlineno__" 583 (j_ 89 582)),(e_ x "__init__" 591 (r_ 323)),(e_ x "high" 599 (r_ 330)),(e_ x "ratio" 607 (r_ 337)),(e_ x "has" 615 (r_ 344)),(e_ x "__static_attributes__" 617 (r_ 345)),(e_ x "__doc__" 618 .none)]) 2) #[])
def bq:=t12 "base" 616
def br:=t17 "has" "Below.has" 25 3 343
def bu:=t1 "has" 608 "Below.has" 609 610 100 2 338 339 340 341 342 613 614
def VA:=t18 "has" "Below.has" 25 3
def bv:=t10 "self" 611 "number" 612
def bw:=t17 "ratio" "Below.ratio" 25 2 336
def bx:=t1 "ratio" 600 "Below.ratio" 601 602 97 2 331 332 333 334 335 605 606
def VB:=t18 "ratio" "Below.ratio" 25 2
def bz:=t10 "self" 603 "place" 604
def bA:=t17 "high" "Below.high" 25 1 329
def bB:=t1 "high" 592 "Below.high" 593 594 94 2 324 325 326 327 328 597 598
def VC:=t18 "high" "Below.high" 25 1
def bC:=t10 "self" 595 "place" 596
def bD:=t17 "__init__" "Below.__init__" 25 0 322
def bE:=t1 "__init__" 584 "Below.__init__" 585 586 91 2 317 318 319 320 321 589 590
def VD:=t18 "__init__" "Below.__init__" 25 0
def bF:=t10 "self" 587 "base" 588
def VE:=t19 315 312 "oddbases.ways" 449
def VF:=t20 "Below" 574 575 576 89 313 314 577 578
def VG (x:Params):Obj:=(@Obj.mk .none none (@Data.fields (List.toArray [(j_ 91 0),(j_ 4 0),(r_ 322),(j_ 94 0),(j_ 4 0),(r_ 329),(j_ 97 0),(j_ 4 0),(r_ 336),(j_ 100 0),(j_ 4 0),(r_ 343)])) #[])
def VH (x:Params):Obj:=(@Obj.mk (.type "dict") none (@Data.dict (List.toArray [(e_ x "__module__" 579 (p_ "oddbases.ways" 449)),(e_ x "__qualname__" 581 (p_ "Below" 580)),(e_ x "__firstlineno__" 583 (j_ 89 582)),(e_ x "__init__" 591 (r_ 323)),(e_ x "high" 599 (r_ 330)),(e_ x "ratio" 607 (r_ 337)),(e_ x "has" 615 (r_ 344)),(e_ x "__static_attributes__" 617 (r_ 345))]) 8) #[])
def bG:=t14 307
def bH:=t15 307
def jO:=t16 "Plain" 307 306 277 531 539
def jP:=t28 538 542 79 541 550 290 558 297 566 304 568 305 569
def jQ:=t12 "base" 567
def jR:=t17 "ratio" "Plain.ratio" 24 2 303
def jS:=t1 "ratio" 559 "Plain.ratio" 560 561 87 2 298 299 300 301 302 564 565
def bI:=t18 "ratio" "Plain.ratio" 24 2
def jT:=t10 "self" 562 "place" 563
def jU:=t17 "high" "Plain.high" 24 1 296
def jV:=t1 "high" 551 "Plain.high" 552 553 84 2 291 292 293 294 295 556 557
def bJ:=t18 "high" "Plain.high" 24 1
def jW:=t10 "self" 554 "place" 555
def jX:=t17 "__init__" "Plain.__init__" 24 0 289
def jY:=t1 "__init__" 543 "Plain.__init__" 544 545 81 2 284 285 286 287 288 548 549
def bK:=t18 "__init__" "Plain.__init__" 24 0
def jZ:=t10 "self" 546 "base" 547
def bL:=t19 282 279 "oddbases.ways" 449
def bM:=t20 "Plain" 533 534 535 79 280 281 536 537
def bN:=t29 81 289 84 296 87 303
def bO:=t30 538 540 "Plain" 539 542 79 541 550 290 558 297 566 304 568 305
def bP:=t14 272
def bQ:=t15 272
def j0:=t31 526 272
def j4 (x:Params):Obj:=(@Obj.mk (.type "getset_descriptor") none (@Data.fields (List.toArray [(p_ "__dict__" 524),(r_ 272),(.builtin "function.__dict__"),(.builtin "function.__dict__#set")])) #[])
def cp (x:Params):Obj:=(@Obj.mk (.type "type") none (@Data.cls (@ClassData.mk (.ofString "Way") [(.type "object")] [(r_ 272),(.type "object")] 271 (.ofString "Way") @Bool.true [] [(r_ 307),(r_ 347),(r_ 394),(r_ 427),(r_ 474),(r_ 528)] @Bool.false (@Option.none @Bool) @Bool.false)) (@List.toArray (@Option @Value) [none,none,(some (p_ "Way" 460)),(some (p_ "Way" 468)),(some (.builtin "object.__new__")),(some (.bool @Bool.true))]))
def j5 (x:Params):Obj:=(@Obj.mk (.type "dict") none (@Data.dict (List.toArray [(e_ x "__module__" 467 (p_ "oddbases.ways" 449)),(e_ x "__firstlineno__" 471 (j_ 57 470)),(e_ x "nought" 478 (r_ 234)),(e_ x "low" 486 (r_ 241)),(e_ x "weights" 494 (r_ 248)),(e_ x "weight" 502 (r_ 255)),(e_ x "split" 514 (r_ 262)),(e_ x "has" 522 (r_ 269)),(e_ x "__static_attributes__" 523 (r_ 270)),(e_ x "__dict__" 525 (r_ 273)),(e_ x "__weakref__" 527 (r_ 274)),(e_ x "__doc__" 528 .none)]) 4) #[])
def j6:=t17 "has" "Way.has" 23 5 268
def j7:=t1 "has" 515 "Way.has" 516 517 77 2 263 264 265 266 267 520 521
def bR:=t18 "has" "Way.has" 23 5
def j8:=t10 "self" 518 "number" 519
def j9:=t17 "split" "Way.split" 23 4 261
def ig:=t1 "split" 503 "Way.split" 504 505 71 3 256 257 258 259 260 512 513
def bS:=t18 "split" "Way.split" 23 4
def ii:=t6 "self" 506 "total" 507 "place" 508 "low" 509 "figures" 510 "figure" 511
def ij:=t17 "weight" "Way.weight" 23 3 254
def ik:=t1 "weight" 495 "Way.weight" 496 497 68 2 249 250 251 252 253 500 501
def bT:=t18 "weight" "Way.weight" 23 3
def io:=t10 "self" 498 "place" 499
def ip:=t17 "weights" "Way.weights" 23 2 247
def iq:=t1 "weights" 487 "Way.weights" 488 489 65 2 242 243 244 245 246 492 493
def bU:=t18 "weights" "Way.weights" 23 2
def ir:=t10 "self" 490 "many" 491
def iw:=t17 "low" "Way.low" 23 1 240
def iy:=t1 "low" 479 "Way.low" 480 481 62 2 235 236 237 238 239 484 485
def bV:=t18 "low" "Way.low" 23 1
def iz:=t10 "self" 482 "place" 483
def iA:=t17 "nought" "Way.nought" 23 0 233
def iB:=t1 "nought" 472 "Way.nought" 473 474 59 1 228 229 230 231 232 476 477
def bW:=t18 "nought" "Way.nought" 23 0
def iC:=t12 "self" 475
def bX:=t19 226 223 "oddbases.ways" 449
def bY:=t20 "Way" 462 463 464 57 224 225 465 466
def bZ:=t21 59 233 62 240 65 247 68 254 71 261 77 268
def b_:=t22 467 469 "Way" 468 471 57 470 "nought" 478 234 "low" 486 241 "weights" 494 248 "weight" 502 255 514 262 522 269 523 270
def iD:=t0 "bounded" 22 "oddbases.ways" 449 219
def iE:=t1 "bounded" 451 "bounded" 452 453 53 3 214 215 216 217 218 457 458
def aa:=t2 "bounded" 22
def iF:=t9 "number" 454 "least" 455 "most" 456
def iG:=t0 "multiplied" 20 "oddbases.pairs" 406 212
def iH:=t1 "multiplied" 439 "multiplied" 440 441 46 2 207 208 209 210 211 446 447
def ac:=t2 "multiplied" 20
def iI:=t7 "one" 442 "other" 443 "left" 444 "right" 445
def iJ:=t0 "added" 19 "oddbases.pairs" 406 205
def iK:=t1 "added" 429 "added" 430 431 40 2 200 201 202 203 204 436 437
def ad:=t2 "added" 19
def iL:=t7 "one" 432 "other" 433 "left" 434 "right" 435
def iM:=t0 "as_pair" 18 "oddbases.pairs" 406 198
def iN:=t1 "as_pair" 422 "as_pair" 423 424 36 1 193 194 195 196 197 426 427
def ae:=t2 "as_pair" 18
def iO:=t12 "number" 425
def iP:=t0 "is_pair" 17 "oddbases.pairs" 406 191
def iQ:=t1 "is_pair" 415 "is_pair" 416 417 34 1 186 187 188 189 190 419 420
def af:=t2 "is_pair" 17
def iR:=t12 "value" 418
def iS:=t0 "is_whole" 16 "oddbases.pairs" 406 184
def iT:=t1 "is_whole" 408 "is_whole" 409 410 32 1 179 180 181 182 183 412 413
def ag:=t2 "is_whole" 16
def iU:=t12 "value" 411
def ah:=t14 176
def ai:=t15 176
def iV:=t32 "NoRow" 176 175 167 390 398
def iW:=t33 397 401 29 400 402 174 403
def aj:=t19 172 169 "oddbases.errors" 194
def ak:=t20 "NoRow" 392 393 394 29 170 171 395 396
def al:=t34 397 399 "NoRow" 398 401 29 400 402 174
def zG:=t24 31
def ao:=t14 164
def ap:=t15 164
def iY:=t32 "NoText" 164 163 155 374 382
def iZ:=t33 381 385 27 384 386 162 387
def aq:=t19 160 157 "oddbases.errors" 194
def au:=t20 "NoText" 376 377 378 27 158 159 379 380
def av:=t34 381 383 "NoText" 382 385 27 384 386 162
def aw:=t14 152
def ax:=t15 152
def i5:=t32 "NoTotal" 152 151 143 358 366
def i6:=t33 365 369 25 368 370 150 371
def ay:=t19 148 145 "oddbases.errors" 194
def az:=t20 "NoTotal" 360 361 362 25 146 147 363 364
def aA:=t34 365 367 "NoTotal" 366 369 25 368 370 150
def aB:=t14 140
def aC:=t15 140
def i7:=t32 "NoSpan" 140 139 131 342 350
def i8:=t33 349 353 23 352 354 138 355
def aD:=t19 136 133 "oddbases.errors" 194
def aE:=t20 "NoSpan" 344 345 346 23 134 135 347 348
def aF:=t34 349 351 "NoSpan" 350 353 23 352 354 138
def i9:=t14 128
def i_:=t15 128
def kd:=t32 "Nought" 128 127 119 326 334
def kf:=t33 333 337 21 336 338 126 339
def hG:=t19 124 121 "oddbases.errors" 194
def hU:=t20 "Nought" 328 329 330 21 122 123 331 332
def hV:=t34 333 335 "Nought" 334 337 21 336 338 126
def hW:=t14 116
def hZ:=t15 116
def kg:=t32 "NoPairs" 116 115 107 310 318
def kh:=t33 317 321 19 320 322 114 323
def h8:=t19 112 109 "oddbases.errors" 194
def h9:=t20 "NoPairs" 312 313 314 19 110 111 315 316
def h_:=t34 317 319 "NoPairs" 318 321 19 320 322 114
def gb:=t14 104
def gc:=t15 104
def ki:=t32 "NoFalling" 104 103 95 294 302
def kj:=t33 301 305 17 304 306 102 307
def gd:=t19 100 97 "oddbases.errors" 194
def ge:=t20 "NoFalling" 296 297 298 17 98 99 299 300
def gf:=t34 301 303 "NoFalling" 302 305 17 304 306 102
def gg:=t14 92
def gh:=t15 92
def kl:=t32 "NoRatio" 92 91 83 278 286
def km:=t33 285 289 15 288 290 90 291
def gi:=t19 88 85 "oddbases.errors" 194
def gj:=t20 "NoRatio" 280 281 282 15 86 87 283 284
def gk:=t34 285 287 "NoRatio" 286 289 15 288 290 90
def gm:=t14 80
def gp:=t15 80
def kn:=t32 "TooLess" 80 79 71 262 270
def ko:=t33 269 273 13 272 274 78 275
def gq:=t19 76 73 "oddbases.errors" 194
def gu:=t20 "TooLess" 264 265 266 13 74 75 267 268
def gv:=t34 269 271 "TooLess" 270 273 13 272 274 78
def gw:=t14 68
def gx:=t15 68
def kq:=t32 "NoWriting" 68 67 59 246 254
def kr:=t33 253 257 11 256 258 66 259
def gz:=t19 64 61 "oddbases.errors" 194
def gA:=t20 "NoWriting" 248 249 250 11 62 63 251 252
def gB:=t34 253 255 "NoWriting" 254 257 11 256 258 66
def gC:=t14 56
def o99:=t15 56
def o98:=t32 "NoNumber" 56 55 47 230 238
def o97:=t33 237 241 9 240 242 54 243
def o95:=t19 52 49 "oddbases.errors" 194
def o94:=t20 "NoNumber" 232 233 234 9 50 51 235 236
def o91:=t34 237 239 "NoNumber" 238 241 9 240 242 54
def o85:=t14 44
def o84:=t15 44
def o83:=t32 "NoWay" 44 43 35 214 222
def o82:=t33 221 225 7 224 226 42 227
def o80:=t19 40 37 "oddbases.errors" 194
def o79:=t20 "NoWay" 216 217 218 7 38 39 219 220
def o76:=t34 221 223 "NoWay" 222 225 7 224 226 42
def o70:=t14 31
def o69:=t15 31
def o68:=t31 209 31
def iX (x:Params):Obj:=(@Obj.mk (.type "type") none (@Data.cls (@ClassData.mk (.ofString "OddError") [(.type "ValueError")] [(r_ 31),(.type "ValueError"),(.type "Exception"),(.type "BaseException"),(.type "object")] 30 (.ofString "OddError") @Bool.true [] [(r_ 44),(r_ 56),(r_ 68),(r_ 80),(r_ 92),(r_ 104),(r_ 116),(r_ 128),(r_ 140),(r_ 152),(r_ 164),(r_ 176)] @Bool.false (@Option.none @Bool) @Bool.false)) (@List.toArray (@Option @Value) [(some (r_ 22)),none,(some (p_ "OddError" 196)),(some (p_ "OddError" 204)),(some (.builtin "ValueError.__new__")),(some (.bool @Bool.true))]))
def o66 (x:Params):Obj:=(@Obj.mk (.type "dict") none (@Data.dict (List.toArray [(e_ x "__module__" 203 (p_ "oddbases.errors" 194)),(e_ x "__firstlineno__" 207 (j_ 5 206)),(e_ x "__static_attributes__" 208 (r_ 29)),(e_ x "__weakref__" 210 (r_ 32)),(e_ x "__doc__" 211 .none)]) 3) #[])
def o64:=t19 27 24 "oddbases.errors" 194
def o63:=t20 "OddError" 198 199 200 5 25 26 201 202
def o60:=t34 203 205 "OddError" 204 207 5 206 208 29
def o58 (x:Params):Obj:=(@Obj.mk (.type "tuple") none (@Data.seq (List.toArray [(.type "ValueError")]) 0) #[])
def o57:=t0 "_wall" 0 "__main__" 164 20
def o56:=t1 "_wall" 187 "_wall" 188 189 1 1 15 16 17 18 19 191 192
def o55:=t2 "_wall" 0
def o53:=t12 "k" 190
def o46:=t19 13 3 "__main__" 164
def o45:=t20 "<module>" 182 183 184 1 11 12 185 186
def Td (x:Params):Obj:=(@Obj.mk .none none (@Data.fields (List.toArray ((j_ 1 0)::(j_ 0 0)::(r_ 20)::(j_ 5 0)::(j_ 0 0)::(r_ 27)::(j_ 7 0)::(j_ 0 0)::(r_ 40)::(j_ 9 0)::(j_ 0 0)::(r_ 52)::(j_ 11 0)::(j_ 0 0)::(r_ 64)::(j_ 13 0)::(j_ 0 0)::(r_ 76)::(j_ 15 0)::(j_ 0 0)::(r_ 88)::(j_ 17 0)::(j_ 0 0)::(r_ 100)::(j_ 19 0)::(j_ 0 0)::(r_ 112)::(j_ 21 0)::(j_ 0 0)::(r_ 124)::(j_ 23 0)::(j_ 0 0)::(r_ 136)::(j_ 25 0)::(j_ 0 0)::(r_ 148)::(j_ 27 0)::(j_ 0 0)::(r_ 160)::(j_ 29 0)::(j_ 0 0)::(r_ 172)::(j_ 32 0)::(j_ 0 0)::(r_ 184)::(j_ 34 0)::(j_ 0 0)::(r_ 191)::(j_ 36 0)::(j_ 0 0)::(r_ 198)::(j_ 40 0)::(j_ 0 0)::(r_ 205)::(j_ 46 0)::(j_ 0 0)::(r_ 212)::(j_ 53 0)::(j_ 0 0)::(r_ 219)::(j_ 57 0)::(j_ 0 0)::(r_ 226)::(j_ 79 0)::(j_ 0 0)::(r_ 282)::(j_ 89 0)::(j_ 0 0)::(r_ 315)::(j_ 102 0)::(j_ 0 0)::(r_ 355)::(j_ 118 0)::(j_ 0 0)::(r_ 402)::(j_ 128 0)::(j_ 0 0)::(r_ 435)::(j_ 144 0)::(j_ 0 0)::(r_ 482)::(j_ 168 0)::(j_ 0 0)::(r_ 536)::(j_ 172 0)::(j_ 0 0)::(r_ 543)::(j_ 178 0)::(j_ 0 0)::(r_ 550)::(j_ 184 0)::(j_ 0 0)::(r_ 557)::(j_ 196 0)::(j_ 0 0)::(r_ 564)::(j_ 201 0)::(j_ 0 0)::(r_ 571)::(j_ 207 0)::(j_ 0 0)::(r_ 578)::(j_ 212 0)::(j_ 0 0)::(r_ 585)::(j_ 227 0)::(j_ 0 0)::(r_ 592)::(j_ 230 0)::(j_ 0 0)::(r_ 599)::(j_ 245 0)::(j_ 0 0)::(r_ 606)::(j_ 248 0)::(j_ 0 0)::(r_ 613)::(j_ 253 0)::(j_ 0 0)::(r_ 620)::(j_ 258 0)::(j_ 0 0)::(r_ 627)::(j_ 264 0)::(j_ 0 0)::(r_ 634)::(j_ 268 0)::(j_ 0 0)::(r_ 641)::(j_ 273 0)::(j_ 0 0)::(r_ 648)::(j_ 282 0)::(j_ 0 0)::(r_ 655)::(j_ 295 0)::(j_ 0 0)::(r_ 662)::(j_ 299 0)::(j_ 0 0)::(r_ 669)::(j_ 308 0)::(j_ 0 0)::(r_ 674)::(j_ 311 0)::(j_ 0 0)::(r_ 679)::(j_ 313 0)::(j_ 0 0)::(r_ 686)::(j_ 318 0)::(j_ 0 0)::(r_ 693)::(j_ 325 0)::(j_ 0 0)::(r_ 700)::(j_ 331 0)::(j_ 0 0)::(r_ 707)::(j_ 337 0)::(j_ 0 0)::(r_ 714)::(j_ 345 0)::(j_ 0 0)::(r_ 721)::(j_ 348 0)::(j_ 0 0)::(r_ 728)::(j_ 354 0)::(j_ 0 0)::(r_ 735)::(j_ 360 0)::(j_ 0 0)::(r_ 742)::(j_ 364 0)::(j_ 0 0)::(r_ 749)::(j_ 366 0)::(j_ 0 0)::(r_ 756)::(j_ 378 0)::(j_ 0 0)::(r_ 763)::(j_ 390 0)::(j_ 0 0)::(r_ 770)::(j_ 400 0)::(j_ 0 0)::(r_ 777)::(j_ 416 0)::(j_ 0 0)::(r_ 782)::(j_ 425 0)::(j_ 0 0)::(r_ 789)::(j_ 433 0)::(j_ 0 0)::(r_ 796)::(j_ 442 0)::(j_ 0 0)::(r_ 803)::(j_ 451 0)::(j_ 0 0)::(r_ 810)::[]))) #[])
def YY (x:Params):Obj:=(@Obj.mk (.type "dict") none (@Data.dict (List.toArray ((e_ x "__name__" 165 (p_ "law_oddbases_k35_reckoning_refused" 1150))::(U15 x)::(U5 x)::(U0 x)::(U14 x)::(U2 x)::(U3 x)::(U1 x)::(U7 x)::(U16 x)::(U8 x)::(U17 x)::(U9 x)::(U6 x)::(U11 x)::(U12 x)::(U4 x)::(U10 x)::(U13 x)::(e_ x "NoSpan" 357 (r_ 140))::(e_ x "NoTotal" 373 (r_ 152))::(e_ x "NoText" 389 (r_ 164))::(e_ x "NoRow" 405 (r_ 176))::(e_ x "is_whole" 414 (r_ 185))::(e_ x "is_pair" 421 (r_ 192))::(e_ x "as_pair" 428 (r_ 199))::(e_ x "added" 438 (r_ 206))::(e_ x "multiplied" 448 (r_ 213))::(e_ x "bounded" 459 (r_ 220))::(e_ x "Way" 530 (r_ 272))::(e_ x "Plain" 571 (r_ 307))::(e_ x "Below" 620 (r_ 347))::(e_ x "Balanced" 677 (r_ 394))::(e_ x "Growing" 718 (r_ 427))::(e_ x "Falling" 776 (r_ 474))::(e_ x "Pairs" 845 (r_ 528))::(e_ x "thing_at" 855 (r_ 537))::(e_ x "trimmed" 863 (r_ 544))::(e_ x "held_to_be_a_heap" 874 (r_ 551))::(e_ x "changes" 885 (r_ 558))::(e_ x "do_steps" 897 (r_ 565))::(e_ x "step_at" 906 (r_ 572))::(e_ x "how_often" 916 (r_ 579))::(e_ x "steps_and_writing" 929 (r_ 586))::(e_ x "fallen" 937 (r_ 593))::(e_ x "figures_and_carries" 952 (r_ 600))::(e_ x "settled" 960 (r_ 607))::(e_ x "has_figures_alone" 972 (r_ 614))::(e_ x "has_mosts_above_noughts_alone" 981 (r_ 621))::(e_ x "is_writing" 989 (r_ 628))::(e_ x "held_to_be_writings" 998 (r_ 635))::(e_ x "written_row" 1006 (r_ 642))::(e_ x "quotients_by_ratio" 1021 (r_ 649))::(e_ x "quotients_in_falling" 1035 (r_ 656))::(e_ x "quotients_and_rest" 1044 (r_ 663))::(e_ x "shared" 1054 (r_ 670))::(e_ x "row_plus" 1062 (r_ 675))::(e_ x "row_times" 1068 (r_ 680))::(e_ x "lender_above" 1077 (r_ 687))::(e_ x "lend" 1086 (r_ 694))::(e_ x "without_debts" 1096 (r_ 701))::(e_ x "times_by_ratio" 1108 (r_ 708))::(e_ x "times_in_falling" 1121 (r_ 715))::(e_ x "plus" 1130 (r_ 722))::(e_ x "minus" 1140 (r_ 729))::(e_ x "times" 1149 (r_ 736))::(e_ x "_law_cell_at" 1159 (r_ 743))::(e_ x "_law_mixed" 1166 (r_ 750))::(e_ x "_law_pick" 1177 (r_ 757))::(e_ x "_law_way" 1185 (r_ 764))::(e_ x "_law_span" 1194 (r_ 771))::(e_ x "_law_figures" 1209 (r_ 778))::(e_ x "_law_names" 1215 (r_ 783))::(e_ x "_law_done" 1225 (r_ 790))::(e_ x "_law_end" 1237 (r_ 797))::(e_ x "_law_spoilt" 1251 (r_ 804))::(e_ x "law" 1270 (r_ 811))::[])) 77) #[])
def Rn (x:Params):Obj:=(@Obj.mk .none none (@Data.fields (List.toArray ((j_ 1 0)::(j_ 0 0)::(r_ 20)::(j_ 5 0)::(j_ 0 0)::(r_ 27)::(j_ 7 0)::(j_ 0 0)::(r_ 40)::(j_ 9 0)::(j_ 0 0)::(r_ 52)::(j_ 11 0)::(j_ 0 0)::(r_ 64)::(j_ 13 0)::(j_ 0 0)::(r_ 76)::(j_ 15 0)::(j_ 0 0)::(r_ 88)::(j_ 17 0)::(j_ 0 0)::(r_ 100)::(j_ 19 0)::(j_ 0 0)::(r_ 112)::(j_ 21 0)::(j_ 0 0)::(r_ 124)::(j_ 23 0)::(j_ 0 0)::(r_ 136)::(j_ 25 0)::(j_ 0 0)::(r_ 148)::(j_ 27 0)::(j_ 0 0)::(r_ 160)::(j_ 29 0)::(j_ 0 0)::(r_ 172)::(j_ 32 0)::(j_ 0 0)::(r_ 184)::(j_ 34 0)::(j_ 0 0)::(r_ 191)::(j_ 36 0)::(j_ 0 0)::(r_ 198)::(j_ 40 0)::(j_ 0 0)::(r_ 205)::(j_ 46 0)::(j_ 0 0)::(r_ 212)::(j_ 53 0)::(j_ 0 0)::(r_ 219)::(j_ 57 0)::(j_ 0 0)::(r_ 226)::(j_ 79 0)::(j_ 0 0)::(r_ 282)::(j_ 89 0)::(j_ 0 0)::(r_ 315)::(j_ 102 0)::(j_ 0 0)::(r_ 355)::(j_ 118 0)::(j_ 0 0)::(r_ 402)::(j_ 128 0)::(j_ 0 0)::(r_ 435)::(j_ 144 0)::(j_ 0 0)::(r_ 482)::[]))) #[])
def Ro (x:Params):Obj:=(@Obj.mk (.type "dict") none (@Data.dict (List.toArray [(e_ x "__name__" 165 (p_ "oddbases.ways" 449)),(U15 x),(U5 x),(U0 x),(U14 x),(U2 x),(U3 x),(U1 x),(U7 x),(U16 x),(U8 x),(U17 x),(U9 x),(U6 x),(U11 x),(U12 x),(U4 x),(U10 x),(U13 x),(e_ x "NoSpan" 357 (r_ 140)),(e_ x "NoTotal" 373 (r_ 152)),(e_ x "NoText" 389 (r_ 164)),(e_ x "NoRow" 405 (r_ 176)),(e_ x "is_whole" 414 (r_ 185)),(e_ x "is_pair" 421 (r_ 192)),(e_ x "as_pair" 428 (r_ 199)),(e_ x "added" 438 (r_ 206)),(e_ x "multiplied" 448 (r_ 213)),(e_ x "bounded" 459 (r_ 220)),(e_ x "Way" 530 (r_ 272)),(e_ x "Plain" 571 (r_ 307)),(e_ x "Below" 620 (r_ 347)),(e_ x "Balanced" 677 (r_ 394)),(e_ x "Growing" 718 (r_ 427)),(e_ x "Falling" 776 (r_ 474)),(e_ x "Pairs" 845 (r_ 528))]) 36) #[])
def Rq (x:Params):Obj:=(@Obj.mk .none none (@Data.fields (List.toArray ((j_ 1 0)::(j_ 0 0)::(r_ 20)::(j_ 5 0)::(j_ 0 0)::(r_ 27)::(j_ 7 0)::(j_ 0 0)::(r_ 40)::(j_ 9 0)::(j_ 0 0)::(r_ 52)::(j_ 11 0)::(j_ 0 0)::(r_ 64)::(j_ 13 0)::(j_ 0 0)::(r_ 76)::(j_ 15 0)::(j_ 0 0)::(r_ 88)::(j_ 17 0)::(j_ 0 0)::(r_ 100)::(j_ 19 0)::(j_ 0 0)::(r_ 112)::(j_ 21 0)::(j_ 0 0)::(r_ 124)::(j_ 23 0)::(j_ 0 0)::(r_ 136)::(j_ 25 0)::(j_ 0 0)::(r_ 148)::(j_ 27 0)::(j_ 0 0)::(r_ 160)::(j_ 29 0)::(j_ 0 0)::(r_ 172)::(j_ 32 0)::(j_ 0 0)::(r_ 184)::(j_ 34 0)::(j_ 0 0)::(r_ 191)::(j_ 36 0)::(j_ 0 0)::(r_ 198)::(j_ 40 0)::(j_ 0 0)::(r_ 205)::(j_ 46 0)::(j_ 0 0)::(r_ 212)::(j_ 53 0)::(j_ 0 0)::(r_ 219)::(j_ 57 0)::(j_ 0 0)::(r_ 226)::(j_ 79 0)::(j_ 0 0)::(r_ 282)::[]))) #[])
def Rp (x:Params):Obj:=(@Obj.mk (.type "type") none (@Data.cls (@ClassData.mk (.ofString "Way") [(.type "object")] [(r_ 272),(.type "object")] 271 (.ofString "Way") @Bool.true [] [(r_ 307)] @Bool.false (@Option.none @Bool) @Bool.false)) (@List.toArray (@Option @Value) [none,none,(some (p_ "Way" 460)),(some (p_ "Way" 468)),(some (.builtin "object.__new__")),(some (.bool @Bool.true))]))
def Rr (x:Params):Obj:=(@Obj.mk (.type "dict") none (@Data.dict (List.toArray [(e_ x "__name__" 165 (p_ "oddbases.ways" 449)),(U15 x),(U5 x),(U0 x),(U14 x),(U2 x),(U3 x),(U1 x),(U7 x),(U16 x),(U8 x),(U17 x),(U9 x),(U6 x),(U11 x),(U12 x),(U4 x),(U10 x),(U13 x),(e_ x "NoSpan" 357 (r_ 140)),(e_ x "NoTotal" 373 (r_ 152)),(e_ x "NoText" 389 (r_ 164)),(e_ x "NoRow" 405 (r_ 176)),(e_ x "is_whole" 414 (r_ 185)),(e_ x "is_pair" 421 (r_ 192)),(e_ x "as_pair" 428 (r_ 199)),(e_ x "added" 438 (r_ 206)),(e_ x "multiplied" 448 (r_ 213)),(e_ x "bounded" 459 (r_ 220)),(e_ x "Way" 530 (r_ 272)),(e_ x "Plain" 571 (r_ 307))]) 31) #[])
def Rt (x:Params):Obj:=(@Obj.mk .none none (@Data.fields (List.toArray [(j_ 1 0),(j_ 0 0),(r_ 20),(j_ 5 0),(j_ 0 0),(r_ 27),(j_ 7 0),(j_ 0 0),(r_ 40),(j_ 9 0),(j_ 0 0),(r_ 52),(j_ 11 0),(j_ 0 0),(r_ 64),(j_ 13 0),(j_ 0 0),(r_ 76),(j_ 15 0),(j_ 0 0),(r_ 88),(j_ 17 0),(j_ 0 0),(r_ 100),(j_ 19 0),(j_ 0 0),(r_ 112),(j_ 21 0),(j_ 0 0),(r_ 124)])) #[])
def Rs (x:Params):Obj:=(@Obj.mk (.type "type") none (@Data.cls (@ClassData.mk (.ofString "OddError") [(.type "ValueError")] [(r_ 31),(.type "ValueError"),(.type "Exception"),(.type "BaseException"),(.type "object")] 30 (.ofString "OddError") @Bool.true [] [(r_ 44),(r_ 56),(r_ 68),(r_ 80),(r_ 92),(r_ 104),(r_ 116),(r_ 128)] @Bool.false (@Option.none @Bool) @Bool.false)) (@List.toArray (@Option @Value) [(some (r_ 22)),none,(some (p_ "OddError" 196)),(some (p_ "OddError" 204)),(some (.builtin "ValueError.__new__")),(some (.bool @Bool.true))]))
def Ru (x:Params):Obj:=(@Obj.mk (.type "dict") none (@Data.dict (List.toArray [(e_ x "__name__" 165 (p_ "oddbases.errors" 194)),(U15 x),(U5 x),(U0 x),(U14 x),(U2 x),(U3 x),(U1 x),(U7 x),(U16 x),(U8 x),(U17 x),(U9 x),(U6 x),(U11 x),(U12 x),(U4 x),(U10 x),(U13 x)]) 19) #[])
abbrev Y4:=N_ zh (L_ zh) Z_
abbrev Y3:=N_ zc (L_ zc) Z_
abbrev Y2:=N_ zc (L_ zh) Z_
abbrev Y1:=N_ zc (L_ zc) (L_ zh)
abbrev Y0:=N_ zh (L_ zc) (L_ zh)
def myAs:List Nat:=((nat_lit 2)::(nat_lit 3)::(nat_lit 15)::(nat_lit 17)::(nat_lit 18)::(nat_lit 20)::(nat_lit 21)::(nat_lit 22)::(nat_lit 29)::(nat_lit 30)::(nat_lit 31)::(nat_lit 32)::(nat_lit 35)::(nat_lit 42)::(nat_lit 43)::(nat_lit 44)::(nat_lit 47)::(nat_lit 54)::(nat_lit 55)::(nat_lit 56)::(nat_lit 59)::(nat_lit 66)::(nat_lit 67)::(nat_lit 68)::(nat_lit 71)::(nat_lit 78)::(nat_lit 79)::(nat_lit 80)::(nat_lit 83)::(nat_lit 90)::(nat_lit 91)::(nat_lit 92)::(nat_lit 95)::(nat_lit 102)::(nat_lit 103)::(nat_lit 104)::(nat_lit 107)::(nat_lit 114)::(nat_lit 115)::(nat_lit 116)::(nat_lit 119)::(nat_lit 126)::(nat_lit 127)::(nat_lit 128)::(nat_lit 131)::(nat_lit 138)::(nat_lit 139)::(nat_lit 140)::(nat_lit 143)::(nat_lit 150)::(nat_lit 151)::(nat_lit 152)::(nat_lit 155)::(nat_lit 162)::(nat_lit 163)::(nat_lit 164)::(nat_lit 167)::(nat_lit 174)::(nat_lit 175)::(nat_lit 176)::(nat_lit 179)::(nat_lit 181)::(nat_lit 182)::(nat_lit 184)::(nat_lit 185)::(nat_lit 186)::(nat_lit 188)::(nat_lit 189)::(nat_lit 191)::(nat_lit 192)::(nat_lit 193)::(nat_lit 195)::(nat_lit 196)::(nat_lit 198)::(nat_lit 199)::(nat_lit 200)::(nat_lit 202)::(nat_lit 203)::(nat_lit 205)::(nat_lit 206)::(nat_lit 207)::(nat_lit 209)::(nat_lit 210)::(nat_lit 212)::(nat_lit 213)::(nat_lit 214)::(nat_lit 216)::(nat_lit 217)::(nat_lit 219)::(nat_lit 220)::(nat_lit 228)::(nat_lit 230)::(nat_lit 231)::(nat_lit 233)::(nat_lit 234)::(nat_lit 235)::(nat_lit 237)::(nat_lit 238)::(nat_lit 240)::(nat_lit 241)::(nat_lit 242)::(nat_lit 244)::(nat_lit 245)::(nat_lit 247)::(nat_lit 248)::(nat_lit 249)::(nat_lit 251)::(nat_lit 252)::(nat_lit 254)::(nat_lit 255)::(nat_lit 256)::(nat_lit 258)::(nat_lit 259)::(nat_lit 261)::(nat_lit 262)::(nat_lit 263)::(nat_lit 265)::(nat_lit 266)::(nat_lit 268)::(nat_lit 269)::(nat_lit 270)::(nat_lit 271)::(nat_lit 272)::(nat_lit 273)::(nat_lit 274)::(nat_lit 277)::(nat_lit 284)::(nat_lit 286)::(nat_lit 287)::(nat_lit 289)::(nat_lit 290)::(nat_lit 291)::(nat_lit 293)::(nat_lit 294)::(nat_lit 296)::(nat_lit 297)::(nat_lit 298)::(nat_lit 300)::(nat_lit 301)::(nat_lit 303)::(nat_lit 304)::(nat_lit 305)::(nat_lit 306)::(nat_lit 307)::(nat_lit 310)::(nat_lit 317)::(nat_lit 319)::(nat_lit 320)::(nat_lit 322)::(nat_lit 323)::(nat_lit 324)::(nat_lit 326)::(nat_lit 327)::(nat_lit 329)::(nat_lit 330)::(nat_lit 331)::(nat_lit 333)::(nat_lit 334)::(nat_lit 336)::(nat_lit 337)::(nat_lit 338)::(nat_lit 340)::(nat_lit 341)::(nat_lit 343)::(nat_lit 344)::(nat_lit 345)::(nat_lit 346)::(nat_lit 347)::(nat_lit 350)::(nat_lit 357)::(nat_lit 359)::(nat_lit 360)::(nat_lit 362)::(nat_lit 363)::(nat_lit 364)::(nat_lit 366)::(nat_lit 367)::(nat_lit 369)::(nat_lit 370)::(nat_lit 371)::(nat_lit 373)::(nat_lit 374)::(nat_lit 376)::(nat_lit 377)::(nat_lit 378)::(nat_lit 380)::(nat_lit 381)::(nat_lit 383)::(nat_lit 384)::(nat_lit 385)::(nat_lit 387)::(nat_lit 388)::(nat_lit 390)::(nat_lit 391)::(nat_lit 392)::(nat_lit 393)::(nat_lit 394)::(nat_lit 397)::(nat_lit 404)::(nat_lit 406)::(nat_lit 407)::(nat_lit 409)::(nat_lit 410)::(nat_lit 411)::(nat_lit 413)::(nat_lit 414)::(nat_lit 416)::(nat_lit 417)::(nat_lit 418)::(nat_lit 420)::(nat_lit 421)::(nat_lit 423)::(nat_lit 424)::(nat_lit 425)::(nat_lit 426)::(nat_lit 427)::(nat_lit 430)::(nat_lit 437)::(nat_lit 439)::(nat_lit 440)::(nat_lit 442)::(nat_lit 443)::(nat_lit 444)::(nat_lit 446)::(nat_lit 447)::(nat_lit 449)::(nat_lit 450)::(nat_lit 451)::(nat_lit 453)::(nat_lit 454)::(nat_lit 456)::(nat_lit 457)::(nat_lit 458)::(nat_lit 460)::(nat_lit 461)::(nat_lit 463)::(nat_lit 464)::(nat_lit 465)::(nat_lit 467)::(nat_lit 468)::(nat_lit 470)::(nat_lit 471)::(nat_lit 472)::(nat_lit 473)::(nat_lit 474)::(nat_lit 477)::(nat_lit 484)::(nat_lit 486)::(nat_lit 487)::(nat_lit 489)::(nat_lit 490)::(nat_lit 491)::(nat_lit 493)::(nat_lit 494)::(nat_lit 496)::(nat_lit 497)::(nat_lit 498)::(nat_lit 500)::(nat_lit 501)::(nat_lit 503)::(nat_lit 504)::(nat_lit 505)::(nat_lit 507)::(nat_lit 508)::(nat_lit 510)::(nat_lit 511)::(nat_lit 512)::(nat_lit 514)::(nat_lit 515)::(nat_lit 517)::(nat_lit 518)::(nat_lit 519)::(nat_lit 521)::(nat_lit 522)::(nat_lit 524)::(nat_lit 525)::(nat_lit 526)::(nat_lit 527)::(nat_lit 528)::(nat_lit 531)::(nat_lit 533)::(nat_lit 534)::(nat_lit 536)::(nat_lit 537)::(nat_lit 538)::(nat_lit 540)::(nat_lit 541)::(nat_lit 543)::(nat_lit 544)::(nat_lit 545)::(nat_lit 547)::(nat_lit 548)::(nat_lit 550)::(nat_lit 551)::(nat_lit 552)::(nat_lit 554)::(nat_lit 555)::(nat_lit 557)::(nat_lit 558)::(nat_lit 559)::(nat_lit 561)::(nat_lit 562)::(nat_lit 564)::(nat_lit 565)::(nat_lit 566)::(nat_lit 568)::(nat_lit 569)::(nat_lit 571)::(nat_lit 572)::(nat_lit 573)::(nat_lit 575)::(nat_lit 576)::(nat_lit 578)::(nat_lit 579)::(nat_lit 580)::(nat_lit 582)::(nat_lit 583)::(nat_lit 585)::(nat_lit 586)::(nat_lit 587)::(nat_lit 589)::(nat_lit 590)::(nat_lit 592)::(nat_lit 593)::(nat_lit 594)::(nat_lit 596)::(nat_lit 597)::(nat_lit 599)::(nat_lit 600)::(nat_lit 601)::(nat_lit 603)::(nat_lit 604)::(nat_lit 606)::(nat_lit 607)::(nat_lit 608)::(nat_lit 610)::(nat_lit 611)::(nat_lit 613)::(nat_lit 614)::(nat_lit 615)::(nat_lit 617)::(nat_lit 618)::(nat_lit 620)::(nat_lit 621)::(nat_lit 622)::(nat_lit 624)::(nat_lit 625)::(nat_lit 627)::(nat_lit 628)::(nat_lit 629)::(nat_lit 631)::(nat_lit 632)::(nat_lit 634)::(nat_lit 635)::(nat_lit 636)::(nat_lit 638)::(nat_lit 639)::(nat_lit 641)::(nat_lit 642)::(nat_lit 643)::(nat_lit 645)::(nat_lit 646)::(nat_lit 648)::(nat_lit 649)::(nat_lit 650)::(nat_lit 652)::(nat_lit 653)::(nat_lit 655)::(nat_lit 656)::(nat_lit 657)::(nat_lit 659)::(nat_lit 660)::(nat_lit 662)::(nat_lit 663)::(nat_lit 664)::(nat_lit 666)::(nat_lit 667)::(nat_lit 669)::(nat_lit 670)::(nat_lit 671)::(nat_lit 674)::(nat_lit 675)::(nat_lit 676)::(nat_lit 679)::(nat_lit 680)::(nat_lit 681)::(nat_lit 683)::(nat_lit 684)::(nat_lit 686)::(nat_lit 687)::(nat_lit 688)::(nat_lit 690)::(nat_lit 691)::(nat_lit 693)::(nat_lit 694)::(nat_lit 695)::(nat_lit 697)::(nat_lit 698)::(nat_lit 700)::(nat_lit 701)::(nat_lit 702)::(nat_lit 704)::(nat_lit 705)::(nat_lit 707)::(nat_lit 708)::(nat_lit 709)::(nat_lit 711)::(nat_lit 712)::(nat_lit 714)::(nat_lit 715)::(nat_lit 716)::(nat_lit 718)::(nat_lit 719)::(nat_lit 721)::(nat_lit 722)::(nat_lit 723)::(nat_lit 725)::(nat_lit 726)::(nat_lit 728)::(nat_lit 729)::(nat_lit 730)::(nat_lit 732)::(nat_lit 733)::(nat_lit 735)::(nat_lit 736)::(nat_lit 737)::(nat_lit 739)::(nat_lit 740)::(nat_lit 742)::(nat_lit 743)::(nat_lit 744)::(nat_lit 746)::(nat_lit 747)::(nat_lit 749)::(nat_lit 750)::(nat_lit 751)::(nat_lit 753)::(nat_lit 754)::(nat_lit 756)::(nat_lit 757)::(nat_lit 758)::(nat_lit 760)::(nat_lit 761)::(nat_lit 763)::(nat_lit 764)::(nat_lit 765)::(nat_lit 767)::(nat_lit 768)::(nat_lit 770)::(nat_lit 771)::(nat_lit 772)::(nat_lit 774)::(nat_lit 775)::(nat_lit 777)::(nat_lit 778)::(nat_lit 779)::(nat_lit 782)::(nat_lit 783)::(nat_lit 784)::(nat_lit 786)::(nat_lit 787)::(nat_lit 789)::(nat_lit 790)::(nat_lit 791)::(nat_lit 793)::(nat_lit 794)::(nat_lit 796)::(nat_lit 797)::(nat_lit 798)::(nat_lit 800)::(nat_lit 801)::(nat_lit 803)::(nat_lit 804)::(nat_lit 805)::(nat_lit 807)::(nat_lit 808)::(nat_lit 810)::(nat_lit 811)::[])
def h_heap_39:PySem.Params→PySem.W.Frag:=fun x=>
(nat_lit 2,(@W.boot_o_2 x))::
(nat_lit 3,(YY x))::
(nat_lit 15,(zc x))::
(nat_lit 17,(o53 x))::
(nat_lit 18,(zc x))::
(nat_lit 20,(o56 x))::
(nat_lit 21,(o57 x))::
(nat_lit 22,(o58 x))::
(nat_lit 29,(zc x))::
(nat_lit 30,(o66 x))::
(nat_lit 31,(iX x))::
(nat_lit 32,(o68 x))::
(nat_lit 35,(zG x))::
(nat_lit 42,(zc x))::
(nat_lit 43,(o82 x))::
(nat_lit 44,(o83 x))::
(nat_lit 47,(zG x))::
(nat_lit 54,(zc x))::
(nat_lit 55,(o97 x))::
(nat_lit 56,(o98 x))::
(nat_lit 59,(zG x))::
(nat_lit 66,(zc x))::
(nat_lit 67,(kr x))::
(nat_lit 68,(kq x))::
(nat_lit 71,(zG x))::
(nat_lit 78,(zc x))::
(nat_lit 79,(ko x))::
(nat_lit 80,(kn x))::
(nat_lit 83,(zG x))::
(nat_lit 90,(zc x))::
(nat_lit 91,(km x))::
(nat_lit 92,(kl x))::
(nat_lit 95,(zG x))::
(nat_lit 102,(zc x))::
(nat_lit 103,(kj x))::
(nat_lit 104,(ki x))::
(nat_lit 107,(zG x))::
(nat_lit 114,(zc x))::
(nat_lit 115,(kh x))::
(nat_lit 116,(kg x))::
(nat_lit 119,(zG x))::
(nat_lit 126,(zc x))::
(nat_lit 127,(kf x))::
(nat_lit 128,(kd x))::
(nat_lit 131,(zG x))::
(nat_lit 138,(zc x))::
(nat_lit 139,(i8 x))::
(nat_lit 140,(i7 x))::
(nat_lit 143,(zG x))::
(nat_lit 150,(zc x))::
(nat_lit 151,(i6 x))::
(nat_lit 152,(i5 x))::
(nat_lit 155,(zG x))::
(nat_lit 162,(zc x))::
(nat_lit 163,(iZ x))::
(nat_lit 164,(iY x))::
(nat_lit 167,(zG x))::
(nat_lit 174,(zc x))::
(nat_lit 175,(iW x))::
(nat_lit 176,(iV x))::
(nat_lit 179,(zc x))::
(nat_lit 181,(iU x))::
(nat_lit 182,(zc x))::
(nat_lit 184,(iT x))::
(nat_lit 185,(iS x))::
(nat_lit 186,(zc x))::
(nat_lit 188,(iR x))::
(nat_lit 189,(zc x))::
(nat_lit 191,(iQ x))::
(nat_lit 192,(iP x))::
(nat_lit 193,(zc x))::
(nat_lit 195,(iO x))::
(nat_lit 196,(zc x))::
(nat_lit 198,(iN x))::
(nat_lit 199,(iM x))::
(nat_lit 200,(zc x))::
(nat_lit 202,(iL x))::
(nat_lit 203,(zc x))::
(nat_lit 205,(iK x))::
(nat_lit 206,(iJ x))::
(nat_lit 207,(zc x))::
(nat_lit 209,(iI x))::
(nat_lit 210,(zc x))::
(nat_lit 212,(iH x))::
(nat_lit 213,(iG x))::
(nat_lit 214,(zc x))::
(nat_lit 216,(iF x))::
(nat_lit 217,(zc x))::
(nat_lit 219,(iE x))::
(nat_lit 220,(iD x))::
(nat_lit 228,(zc x))::
(nat_lit 230,(iC x))::
(nat_lit 231,(zc x))::
(nat_lit 233,(iB x))::
(nat_lit 234,(iA x))::
(nat_lit 235,(zc x))::
(nat_lit 237,(iz x))::
(nat_lit 238,(zc x))::
(nat_lit 240,(iy x))::
(nat_lit 241,(iw x))::
(nat_lit 242,(zc x))::
(nat_lit 244,(ir x))::
(nat_lit 245,(zc x))::
(nat_lit 247,(iq x))::
(nat_lit 248,(ip x))::
(nat_lit 249,(zc x))::
(nat_lit 251,(io x))::
(nat_lit 252,(zc x))::
(nat_lit 254,(ik x))::
(nat_lit 255,(ij x))::
(nat_lit 256,(zc x))::
(nat_lit 258,(ii x))::
(nat_lit 259,(zc x))::
(nat_lit 261,(ig x))::
(nat_lit 262,(j9 x))::
(nat_lit 263,(zc x))::
(nat_lit 265,(j8 x))::
(nat_lit 266,(zc x))::
(nat_lit 268,(j7 x))::
(nat_lit 269,(j6 x))::
(nat_lit 270,(zc x))::
(nat_lit 271,(j5 x))::
(nat_lit 272,(cp x))::
(nat_lit 273,(j4 x))::
(nat_lit 274,(j0 x))::
(nat_lit 277,(y2 x))::
(nat_lit 284,(zc x))::
(nat_lit 286,(jZ x))::
(nat_lit 287,(zc x))::
(nat_lit 289,(jY x))::
(nat_lit 290,(jX x))::
(nat_lit 291,(zc x))::
(nat_lit 293,(jW x))::
(nat_lit 294,(zc x))::
(nat_lit 296,(jV x))::
(nat_lit 297,(jU x))::
(nat_lit 298,(zc x))::
(nat_lit 300,(jT x))::
(nat_lit 301,(zc x))::
(nat_lit 303,(jS x))::
(nat_lit 304,(jR x))::
(nat_lit 305,(jQ x))::
(nat_lit 306,(jP x))::
(nat_lit 307,(jO x))::
(nat_lit 310,(y2 x))::
(nat_lit 317,(zc x))::
(nat_lit 319,(bF x))::
(nat_lit 320,(zc x))::
(nat_lit 322,(bE x))::
(nat_lit 323,(bD x))::
(nat_lit 324,(zc x))::
(nat_lit 326,(bC x))::
(nat_lit 327,(zc x))::
(nat_lit 329,(bB x))::
(nat_lit 330,(bA x))::
(nat_lit 331,(zc x))::
(nat_lit 333,(bz x))::
(nat_lit 334,(zc x))::
(nat_lit 336,(bx x))::
(nat_lit 337,(bw x))::
(nat_lit 338,(zc x))::
(nat_lit 340,(bv x))::
(nat_lit 341,(zc x))::
(nat_lit 343,(bu x))::
(nat_lit 344,(br x))::
(nat_lit 345,(bq x))::
(nat_lit 346,(bp x))::
(nat_lit 347,(bo x))::
(nat_lit 350,(y2 x))::
(nat_lit 357,(zc x))::
(nat_lit 359,(bn x))::
(nat_lit 360,(zc x))::
(nat_lit 362,(bj x))::
(nat_lit 363,(bh x))::
(nat_lit 364,(zc x))::
(nat_lit 366,(bg x))::
(nat_lit 367,(zc x))::
(nat_lit 369,(bf x))::
(nat_lit 370,(bc x))::
(nat_lit 371,(zc x))::
(nat_lit 373,(bb x))::
(nat_lit 374,(zc x))::
(nat_lit 376,(ba x))::
(nat_lit 377,(c_ x))::
(nat_lit 378,(zc x))::
(nat_lit 380,(c9 x))::
(nat_lit 381,(zc x))::
(nat_lit 383,(c8 x))::
(nat_lit 384,(c7 x))::
(nat_lit 385,(zc x))::
(nat_lit 387,(c6 x))::
(nat_lit 388,(zc x))::
(nat_lit 390,(c5 x))::
(nat_lit 391,(cZ x))::
(nat_lit 392,(cY x))::
(nat_lit 393,(cX x))::
(nat_lit 394,(cW x))::
(nat_lit 397,(y2 x))::
(nat_lit 404,(zc x))::
(nat_lit 406,(cV x))::
(nat_lit 407,(zc x))::
(nat_lit 409,(cU x))::
(nat_lit 410,(cT x))::
(nat_lit 411,(zc x))::
(nat_lit 413,(cS x))::
(nat_lit 414,(zc x))::
(nat_lit 416,(cR x))::
(nat_lit 417,(cQ x))::
(nat_lit 418,(zc x))::
(nat_lit 420,(cP x))::
(nat_lit 421,(zc x))::
(nat_lit 423,(cO x))::
(nat_lit 424,(cN x))::
(nat_lit 425,(cM x))::
(nat_lit 426,(cL x))::
(nat_lit 427,(cK x))::
(nat_lit 430,(y2 x))::
(nat_lit 437,(zc x))::
(nat_lit 439,(cJ x))::
(nat_lit 440,(zc x))::
(nat_lit 442,(cI x))::
(nat_lit 443,(cH x))::
(nat_lit 444,(zc x))::
(nat_lit 446,(cG x))::
(nat_lit 447,(zc x))::
(nat_lit 449,(cF x))::
(nat_lit 450,(cE x))::
(nat_lit 451,(zc x))::
(nat_lit 453,(cD x))::
(nat_lit 454,(zc x))::
(nat_lit 456,(cC x))::
(nat_lit 457,(cB x))::
(nat_lit 458,(zc x))::
(nat_lit 460,(cA x))::
(nat_lit 461,(zc x))::
(nat_lit 463,(cz x))::
(nat_lit 464,(cy x))::
(nat_lit 465,(zc x))::
(nat_lit 467,(cx x))::
(nat_lit 468,(zc x))::
(nat_lit 470,(cw x))::
(nat_lit 471,(cv x))::
(nat_lit 472,(cu x))::
(nat_lit 473,(cr x))::
(nat_lit 474,(cq x))::
(nat_lit 477,(y2 x))::
(nat_lit 484,(zc x))::
(nat_lit 486,(cn x))::
(nat_lit 487,(zc x))::
(nat_lit 489,(cm x))::
(nat_lit 490,(ck x))::
(nat_lit 491,(zc x))::
(nat_lit 493,(cj x))::
(nat_lit 494,(zc x))::
(nat_lit 496,(ci x))::
(nat_lit 497,(cg x))::
(nat_lit 498,(zc x))::
(nat_lit 500,(cf x))::
(nat_lit 501,(zc x))::
(nat_lit 503,(ce x))::
(nat_lit 504,(cc x))::
(nat_lit 505,(zc x))::
(nat_lit 507,(cb x))::
(nat_lit 508,(zc x))::
(nat_lit 510,(d9 x))::
(nat_lit 511,(d8 x))::
(nat_lit 512,(zc x))::
(nat_lit 514,(d7 x))::
(nat_lit 515,(zc x))::
(nat_lit 517,(d6 x))::
(nat_lit 518,(d5 x))::
(nat_lit 519,(zc x))::
(nat_lit 521,(dZ x))::
(nat_lit 522,(zc x))::
(nat_lit 524,(dY x))::
(nat_lit 525,(dX x))::
(nat_lit 526,(dW x))::
(nat_lit 527,(dU x))::
(nat_lit 528,(dS x))::
(nat_lit 531,(zc x))::
(nat_lit 533,(WK x))::
(nat_lit 534,(zc x))::
(nat_lit 536,(WJ x))::
(nat_lit 537,(WI x))::
(nat_lit 538,(zc x))::
(nat_lit 540,(WH x))::
(nat_lit 541,(zc x))::
(nat_lit 543,(WG x))::
(nat_lit 544,(WF x))::
(nat_lit 545,(zc x))::
(nat_lit 547,(WE x))::
(nat_lit 548,(zc x))::
(nat_lit 550,(WD x))::
(nat_lit 551,(WC x))::
(nat_lit 552,(zc x))::
(nat_lit 554,(WB x))::
(nat_lit 555,(zc x))::
(nat_lit 557,(WA x))::
(nat_lit 558,(Wz x))::
(nat_lit 559,(zc x))::
(nat_lit 561,(Wy x))::
(nat_lit 562,(zc x))::
(nat_lit 564,(Wx x))::
(nat_lit 565,(Ww x))::
(nat_lit 566,(zc x))::
(nat_lit 568,(Wv x))::
(nat_lit 569,(zc x))::
(nat_lit 571,(Wu x))::
(nat_lit 572,(Wt x))::
(nat_lit 573,(zc x))::
(nat_lit 575,(Ws x))::
(nat_lit 576,(zc x))::
(nat_lit 578,(Wr x))::
(nat_lit 579,(Wq x))::
(nat_lit 580,(zc x))::
(nat_lit 582,(Wp x))::
(nat_lit 583,(zc x))::
(nat_lit 585,(Wo x))::
(nat_lit 586,(Wn x))::
(nat_lit 587,(zc x))::
(nat_lit 589,(Wm x))::
(nat_lit 590,(zc x))::
(nat_lit 592,(Wl x))::
(nat_lit 593,(Wk x))::
(nat_lit 594,(zc x))::
(nat_lit 596,(Wj x))::
(nat_lit 597,(zc x))::
(nat_lit 599,(Wi x))::
(nat_lit 600,(Wh x))::
(nat_lit 601,(zc x))::
(nat_lit 603,(Wg x))::
(nat_lit 604,(zc x))::
(nat_lit 606,(Wf x))::
(nat_lit 607,(We x))::
(nat_lit 608,(zc x))::
(nat_lit 610,(Wd x))::
(nat_lit 611,(zc x))::
(nat_lit 613,(Wc x))::
(nat_lit 614,(Wb x))::
(nat_lit 615,(zc x))::
(nat_lit 617,(Wa x))::
(nat_lit 618,(zc x))::
(nat_lit 620,(X_ x))::
(nat_lit 621,(X9 x))::
(nat_lit 622,(zc x))::
(nat_lit 624,(X8 x))::
(nat_lit 625,(zc x))::
(nat_lit 627,(X7 x))::
(nat_lit 628,(X6 x))::
(nat_lit 629,(zc x))::
(nat_lit 631,(X5 x))::
(nat_lit 632,(zc x))::
(nat_lit 634,(X4 x))::
(nat_lit 635,(X3 x))::
(nat_lit 636,(zc x))::
(nat_lit 638,(X2 x))::
(nat_lit 639,(zc x))::
(nat_lit 641,(X1 x))::
(nat_lit 642,(X0 x))::
(nat_lit 643,(zc x))::
(nat_lit 645,(XZ x))::
(nat_lit 646,(zc x))::
(nat_lit 648,(XY x))::
(nat_lit 649,(XX x))::
(nat_lit 650,(zc x))::
(nat_lit 652,(XW x))::
(nat_lit 653,(zc x))::
(nat_lit 655,(XV x))::
(nat_lit 656,(XU x))::
(nat_lit 657,(zc x))::
(nat_lit 659,(XT x))::
(nat_lit 660,(zc x))::
(nat_lit 662,(XS x))::
(nat_lit 663,(XR x))::
(nat_lit 664,(zc x))::
(nat_lit 666,(XQ x))::
(nat_lit 667,(zc x))::
(nat_lit 669,(XO x))::
(nat_lit 670,(XN x))::
(nat_lit 671,(zc x))::
(nat_lit 674,(XM x))::
(nat_lit 675,(XJ x))::
(nat_lit 676,(zc x))::
(nat_lit 679,(XI x))::
(nat_lit 680,(XH x))::
(nat_lit 681,(zc x))::
(nat_lit 683,(XG x))::
(nat_lit 684,(zc x))::
(nat_lit 686,(XF x))::
(nat_lit 687,(XE x))::
(nat_lit 688,(zc x))::
(nat_lit 690,(XD x))::
(nat_lit 691,(zc x))::
(nat_lit 693,(XC x))::
(nat_lit 694,(XB x))::
(nat_lit 695,(zc x))::
(nat_lit 697,(XA x))::
(nat_lit 698,(zc x))::
(nat_lit 700,(Xz x))::
(nat_lit 701,(Xy x))::
(nat_lit 702,(zc x))::
(nat_lit 704,(Xx x))::
(nat_lit 705,(zc x))::
(nat_lit 707,(Xw x))::
(nat_lit 708,(Xv x))::
(nat_lit 709,(zc x))::
(nat_lit 711,(Xu x))::
(nat_lit 712,(zc x))::
(nat_lit 714,(Xs x))::
(nat_lit 715,(Xr x))::
(nat_lit 716,(zc x))::
(nat_lit 718,(Xq x))::
(nat_lit 719,(zc x))::
(nat_lit 721,(Xp x))::
(nat_lit 722,(Xo x))::
(nat_lit 723,(zc x))::
(nat_lit 725,(Xn x))::
(nat_lit 726,(zc x))::
(nat_lit 728,(Xm x))::
(nat_lit 729,(Xl x))::
(nat_lit 730,(zc x))::
(nat_lit 732,(Xk x))::
(nat_lit 733,(zc x))::
(nat_lit 735,(Xj x))::
(nat_lit 736,(Xi x))::
(nat_lit 737,(zc x))::
(nat_lit 739,(Xh x))::
(nat_lit 740,(zc x))::
(nat_lit 742,(Xg x))::
(nat_lit 743,(Xf x))::
(nat_lit 744,(zc x))::
(nat_lit 746,(Xe x))::
(nat_lit 747,(zc x))::
(nat_lit 749,(Xd x))::
(nat_lit 750,(Xc x))::
(nat_lit 751,(zc x))::
(nat_lit 753,(Xb x))::
(nat_lit 754,(zc x))::
(nat_lit 756,(Xa x))::
(nat_lit 757,(Y_ x))::
(nat_lit 758,(zc x))::
(nat_lit 760,(Y9 x))::
(nat_lit 761,(zc x))::
(nat_lit 763,(Y8 x))::
(nat_lit 764,(Y7 x))::
(nat_lit 765,(zc x))::
(nat_lit 767,(Y6 x))::
(nat_lit 768,(zc x))::
(nat_lit 770,(Y5 x))::
(nat_lit 771,(YZ x))::
(nat_lit 772,(zc x))::
(nat_lit 774,(YX x))::
(nat_lit 775,(zc x))::
(nat_lit 777,(YW x))::
(nat_lit 778,(YV x))::
(nat_lit 779,(zc x))::
(nat_lit 782,(YU x))::
(nat_lit 783,(YT x))::
(nat_lit 784,(zc x))::
(nat_lit 786,(YS x))::
(nat_lit 787,(zc x))::
(nat_lit 789,(YR x))::
(nat_lit 790,(YQ x))::
(nat_lit 791,(zc x))::
(nat_lit 793,(YO x))::
(nat_lit 794,(zc x))::
(nat_lit 796,(YN x))::
(nat_lit 797,(YM x))::
(nat_lit 798,(zc x))::
(nat_lit 800,(YL x))::
(nat_lit 801,(zc x))::
(nat_lit 803,(YK x))::
(nat_lit 804,(YJ x))::
(nat_lit 805,(zc x))::
(nat_lit 807,(YI x))::
(nat_lit 808,(zc x))::
(nat_lit 810,(YH x))::
(nat_lit 811,(YG x))::[]
def h_view_39:PySem.Program:={ PySem.Challenge.pw_oddbases_k35_reckoning_refused with main:={ PySem.Challenge.pw_oddbases_k35_reckoning_refused.main with body:=[My.top 0,My.top 2,My.top 3,My.top 4,My.top 5,My.top 6,My.top 7,My.top 8,My.top 9,My.top 10,My.top 11,My.top 12,My.top 13,My.top 14,My.top 16,My.top 17,My.top 18,My.top 19,My.top 20,My.top 22,My.top 23,My.top 24,My.top 25,My.top 26,My.top 27,My.top 28,My.top 29,My.top 31,My.top 32,My.top 34,My.top 35,My.top 36,My.top 37,My.top 38,My.top 39,My.top 40,My.top 42,My.top 43,My.top 45,My.top 46,My.top 47,My.top 48,My.top 49,My.top 51,My.top 52,My.top 53,My.top 54,My.top 56,My.top 57,My.top 58,My.top 59,My.top 60,My.top 61,My.top 62,My.top 63,My.top 64,My.top 65,My.top 67,My.top 68,My.top 69,My.top 70,My.top 71,My.top 72,My.top 73,My.top 74,My.top 75,My.top 76,My.top 77] } }
def xr:((x:@Params)→@Heap):=(fun x=>(@Heap.mk (@Array.mk @Obj ((@W.boot_o_0 x)::(@W.boot_o_1 x)::(@W.boot_o_2 x)::(YY x)::(@W.boot_o_4 x)::(@W.boot_o_5 x)::(@W.boot_o_6 x)::(@W.boot_o_7 x)::(@W.boot_o_8 x)::(@W.boot_o_9 x)::(@W.boot_o_10 x)::(zc x)::(Td x)::(o45 x)::(o46 x)::(zc x)::(zh x)::(o53 x)::(zc x)::(o55 x)::(o56 x)::(o57 x)::(o58 x)::(zA x)::(o60 x)::(zc x)::(zh x)::(o63 x)::(o64 x)::(zc x)::(o66 x)::(iX x)::(o68 x)::(o69 x)::(o70 x)::(zG x)::(zA x)::(o76 x)::(zc x)::(zh x)::(o79 x)::(o80 x)::(zc x)::(o82 x)::(o83 x)::(o84 x)::(o85 x)::(zG x)::(zA x)::(o91 x)::(zc x)::(zh x)::(o94 x)::(o95 x)::(zc x)::(o97 x)::(o98 x)::(o99 x)::(gC x)::(zG x)::(zA x)::(gB x)::(zc x)::(zh x)::(gA x)::(gz x)::(zc x)::(kr x)::(kq x)::(gx x)::(gw x)::(zG x)::(zA x)::(gv x)::(zc x)::(zh x)::(gu x)::(gq x)::(zc x)::(ko x)::(kn x)::(gp x)::(gm x)::(zG x)::(zA x)::(gk x)::(zc x)::(zh x)::(gj x)::(gi x)::(zc x)::(km x)::(kl x)::(gh x)::(gg x)::(zG x)::(zA x)::(gf x)::(zc x)::(zh x)::(ge x)::(gd x)::(zc x)::(kj x)::(ki x)::(gc x)::(gb x)::(zG x)::(zA x)::(h_ x)::(zc x)::(zh x)::(h9 x)::(h8 x)::(zc x)::(kh x)::(kg x)::(hZ x)::(hW x)::(zG x)::(zA x)::(hV x)::(zc x)::(zh x)::(hU x)::(hG x)::(zc x)::(kf x)::(kd x)::(i_ x)::(i9 x)::(zG x)::(zA x)::(aF x)::(zc x)::(zh x)::(aE x)::(aD x)::(zc x)::(i8 x)::(i7 x)::(aC x)::(aB x)::(zG x)::(zA x)::(aA x)::(zc x)::(zh x)::(az x)::(ay x)::(zc x)::(i6 x)::(i5 x)::(ax x)::(aw x)::(zG x)::(zA x)::(av x)::(zc x)::(zh x)::(au x)::(aq x)::(zc x)::(iZ x)::(iY x)::(ap x)::(ao x)::(zG x)::(zA x)::(al x)::(zc x)::(zh x)::(ak x)::(aj x)::(zc x)::(iW x)::(iV x)::(ai x)::(ah x)::(zc x)::(zh x)::(iU x)::(zc x)::(ag x)::(iT x)::(iS x)::(zc x)::(zh x)::(iR x)::(zc x)::(af x)::(iQ x)::(iP x)::(zc x)::(zh x)::(iO x)::(zc x)::(ae x)::(iN x)::(iM x)::(zc x)::(zh x)::(iL x)::(zc x)::(ad x)::(iK x)::(iJ x)::(zc x)::(zh x)::(iI x)::(zc x)::(ac x)::(iH x)::(iG x)::(zc x)::(zh x)::(iF x)::(zc x)::(aa x)::(iE x)::(iD x)::(zc x)::(zA x)::(b_ x)::(zc x)::(bZ x)::(bY x)::(bX x)::(zc x)::(zh x)::(iC x)::(zc x)::(bW x)::(iB x)::(iA x)::(zc x)::(zh x)::(iz x)::(zc x)::(bV x)::(iy x)::(iw x)::(zc x)::(zh x)::(ir x)::(zc x)::(bU x)::(iq x)::(ip x)::(zc x)::(zh x)::(io x)::(zc x)::(bT x)::(ik x)::(ij x)::(zc x)::(zh x)::(ii x)::(zc x)::(bS x)::(ig x)::(j9 x)::(zc x)::(zh x)::(j8 x)::(zc x)::(bR x)::(j7 x)::(j6 x)::(zc x)::(j5 x)::(cp x)::(j4 x)::(j0 x)::(bQ x)::(bP x)::(y2 x)::(zA x)::(bO x)::(zc x)::(bN x)::(bM x)::(bL x)::(zc x)::(zh x)::(jZ x)::(zc x)::(bK x)::(jY x)::(jX x)::(zc x)::(zh x)::(jW x)::(zc x)::(bJ x)::(jV x)::(jU x)::(zc x)::(zh x)::(jT x)::(zc x)::(bI x)::(jS x)::(jR x)::(jQ x)::(jP x)::(jO x)::(bH x)::(bG x)::(y2 x)::(zA x)::(VH x)::(zc x)::(VG x)::(VF x)::(VE x)::(zc x)::(zh x)::(bF x)::(zc x)::(VD x)::(bE x)::(bD x)::(zc x)::(zh x)::(bC x)::(zc x)::(VC x)::(bB x)::(bA x)::(zc x)::(zh x)::(bz x)::(zc x)::(VB x)::(bx x)::(bw x)::(zc x)::(zh x)::(bv x)::(zc x)::(VA x)::(bu x)::(br x)::(bq x)::(bp x)::(bo x)::(Vz x)::(Vy x)::(y2 x)::(zA x)::(Vx x)::(zc x)::(Vv x)::(Vu x)::(Vs x)::(zc x)::(zh x)::(bn x)::(zc x)::(Vr x)::(bj x)::(bh x)::(zc x)::(zh x)::(bg x)::(zc x)::(Vq x)::(bf x)::(bc x)::(zc x)::(zh x)::(bb x)::(zc x)::(Vp x)::(ba x)::(c_ x)::(zc x)::(zh x)::(c9 x)::(zc x)::(Vo x)::(c8 x)::(c7 x)::(zc x)::(zh x)::(c6 x)::(zc x)::(Vn x)::(c5 x)::(cZ x)::(cY x)::(cX x)::(cW x)::(Vm x)::(Vl x)::(y2 x)::(zA x)::(Vk x)::(zc x)::(Vj x)::(Vi x)::(Vh x)::(zc x)::(zh x)::(cV x)::(zc x)::(Vg x)::(cU x)::(cT x)::(zc x)::(zh x)::(cS x)::(zc x)::(Vf x)::(cR x)::(cQ x)::(zc x)::(zh x)::(cP x)::(zc x)::(Ve x)::(cO x)::(cN x)::(cM x)::(cL x)::(cK x)::(Vd x)::(Vc x)::(y2 x)::(zA x)::(Vb x)::(zc x)::(Va x)::(W_ x)::(W9 x)::(zc x)::(zh x)::(cJ x)::(zc x)::(W8 x)::(cI x)::(cH x)::(zc x)::(zh x)::(cG x)::(zc x)::(W7 x)::(cF x)::(cE x)::(zc x)::(zh x)::(cD x)::(zc x)::(W6 x)::(cC x)::(cB x)::(zc x)::(zh x)::(cA x)::(zc x)::(W5 x)::(cz x)::(cy x)::(zc x)::(zh x)::(cx x)::(zc x)::(WZ x)::(cw x)::(cv x)::(cu x)::(cr x)::(cq x)::(WY x)::(WX x)::(y2 x)::(zA x)::(WW x)::(zc x)::(WV x)::(WU x)::(WT x)::(zc x)::(zh x)::(cn x)::(zc x)::(WS x)::(cm x)::(ck x)::(zc x)::(zh x)::(cj x)::(zc x)::(WR x)::(ci x)::(cg x)::(zc x)::(zh x)::(cf x)::(zc x)::(WQ x)::(ce x)::(cc x)::(zc x)::(zh x)::(cb x)::(zc x)::(WP x)::(d9 x)::(d8 x)::(zc x)::(zh x)::(d7 x)::(zc x)::(WO x)::(d6 x)::(d5 x)::(zc x)::(zh x)::(dZ x)::(zc x)::(WN x)::(dY x)::(dX x)::(dW x)::(dU x)::(dS x)::(WM x)::(WL x)::(zc x)::(zh x)::(WK x)::(zc x)::(TV x)::(WJ x)::(WI x)::(zc x)::(zh x)::(WH x)::(zc x)::(TU x)::(WG x)::(WF x)::(zc x)::(zh x)::(WE x)::(zc x)::(TR x)::(WD x)::(WC x)::(zc x)::(zh x)::(WB x)::(zc x)::(TQ x)::(WA x)::(Wz x)::(zc x)::(zh x)::(Wy x)::(zc x)::(TN x)::(Wx x)::(Ww x)::(zc x)::(zh x)::(Wv x)::(zc x)::(TM x)::(Wu x)::(Wt x)::(zc x)::(zh x)::(Ws x)::(zc x)::(TL x)::(Wr x)::(Wq x)::(zc x)::(zh x)::(Wp x)::(zc x)::(TK x)::(Wo x)::(Wn x)::(zc x)::(zh x)::(Wm x)::(zc x)::(TJ x)::(Wl x)::(Wk x)::(zc x)::(zh x)::(Wj x)::(zc x)::(TH x)::(Wi x)::(Wh x)::(zc x)::(zh x)::(Wg x)::(zc x)::(TF x)::(Wf x)::(We x)::(zc x)::(zh x)::(Wd x)::(zc x)::(TD x)::(Wc x)::(Wb x)::(zc x)::(zh x)::(Wa x)::(zc x)::(TC x)::(X_ x)::(X9 x)::(zc x)::(zh x)::(X8 x)::(zc x)::(Tz x)::(X7 x)::(X6 x)::(zc x)::(zh x)::(X5 x)::(zc x)::(Ty x)::(X4 x)::(X3 x)::(zc x)::(zh x)::(X2 x)::(zc x)::(Tx x)::(X1 x)::(X0 x)::(zc x)::(zh x)::(XZ x)::(zc x)::(Tw x)::(XY x)::(XX x)::(zc x)::(zh x)::(XW x)::(zc x)::(Tv x)::(XV x)::(XU x)::(zc x)::(zh x)::(XT x)::(zc x)::(Tu x)::(XS x)::(XR x)::(zc x)::(zh x)::(XQ x)::(zc x)::(Tt x)::(XO x)::(XN x)::(zc x)::(zh x)::(Ts x)::(XM x)::(XJ x)::(zc x)::(zh x)::(Tr x)::(XI x)::(XH x)::(zc x)::(zh x)::(XG x)::(zc x)::(Tq x)::(XF x)::(XE x)::(zc x)::(zh x)::(XD x)::(zc x)::(Tp x)::(XC x)::(XB x)::(zc x)::(zh x)::(XA x)::(zc x)::(To x)::(Xz x)::(Xy x)::(zc x)::(zh x)::(Xx x)::(zc x)::(Tn x)::(Xw x)::(Xv x)::(zc x)::(zh x)::(Xu x)::(zc x)::(Tm x)::(Xs x)::(Xr x)::(zc x)::(zh x)::(Xq x)::(zc x)::(Tl x)::(Xp x)::(Xo x)::(zc x)::(zh x)::(Xn x)::(zc x)::(Tk x)::(Xm x)::(Xl x)::(zc x)::(zh x)::(Xk x)::(zc x)::(Tj x)::(Xj x)::(Xi x)::(zc x)::(zh x)::(Xh x)::(zc x)::(Ti x)::(Xg x)::(Xf x)::(zc x)::(zh x)::(Xe x)::(zc x)::(Th x)::(Xd x)::(Xc x)::(zc x)::(zh x)::(Xb x)::(zc x)::(Tg x)::(Xa x)::(Y_ x)::(zc x)::(zh x)::(Y9 x)::(zc x)::(Tf x)::(Y8 x)::(Y7 x)::(zc x)::(zh x)::(Y6 x)::(zc x)::(Te x)::(Y5 x)::(YZ x)::(zc x)::(zh x)::(YX x)::(zc x)::(Tc x)::(YW x)::(YV x)::(zc x)::(zh x)::(Tb x)::(YU x)::(YT x)::(zc x)::(zh x)::(YS x)::(zc x)::(Ta x)::(YR x)::(YQ x)::(zc x)::(zh x)::(YO x)::(zc x)::(U_ x)::(YN x)::(YM x)::(zc x)::(zh x)::(YL x)::(zc x)::(UZ x)::(YK x)::(YJ x)::(zc x)::(zh x)::(YI x)::(zc x)::(UY x)::(YH x)::(YG x)::[])) (@Life.mk [] [] [] 0 (@List.nil (@Prod @Nat @Nat)) [] @Bool.false #[] [] 0 @Bool.false @Bool.false @Bool.false (0:Int) [(2000:Int),(10:Int),(10:Int)] @Bool.false 0 @Bool.true [] [] 0 @Bool.false)))
def yf:@Env:=(@Env.mk (@Module.scope (@Program.main ((@W.OpenRow.toRowW (@W.OpenLaw.row @Challenge.rw_oddbases_k35_reckoning_refused))).1)) @mainNs @mainNs (@List.nil (@Prod @Str @Addr)) @Str.empty (@Option.none @Addr) (r_ 13) (@some @Addr (@OfNat.ofNat @Addr 14 (@instOfNatNat 14))) (@OfNat.ofNat @Addr 0 (@instOfNatNat 0)))
def nY:=N_ W.boot_o_0 (N_ W.boot_o_1 (N_ YY (N_ W.boot_o_7 (N_ zc (N_ iX (N_ zh (N_ kf (N_ ij (L_ d8) (L_ Y6)) (N_ c8 (L_ zc) Z_)) (N_ iQ (N_ bF (L_ Ws) Z_) Y2)) (N_ zG (N_ zh (N_ zc (L_ WG) (L_ zh)) (N_ Vf (L_ zc) Z_)) (N_ b_ (N_ zA (L_ We) Z_) (N_ WW (L_ Xj) Z_)))) (N_ zG (N_ ko (N_ zG (N_ j5 (L_ dU) (L_ YT)) (N_ Vk (L_ XV) Z_)) (N_ zc (N_ VB (L_ TJ) Z_) (N_ cz (L_ zc) Z_))) (N_ zh (N_ iW (N_ jS (L_ zc) Z_) (N_ zA (L_ XE) Z_)) (N_ bV Y2 (N_ WR (L_ zc) Z_))))) (N_ zA (N_ zh (N_ zG (N_ zh (N_ zc (L_ zc) (L_ zc)) (N_ cZ (L_ Tw) Z_)) (N_ iM Y3 (N_ W6 (L_ Xu) Z_))) (N_ kj (N_ zG (N_ bJ (L_ WC) (L_ YI)) (N_ cO (L_ XI) Z_)) (N_ zc (N_ bn (L_ zc) Z_) (N_ zc (L_ Xf) Z_)))) (N_ o97 (N_ zh (N_ i6 (N_ bO (L_ TV) (L_ zc)) (N_ zc (L_ XR) Z_)) (N_ zh (N_ bu (L_ Wi) Z_) (N_ cv (L_ Tk) Z_))) (N_ zG (N_ ag (N_ zA (L_ zh) Z_) (N_ cJ (L_ zc) Z_)) (N_ iq (N_ Vp (L_ X5) Z_) (N_ ce (L_ zh) Z_)))))) (N_ zc (N_ o55 (N_ zG (N_ kr (N_ zG (N_ zc (L_ zc) (L_ YZ)) (N_ c6 (L_ zc) Z_)) (N_ iO (N_ bD (L_ Wq) Z_) (N_ zc (L_ Xw) Z_))) (N_ zh (N_ iZ (N_ zc (L_ WE) (L_ YK)) (N_ zh (L_ XJ) Z_)) (N_ bX (N_ Vu (L_ zc) Z_) (N_ WT (L_ Xh) Z_)))) (N_ zh (N_ zG (N_ zh (N_ bQ (L_ zc) (L_ zc)) (N_ Vh (L_ XT) Z_)) (N_ ac Y4 (N_ cx (L_ zc) Z_))) (N_ kh (N_ zc (N_ jO (L_ TN) Z_) (N_ W_ (L_ zc) Z_)) (N_ zh (N_ zc (L_ X7) Z_) (N_ zh (L_ Tg) Z_))))) (N_ o63 (N_ o82 (N_ zh (N_ i8 (N_ bR (L_ WN) (L_ zc)) (N_ Vm (L_ zh) Z_)) (N_ zc Y3 (N_ zh (L_ Xr) Z_))) (N_ zG (N_ zh (N_ zh (L_ zc) (L_ YG)) (N_ cK (L_ XG) Z_)) (N_ zc (N_ bh (L_ TC) Z_) Y3))) (N_ zG (N_ km (N_ zG (N_ bL (L_ zh) (L_ U_)) Y3) (N_ iE (N_ bo (L_ Wg) Z_) (N_ WY (L_ zh) Z_))) (N_ zh (N_ zh (N_ VF (L_ Wu) Z_) (N_ cH (L_ To) Z_)) (N_ io (N_ zh (L_ X3) Z_) (N_ cb (L_ Y8) Z_))))))) (N_ W.boot_o_5 (N_ W.boot_o_9 (N_ o53 (N_ o69 (N_ gz (N_ i_ (N_ zh (L_ zh) (L_ Te)) (N_ zc (L_ X1) Z_)) (N_ zc (N_ VD (L_ TL) Z_) (N_ cF (L_ zc) Z_))) (N_ gf (N_ aq (N_ jY (L_ zc) (L_ zc)) (N_ cQ (L_ Ts) Z_)) (N_ bZ Y2 (N_ WV (L_ zc) Z_)))) (N_ o91 (N_ gp (N_ aA (N_ j4 (L_ WM) (L_ zh)) (N_ Vj (L_ zc) Z_)) (N_ iI (N_ bw (L_ Wk) Z_) (N_ zc (L_ Xp) Z_))) (N_ h8 (N_ ai (N_ jQ (L_ Wy) Z_) Y2) (N_ iw (N_ bf (L_ zc) Z_) (N_ cg (L_ Xb) Z_))))) (N_ zc (N_ o80 (N_ gv (N_ aD (N_ j8 (L_ dZ) (L_ YW)) (N_ cX (L_ XX) Z_)) (N_ zh (N_ bB (L_ Wo) Z_) (N_ cB (L_ Tm) Z_))) (N_ gc (N_ al (N_ jU (L_ zh) (L_ UY)) (N_ cM (L_ zc) Z_)) (N_ iB (N_ Vr (L_ Wa) Z_) (N_ cm (L_ zh) Z_)))) (N_ o99 (N_ gi (N_ ax (N_ bN (L_ WI) (L_ YO)) (N_ cU (L_ zh) Z_)) (N_ zc (N_ bq (L_ zc) Z_) (N_ cr (L_ Xl) Z_))) (N_ hV (N_ iS Y3 (N_ W8 (L_ XA) Z_)) (N_ zc (N_ c_ (L_ Ty) Z_) Y3))))) (N_ o45 (N_ o57 (N_ o76 (N_ gx (N_ aF (N_ ig (L_ d6) (L_ zh)) (N_ Vn (L_ XZ) Z_)) (N_ ae Y4 (N_ cD (L_ zc) Z_))) (N_ gd (N_ ap (N_ jW (L_ TR) (L_ zc)) Y2) (N_ zh (N_ zc (L_ Wc) Z_) (N_ zh (L_ Ti) Z_)))) (N_ o95 (N_ gk (N_ ay (N_ y2 (L_ WK) (L_ YR)) (N_ zh (L_ Tu) Z_)) (N_ iG Y3 (N_ WZ (L_ Xn) Z_))) (N_ hZ (N_ iU (N_ bG (L_ Ww) Z_) (N_ zc (L_ XC) Z_)) (N_ zc (N_ bb (L_ zc) Z_) (N_ zc (L_ Y_) Z_))))) (N_ zc (N_ o84 (N_ gq (N_ aC (N_ j6 (L_ dX) (L_ Tb)) (N_ y2 (L_ zc) Z_)) (N_ iK (N_ bz (L_ Wm) Z_) Y2)) (N_ h_ (N_ aj (N_ zc (L_ WA) Z_) (N_ Vc (L_ Tq) Z_)) (N_ iz (N_ zh (L_ X9) Z_) (N_ cj (L_ Xd) Z_)))) (N_ gB (N_ gh (N_ av (N_ zh (L_ zc) (L_ YM)) (N_ cS (L_ XO) Z_)) (N_ zc (N_ Vy (L_ TF) Z_) (N_ y2 (L_ zc) Z_))) (N_ hG (N_ zc Y3 (N_ zh (L_ Xy) Z_)) (N_ bT Y2 (N_ WP (L_ zc) Z_)))))))) (N_ W.boot_o_2 (N_ W.boot_o_4 (N_ W.boot_o_8 (N_ zh (N_ o68 (N_ gA (N_ kd (N_ zc (L_ zc) (L_ zc)) (N_ c7 (L_ Tx) Z_)) (N_ iP Y3 (N_ W7 (L_ Xx) Z_))) (N_ zA (N_ au (N_ bK (L_ WF) (L_ YL)) (N_ cR (L_ zh) Z_)) (N_ zc (N_ Vx (L_ zc) Z_) (N_ zc (L_ Xi) Z_)))) (N_ zA (N_ kn (N_ zA (N_ cp (L_ dS) (L_ zc)) (N_ zc (L_ XU) Z_)) (N_ zh (N_ bx (L_ Wl) Z_) (N_ cy (L_ Tl) Z_))) (N_ h9 (N_ iV (N_ jR (L_ zh) Z_) (N_ Vb (L_ zc) Z_)) (N_ iy (N_ Vq (L_ X8) Z_) (N_ ci (L_ zh) Z_))))) (N_ o60 (N_ o79 (N_ zA (N_ aE (N_ zh (L_ zh) (L_ Tc)) (N_ cY (L_ XY) Z_)) (N_ zc (N_ VC (L_ TK) Z_) (N_ cC (L_ zc) Z_))) (N_ ki (N_ zA (N_ jV (L_ zc) (L_ zc)) (N_ cN (L_ XH) Z_)) (N_ bW Y2 (N_ WS (L_ zc) Z_)))) (N_ o98 (N_ gj (N_ i5 (N_ zc (L_ WJ) (L_ zh)) (N_ Vg (L_ zc) Z_)) (N_ iF (N_ br (L_ Wh) Z_) (N_ cu (L_ Xm) Z_))) (N_ zA (N_ iT (N_ VH (L_ Wv) Z_) Y2) (N_ ip (N_ ba (L_ zc) Z_) (N_ cc (L_ Y9) Z_)))))) (N_ Td (N_ o56 (N_ zA (N_ kq (N_ zA (N_ bS (L_ WO) (L_ zc)) Y2) (N_ zc Y3 (N_ zh (L_ Xv) Z_))) (N_ ge (N_ iY (N_ zh (L_ zc) (L_ YJ)) (N_ cP (L_ zc) Z_)) (N_ zc (N_ Vs (L_ TD) Z_) Y3))) (N_ o94 (N_ zA (N_ az (N_ bP (L_ zh) (L_ Ta)) Y3) (N_ iH (N_ bv (L_ Wj) Z_) Y2)) (N_ kg (N_ zh (N_ bH (L_ Wx) Z_) (N_ W9 (L_ Tp) Z_)) (N_ ir (N_ zh (L_ X6) Z_) (N_ cf (L_ Xa) Z_))))) (N_ o64 (N_ o83 (N_ gu (N_ i7 (N_ j7 (L_ dY) (L_ zh)) (N_ Vl (L_ XW) Z_)) (N_ ad Y4 (N_ cA (L_ zc) Z_))) (N_ zA (N_ ak (N_ jT (L_ TQ) Z_) (N_ Vd (L_ zc) Z_)) (N_ zh (N_ zc (L_ X_) Z_) (N_ zh (L_ Th) Z_)))) (N_ zA (N_ kl (N_ zA (N_ zc (L_ WH) (L_ YN)) (N_ zh (L_ Tt) Z_)) (N_ iD (N_ Vz (L_ zc) Z_) (N_ WX (L_ Xk) Z_))) (N_ hU (N_ iR (N_ VE (L_ Wt) Z_) (N_ zc (L_ Xz) Z_)) (N_ zc (N_ c9 (L_ zc) Z_) (N_ zc (L_ Y7) Z_))))))) (N_ W.boot_o_6 (N_ W.boot_o_10 (N_ zc (N_ o70 (N_ zc (N_ i9 (N_ ii (L_ d7) (L_ Y5)) (N_ zh (L_ X0) Z_)) (N_ zh (N_ bE (L_ Wr) Z_) (N_ cE (L_ Tn) Z_))) (N_ zc (N_ zc (N_ jX (L_ zh) (L_ UZ)) (N_ zc (L_ XM) Z_)) (N_ bY (N_ Vv (L_ Wd) Z_) (N_ WU (L_ zh) Z_)))) (N_ zc (N_ gm (N_ zc (N_ j0 (L_ WL) (L_ YS)) (N_ Vi (L_ zh) Z_)) (N_ zc Y3 (N_ zh (L_ Xo) Z_))) (N_ zc (N_ ah (N_ jP (L_ zc) Z_) (N_ Va (L_ XD) Z_)) (N_ zc (N_ bc (L_ Tz) Z_) Y3)))) (N_ zh (N_ zc (N_ zc (N_ zc (N_ zc (L_ zc) (L_ YV)) (N_ cW (L_ zc) Z_)) (N_ iL (N_ bA (L_ Wn) Z_) (N_ zc (L_ Xs) Z_))) (N_ gb (N_ zc (N_ zc (L_ WB) (L_ YH)) (N_ cL (L_ zh) Z_)) (N_ iA (N_ bj (L_ zc) Z_) (N_ ck (L_ Xe) Z_)))) (N_ gC (N_ zc (N_ aw (N_ bM (L_ zc) (L_ zc)) (N_ cT (L_ XQ) Z_)) (N_ aa (N_ bp (L_ zh) Z_) (N_ cq (L_ zc) Z_))) (N_ zc (N_ zc (N_ VG (L_ TM) Z_) (N_ cI (L_ zc) Z_)) (N_ zh (N_ zc (L_ X4) Z_) (N_ zh (L_ Tf) Z_)))))) (N_ o46 (N_ o58 (N_ zc (N_ gw (N_ zc (N_ j9 (L_ d5) (L_ YX)) (N_ c5 (L_ zc) Z_)) (N_ iN (N_ bC (L_ Wp) Z_) Y2)) (N_ zc (N_ ao (N_ zc (L_ WD) (L_ zh)) (N_ Ve (L_ Tr) Z_)) (N_ iC (N_ zh (L_ Wb) Z_) (N_ cn (L_ Xg) Z_)))) (N_ zc (N_ zc (N_ zc (N_ zA (L_ zc) (L_ YQ)) (N_ cV (L_ XS) Z_)) (N_ zc (N_ VA (L_ TH) Z_) (N_ cw (L_ zc) Z_))) (N_ hW (N_ zc (N_ y2 (L_ zc) Z_) (N_ zh (L_ XB) Z_)) (N_ bU Y2 (N_ WQ (L_ zc) Z_))))) (N_ o66 (N_ o85 (N_ zc (N_ aB (N_ zc (L_ dW) (L_ YU)) (N_ zA (L_ Tv) Z_)) (N_ iJ Y3 (N_ W5 (L_ Xq) Z_))) (N_ zc (N_ zc (N_ bI (L_ Wz) Z_) (N_ y2 (L_ XF) Z_)) (N_ zc (N_ bg (L_ zc) Z_) (N_ zc (L_ Xc) Z_)))) (N_ zc (N_ gg (N_ zc (N_ jZ (L_ TU) (L_ zc)) (N_ zc (L_ XN) Z_)) (N_ zA (N_ y2 (L_ Wf) Z_) (N_ zA (L_ Tj) Z_))) (N_ zc (N_ af Y4 (N_ cG (L_ zc) Z_)) (N_ ik (N_ Vo (L_ X2) Z_) (N_ d9 (L_ zh) Z_))))))))
def vh:(@List @Stmt):=[My.top 30,My.top 31,My.top 32,My.top 33,My.top 34,My.top 35,My.top 36,My.top 37,My.top 38,My.top 39,My.top 40,My.top 41,My.top 42,My.top 43,My.top 44,My.top 45,My.top 46,My.top 47,My.top 48,My.top 49,My.top 50,My.top 51,My.top 52,My.top 53,My.top 54,My.top 55,My.top 56,My.top 57,My.top 58,My.top 59,My.top 60,My.top 61,My.top 62,My.top 63,My.top 64,My.top 65,My.top 66,My.top 67,My.top 68,My.top 69,My.top 70,My.top 71,My.top 72,My.top 73,My.top 74,My.top 75,My.top 76,My.top 77]
def nZ:=N_ W.boot_o_0 (N_ W.boot_o_1 (N_ Ro (N_ W.boot_o_7 (N_ zc (N_ iX (N_ zh (N_ kf (N_ ij (L_ d8) Z_) (L_ c8)) (N_ iQ (L_ bF) (L_ zc))) (N_ zG (N_ zh (L_ zc) (L_ Vf)) (N_ b_ (L_ zA) (L_ WW)))) (N_ zG (N_ ko (N_ zG (N_ j5 (L_ dU) Z_) (L_ Vk)) (N_ zc (L_ VB) (L_ cz))) (N_ zh (N_ iW (L_ jS) (L_ zA)) (N_ bV (L_ zc) (L_ WR))))) (N_ zA (N_ zh (N_ zG (N_ zh Y3 (L_ cZ)) (N_ iM (L_ zc) (L_ W6))) (N_ kj (N_ zG (L_ bJ) (L_ cO)) (N_ zc (L_ bn) (L_ zc)))) (N_ o97 (N_ zh (N_ i6 (L_ bO) (L_ zc)) (N_ zh (L_ bu) (L_ cv))) (N_ zG (N_ ag (L_ zA) (L_ cJ)) (N_ iq (L_ Vp) (L_ ce)))))) (N_ zc (N_ o55 (N_ zG (N_ kr (N_ zG Y3 (L_ c6)) (N_ iO (L_ bD) (L_ zc))) (N_ zh (N_ iZ (L_ zc) (L_ zh)) (N_ bX (L_ Vu) (L_ WT)))) (N_ zh (N_ zG (N_ zh (L_ bQ) (L_ Vh)) (N_ ac (L_ zh) (L_ cx))) (N_ kh (N_ zc (L_ jO) (L_ W_)) Y0))) (N_ o63 (N_ o82 (N_ zh (N_ i8 (N_ bR (L_ WN) Z_) (L_ Vm)) Y1) (N_ zG (N_ zh (L_ zh) (L_ cK)) (N_ zc (L_ bh) (L_ zc)))) (N_ zG (N_ km (N_ zG (L_ bL) (L_ zc)) (N_ iE (L_ bo) (L_ WY))) (N_ zh (N_ zh (L_ VF) (L_ cH)) (N_ io (L_ zh) (L_ cb))))))) (N_ W.boot_o_5 (N_ W.boot_o_9 (N_ o53 (N_ o69 (N_ gz (N_ i_ Y4 (L_ zc)) (N_ zc (L_ VD) (L_ cF))) (N_ gf (N_ aq (L_ jY) (L_ cQ)) (N_ bZ (L_ zc) (L_ WV)))) (N_ o91 (N_ gp (N_ aA (N_ j4 (L_ WM) Z_) (L_ Vj)) (N_ iI (L_ bw) (L_ zc))) (N_ h8 (N_ ai (L_ jQ) (L_ zc)) (N_ iw (L_ bf) (L_ cg))))) (N_ zc (N_ o80 (N_ gv (N_ aD (N_ j8 (L_ dZ) Z_) (L_ cX)) (N_ zh (L_ bB) (L_ cB))) (N_ gc (N_ al (L_ jU) (L_ cM)) (N_ iB (L_ Vr) (L_ cm)))) (N_ o99 (N_ gi (N_ ax (L_ bN) (L_ cU)) (N_ zc (L_ bq) (L_ cr))) (N_ hV (N_ iS (L_ zc) (L_ W8)) (N_ zc (L_ c_) (L_ zc)))))) (N_ o45 (N_ o57 (N_ o76 (N_ gx (N_ aF (N_ ig (L_ d6) Z_) (L_ Vn)) (N_ ae (L_ zh) (L_ cD))) (N_ gd (N_ ap (L_ jW) (L_ zc)) Y0)) (N_ o95 (N_ gk (N_ ay (L_ y2) (L_ zh)) (N_ iG (L_ zc) (L_ WZ))) (N_ hZ (N_ iU (L_ bG) (L_ zc)) (N_ zc (L_ bb) (L_ zc))))) (N_ zc (N_ o84 (N_ gq (N_ aC (N_ j6 (L_ dX) Z_) (L_ y2)) (N_ iK (L_ bz) (L_ zc))) (N_ h_ (N_ aj (L_ zc) (L_ Vc)) (N_ iz (L_ zh) (L_ cj)))) (N_ gB (N_ gh (N_ av (L_ zh) (L_ cS)) (N_ zc (L_ Vy) (L_ y2))) (N_ hG Y1 (N_ bT (L_ zc) (L_ WP)))))))) (N_ W.boot_o_2 (N_ W.boot_o_4 (N_ W.boot_o_8 (N_ zh (N_ o68 (N_ gA (N_ kd Y3 (L_ c7)) (N_ iP (L_ zc) (L_ W7))) (N_ zA (N_ au (L_ bK) (L_ cR)) (N_ zc (L_ Vx) (L_ zc)))) (N_ zA (N_ kn (N_ zA (N_ cp (L_ dS) Z_) (L_ zc)) (N_ zh (L_ bx) (L_ cy))) (N_ h9 (N_ iV (L_ jR) (L_ Vb)) (N_ iy (L_ Vq) (L_ ci))))) (N_ o60 (N_ o79 (N_ zA (N_ aE Y4 (L_ cY)) (N_ zc (L_ VC) (L_ cC))) (N_ ki (N_ zA (L_ jV) (L_ cN)) (N_ bW (L_ zc) (L_ WS)))) (N_ o98 (N_ gj (N_ i5 (L_ zc) (L_ Vg)) (N_ iF (L_ br) (L_ cu))) (N_ zA (N_ iT (L_ VH) (L_ zc)) (N_ ip (L_ ba) (L_ cc)))))) (N_ Rn (N_ o56 (N_ zA (N_ kq (N_ zA (N_ bS (L_ WO) Z_) (L_ zc)) Y1) (N_ ge (N_ iY (L_ zh) (L_ cP)) (N_ zc (L_ Vs) (L_ zc)))) (N_ o94 (N_ zA (N_ az (L_ bP) (L_ zc)) (N_ iH (L_ bv) (L_ zc))) (N_ kg (N_ zh (L_ bH) (L_ W9)) (N_ ir (L_ zh) (L_ cf))))) (N_ o64 (N_ o83 (N_ gu (N_ i7 (N_ j7 (L_ dY) Z_) (L_ Vl)) (N_ ad (L_ zh) (L_ cA))) (N_ zA (N_ ak (L_ jT) (L_ Vd)) Y0)) (N_ zA (N_ kl (N_ zA (L_ zc) (L_ zh)) (N_ iD (L_ Vz) (L_ WX))) (N_ hU (N_ iR (L_ VE) (L_ zc)) (N_ zc (L_ c9) (L_ zc))))))) (N_ W.boot_o_6 (N_ W.boot_o_10 (N_ zc (N_ o70 (N_ zc (N_ i9 (N_ ii (L_ d7) Z_) (L_ zh)) (N_ zh (L_ bE) (L_ cE))) (N_ zc (N_ zc (L_ jX) (L_ zc)) (N_ bY (L_ Vv) (L_ WU)))) (N_ zc (N_ gm (N_ zc (N_ j0 (L_ WL) Z_) (L_ Vi)) Y1) (N_ zc (N_ ah (L_ jP) (L_ Va)) (N_ zc (L_ bc) (L_ zc))))) (N_ zh (N_ zc (N_ zc (N_ zc Y3 (L_ cW)) (N_ iL (L_ bA) (L_ zc))) (N_ gb (N_ zc (L_ zc) (L_ cL)) (N_ iA (L_ bj) (L_ ck)))) (N_ gC (N_ zc (N_ aw (L_ bM) (L_ cT)) (N_ aa (L_ bp) (L_ cq))) (N_ zc (N_ zc (L_ VG) (L_ cI)) Y0)))) (N_ o46 (N_ o58 (N_ zc (N_ gw (N_ zc (N_ j9 (L_ d5) Z_) (L_ c5)) (N_ iN (L_ bC) (L_ zc))) (N_ zc (N_ ao (L_ zc) (L_ Ve)) (N_ iC (L_ zh) (L_ cn)))) (N_ zc (N_ zc (N_ zc (L_ zA) (L_ cV)) (N_ zc (L_ VA) (L_ cw))) (N_ hW (N_ zc (L_ y2) (L_ zh)) (N_ bU (L_ zc) (L_ WQ))))) (N_ o66 (N_ o85 (N_ zc (N_ aB (N_ zc (L_ dW) Z_) (L_ zA)) (N_ iJ (L_ zc) (L_ W5))) (N_ zc (N_ zc (L_ bI) (L_ y2)) (N_ zc (L_ bg) (L_ zc)))) (N_ zc (N_ gg (N_ zc (L_ jZ) (L_ zc)) (N_ zA (L_ y2) (L_ zA))) (N_ zc (N_ af (L_ zh) (L_ cG)) (N_ ik (L_ Vo) (L_ d9))))))))
def uT:(@List @Stmt):=[My.top 25,My.top 26,My.top 27,My.top 28,My.top 29]
def n0:=N_ W.boot_o_0 (N_ W.boot_o_1 (N_ Rr (N_ W.boot_o_7 (N_ zc (N_ iX (N_ zh (N_ kf (L_ ij) Z_) (L_ iQ)) (N_ zG (N_ zh (L_ zc) Z_) (L_ b_))) (N_ zG (N_ ko (N_ zG (L_ j5) Z_) (L_ zc)) (N_ zh (N_ iW (L_ jS) Z_) (L_ bV)))) (N_ zA (N_ zh (N_ zG (N_ zh (L_ zc) Z_) (L_ iM)) (N_ kj (N_ zG (L_ bJ) Z_) (L_ zc))) (N_ o97 (N_ zh (N_ i6 (L_ bO) Z_) (L_ zh)) (N_ zG (L_ ag) (L_ iq))))) (N_ zc (N_ o55 (N_ zG (N_ kr (N_ zG (L_ zc) Z_) (L_ iO)) (N_ zh (N_ iZ (L_ zc) Z_) (L_ bX))) (N_ zh (N_ zG (N_ zh (L_ bQ) Z_) (L_ ac)) (N_ kh (N_ zc (L_ jO) Z_) (L_ zh)))) (N_ o63 (N_ o82 (N_ zh (N_ i8 (L_ bR) Z_) (L_ zc)) (N_ zG Y4 (L_ zc))) (N_ zG (N_ km (N_ zG (L_ bL) Z_) (L_ iE)) (N_ zh (L_ zh) (L_ io)))))) (N_ W.boot_o_5 (N_ W.boot_o_9 (N_ o53 (N_ o69 (N_ gz (N_ i_ (L_ zh) Z_) (L_ zc)) (N_ gf (N_ aq (L_ jY) Z_) (L_ bZ))) (N_ o91 (N_ gp (N_ aA (L_ j4) Z_) (L_ iI)) (N_ h8 (N_ ai (L_ jQ) Z_) (L_ iw)))) (N_ zc (N_ o80 (N_ gv (N_ aD (L_ j8) Z_) (L_ zh)) (N_ gc (N_ al (L_ jU) Z_) (L_ iB))) (N_ o99 (N_ gi (N_ ax (L_ bN) Z_) (L_ zc)) (N_ hV (L_ iS) (L_ zc))))) (N_ o45 (N_ o57 (N_ o76 (N_ gx (N_ aF (L_ ig) Z_) (L_ ae)) (N_ gd (N_ ap (L_ jW) Z_) (L_ zh))) (N_ o95 (N_ gk (N_ ay (L_ y2) Z_) (L_ iG)) (N_ hZ (N_ iU (L_ bG) Z_) (L_ zc)))) (N_ zc (N_ o84 (N_ gq (N_ aC (L_ j6) Z_) (L_ iK)) (N_ h_ (N_ aj (L_ zc) Z_) (L_ iz))) (N_ gB (N_ gh (N_ av (L_ zh) Z_) (L_ zc)) (N_ hG (L_ zc) (L_ bT))))))) (N_ W.boot_o_2 (N_ W.boot_o_4 (N_ W.boot_o_8 (N_ zh (N_ o68 (N_ gA (N_ kd (L_ zc) Z_) (L_ iP)) (N_ zA (N_ au (L_ bK) Z_) (L_ zc))) (N_ zA (N_ kn (N_ zA (L_ Rp) Z_) (L_ zh)) (N_ h9 (N_ iV (L_ jR) Z_) (L_ iy)))) (N_ o60 (N_ o79 (N_ zA (N_ aE (L_ zh) Z_) (L_ zc)) (N_ ki (N_ zA (L_ jV) Z_) (L_ bW))) (N_ o98 (N_ gj (N_ i5 (L_ zc) Z_) (L_ iF)) (N_ zA (L_ iT) (L_ ip))))) (N_ Rq (N_ o56 (N_ zA (N_ kq (N_ zA (L_ bS) Z_) (L_ zc)) (N_ ge (N_ iY (L_ zh) Z_) (L_ zc))) (N_ o94 (N_ zA (N_ az (L_ bP) Z_) (L_ iH)) (N_ kg (N_ zh (L_ bH) Z_) (L_ ir)))) (N_ o64 (N_ o83 (N_ gu (N_ i7 (L_ j7) Z_) (L_ ad)) (N_ zA (N_ ak (L_ jT) Z_) (L_ zh))) (N_ zA (N_ kl (N_ zA (L_ zc) Z_) (L_ iD)) (N_ hU (L_ iR) (L_ zc)))))) (N_ W.boot_o_6 (N_ W.boot_o_10 (N_ zc (N_ o70 (N_ zc (N_ i9 (L_ ii) Z_) (L_ zh)) (N_ zc (N_ zc (L_ jX) Z_) (L_ bY))) (N_ zc (N_ gm (N_ zc (L_ j0) Z_) (L_ zc)) (N_ zc (N_ ah (L_ jP) Z_) (L_ zc)))) (N_ zh (N_ zc (N_ zc Y3 (L_ iL)) (N_ gb Y3 (L_ iA))) (N_ gC (N_ zc (N_ aw (L_ bM) Z_) (L_ aa)) Y1))) (N_ o46 (N_ o58 (N_ zc (N_ gw (N_ zc (L_ j9) Z_) (L_ iN)) (N_ zc (N_ ao (L_ zc) Z_) (L_ iC))) (N_ zc (N_ zc (N_ zc (L_ zA) Z_) (L_ zc)) (N_ hW (L_ zc) (L_ bU)))) (N_ o66 (N_ o85 (N_ zc (N_ aB (L_ zc) Z_) (L_ iJ)) (N_ zc (N_ zc (L_ bI) Z_) (L_ zc))) (N_ zc (N_ gg (N_ zc (L_ jZ) Z_) (L_ zA)) (N_ zc (L_ af) (L_ ik)))))))
def uU:(@List @Stmt):=[My.top 11,My.top 12,My.top 13,My.top 14,My.top 15,My.top 16,My.top 17,My.top 18,My.top 19,My.top 20,My.top 21,My.top 22,My.top 23,My.top 24]
def n4:=N_ W.boot_o_0 (N_ W.boot_o_1 (N_ Ru (N_ W.boot_o_7 (N_ zc (N_ Rs (N_ zh (L_ kf) Z_) (L_ zG)) (N_ zG (L_ ko) (L_ zh))) (N_ zA (N_ zh (L_ zG) (L_ kj)) (N_ o97 (L_ zh) (L_ zG)))) (N_ zc (N_ o55 (N_ zG (L_ kr) (L_ zh)) (N_ zh (L_ zG) (L_ kh))) (N_ o63 (N_ o82 (L_ zh) (L_ zG)) (N_ zG (L_ km) (L_ zh))))) (N_ W.boot_o_5 (N_ W.boot_o_9 (N_ o53 (N_ o69 (N_ gz (L_ i_) Z_) (L_ gf)) (N_ o91 (L_ gp) (L_ h8))) (N_ zc (N_ o80 (L_ gv) (L_ gc)) (N_ o99 (L_ gi) (L_ hV)))) (N_ o45 (N_ o57 (N_ o76 (L_ gx) (L_ gd)) (N_ o95 (L_ gk) (L_ hZ))) (N_ zc (N_ o84 (L_ gq) (L_ h_)) (N_ gB (L_ gh) (L_ hG)))))) (N_ W.boot_o_2 (N_ W.boot_o_4 (N_ W.boot_o_8 (N_ zh (N_ o68 (N_ gA (L_ kd) Z_) (L_ zA)) (N_ zA (L_ kn) (L_ h9))) (N_ o60 (N_ o79 (L_ zA) (L_ ki)) (N_ o98 (L_ gj) (L_ zA)))) (N_ Rt (N_ o56 (N_ zA (L_ kq) (L_ ge)) (N_ o94 (L_ zA) (L_ kg))) (N_ o64 (N_ o83 (L_ gu) (L_ zA)) (N_ zA (L_ kl) (L_ hU))))) (N_ W.boot_o_6 (N_ W.boot_o_10 (N_ zc (N_ o70 (N_ zc (L_ i9) Z_) (L_ zc)) (N_ zc (L_ gm) (L_ zc))) (N_ zh (N_ zc (L_ zc) (L_ gb)) (N_ gC (L_ zc) (L_ zc)))) (N_ o46 (N_ o58 (N_ zc (L_ gw) (L_ zc)) (N_ zc (L_ zc) (L_ hW))) (N_ o66 (N_ o85 (L_ zc) (L_ zc)) (N_ zc (L_ gg) (L_ zc))))))
def oH:(@List @Stmt):=[My.top 0,My.top 1,My.top 2,My.top 3,My.top 4,My.top 5,My.top 6,My.top 7,My.top 8,My.top 9,My.top 10]
def kI:=N_ W.boot_o_0 (N_ W.boot_o_1 (N_ W.boot_o_3 (L_ W.boot_o_7) (L_ zc)) (N_ W.boot_o_5 (L_ W.boot_o_9) (L_ o45))) (N_ W.boot_o_2 (N_ W.boot_o_4 (L_ W.boot_o_8) (L_ zh)) (N_ W.boot_o_6 (L_ W.boot_o_10) (L_ o46)))
def kJ:((x:@Params)→@Heap):=(fun x=>(@Heap.mk (@Array.mk @Obj [(@W.boot_o_0 x),(@W.boot_o_1 x),(@W.boot_o_2 x),(@W.boot_o_3 x),(@W.boot_o_4 x),(@W.boot_o_5 x),(@W.boot_o_6 x),(@W.boot_o_7 x),(@W.boot_o_8 x),(@W.boot_o_9 x),(@W.boot_o_10 x),(zc x),(zh x),(o45 x),(o46 x)]) (@Life.mk [] [] [] 0 (@List.nil (@Prod @Nat @Nat)) [] @Bool.false #[] [] 0 @Bool.false @Bool.false @Bool.false (0:Int) [(2000:Int),(10:Int),(10:Int)] @Bool.false 0 @Bool.true [] [] 0 @Bool.false)))
abbrev k3:=(@Life.mk [] [] [] 0 (@List.nil (@Prod @Nat @Nat)) [] @Bool.false #[] [] 0 @Bool.false @Bool.false @Bool.false (0:Int) [(2000:Int),(10:Int),(10:Int)] @Bool.false 0 @Bool.true [] [] 0 @Bool.false)
abbrev S_ (t:Params→W.BT) (n k:Nat) (w:World) (o:OsState):W.SharedT:=W.SharedT.mk (t w.params) n k3 g_ d_ k o
abbrev k0 (x0:World) (x1:OsState):=(@Shared.mk (@xr x0.params) g_ d_ 1271 x1)
abbrev k1:=(@W.OpenRow.toRowW (@W.OpenLaw.row @Challenge.rw_oddbases_k35_reckoning_refused))
abbrev k2:=(@Prod (@Prod (@List (@Option @FnShape)) @Bool) (@Prod (@List (@Option @PyProof.Rows.PlainShape)) (@Prod (@List (@Option (@Prod @PyProof.Rows.PlainShape @Bool))) (@Prod (@Prod (@List (@Option @FnShape)) @Bool) (@List (@Prod (@Option (@Prod (@List (@Option @FnShape)) @Bool)) (@Option (@Prod @PyProof.Rows.PlainShape @Bool))))))))
abbrev k4 (x0:World) (x1:OsState):=(@ite @Bool (@Eq @Bool @Bool.true @Bool.true) (@instDecidableEqBool @Bool.true @Bool.true) (@BEq.beq @Nat (@instBEqOfDecidableEq @Nat @instDecidableEqNat) (@Array.size @GenState (@Shared.gens (k0 x0 x1))) 0) (@Bool.not (@leftWithCleanup (@Shared.gens (k0 x0 x1)))))
abbrev k5:=(@Bool.true,((@pinGoodD (@PyProof.Rows.drecsOf @h_view_39)),((@PyProof.Rows.plainGoodE @h_view_39 (@W.looseW @h_view_39 [])),((@PyProof.Rows.plainGoodD @h_view_39 []),((@W.wideGood @h_view_39),(@W.clsGoodW @h_view_39 []))))))
abbrev k6:=(@List (@Prod (@Option (@Prod (@List (@Option @FnShape)) @Bool)) (@Option (@Prod @PyProof.Rows.PlainShape @Bool))))
abbrev k7:=(@Code.body (@W.behindTheImports (k1).1) @yf)
abbrev k8 (x0:World) (x1:OsState):=(@Bool.and (@Bool.and (@Bool.and (@W.staticsOk (@importedModules (@Module.body (@Program.main (k1).1))) (@W.boot_heap x0.params) (@xr x0.params)) (@W.namesBound (k1).1 (@xr x0.params))) (@W.gensDone (k0 x0 x1))) (@W.laidKept (@W.boot_heap x0.params) (@xr x0.params)))
abbrev k9:=(@Prod (@Prod (@Option @Str) (@List (@Prod @Str @Value))) (@Prod @Bool (@Prod @Bool k2)))
abbrev k10 (x0:World) (x1:OsState):=(@PyProof.Rows.plainSeenE @h_view_39 (@W.looseW @h_view_39 []) (k0 x0 x1))
abbrev k11:=(@Eq.refl (@List @Addr) My.myAs)
abbrev k12:=(@importedModules (@Module.body (@Program.main (k1).1)))
abbrev k13 (x0:World) (x1:OsState):=(@pinSeenD @h_view_39 (@PyProof.Rows.drecsOf @h_view_39) (k0 x0 x1))
abbrev k14 (x0:World) (x1:OsState):=(@PyProof.Rows.plainSeenD @h_view_39 [] (k0 x0 x1))
abbrev k15:=(@Prod (@List (@Option @FnShape)) @Bool)
abbrev k16 (x0:World) (x1:OsState):=(@W.clsSeenW @h_view_39 [] (k0 x0 x1))
abbrev k17:=(@List.nil (@Prod @Str @W.WData))
abbrev k18:=(@Prod @Flow (@Prod @W.SharedT (@Prod @Code @Pos)))
abbrev k19 (x0:World) (x1:OsState):=(@W.wideSeen @h_view_39 (k0 x0 x1))
abbrev k20:=(@Nat.add 12 (@Nat.add 1 (@Nat.add 1937 (@Nat.add 1752 (@Nat.add 1811 (@Nat.add 1374 2))))))
abbrev k21:=(@List (@Option (@Prod @PyProof.Rows.PlainShape @Bool)))
abbrev k22:=(@PyProof.Rows.plainGoodE @h_view_39 (@W.looseW @h_view_39 []))
abbrev k23:=(@HAppend.hAppend (@List @Stmt) (@List @Stmt) (@List @Stmt) (@instHAppendOfAppend (@List @Stmt) (@List.instAppend @Stmt)) @uT (@HAppend.hAppend (@List @Stmt) (@List @Stmt) (@List @Stmt) (@instHAppendOfAppend (@List @Stmt) (@List.instAppend @Stmt)) @vh []))
abbrev k24 (x0:World) (x1:OsState):=(S_ n4 131 342 x0 x1)
abbrev k25 (x0:World) (x1:OsState):=(S_ n0 310 572 x0 x1)
abbrev k26 (x0:World) (x1:OsState):=(S_ nZ 531 846 x0 x1)
abbrev k27:=(@PyProof.Rows.clssOf @h_view_39 (@W.looseW @h_view_39 []))
abbrev k28 (x0:World) (x1:OsState):=(S_ kI 15 187 x0 x1)
abbrev k29 (x0:World) (x1:OsState):=(@Shared.mk (@kJ x0.params) g_ d_ 187 x1)
abbrev k30 (x0:World) (x1:OsState):=(@PyProof.Rows.tablesOk @h_view_39 (@Shared.heap (k0 x0 x1)))
abbrev k31 (x0:World) (x1:OsState):=(@PyProof.Rows.tabsOk @h_view_39 (k0 x0 x1))
abbrev k32:=(@PyProof.Rows.plainGoodD @h_view_39 [])
abbrev k33 (x0:World) (x1:OsState):=(@Heap.accountedOkI (@Shared.heap (k0 x0 x1)) k12)
abbrev k34 (x0:World) (x1:OsState):=(S_ nY 812 1271 x0 x1)
abbrev k35 (x0:World) (x1:OsState):=(@Heap.isNs (@Shared.heap (k0 x0 x1)) @mainGlobals)
abbrev k36 (x0:World) (x1:OsState):=(@Heap.isNs (@Shared.heap (k0 x0 x1)) @builtinsNs)
abbrev k37 (x0:World) (x1:OsState):=(@Shared.mk (@W.boot_heap x0.params) g_ @W.boot_drawn @W.boot_toks x1)
abbrev k38:=(@Thread.mk (@denote @treeTable k7) k7 (P_ 0 0 0 0) [(@W.topFrame (P_ 0 0 0 0))])
abbrev k39:=(@Prod @Flow (@Prod @Shared (@Prod @Code @Pos)))
abbrev kh0:=(@W.kHook @h_heap_39 My.myAs (fun x0=>(@id (@Eq (@List @Addr) My.myAs (@List.map (@Prod @Addr @Obj) @Addr (fun (x1:(@Prod @Addr @Obj))=>(@Prod.fst @Addr @Obj x1)) (@h_heap_39 x0))) k11)))
theorem pf_949:((x0:World)→(@Eq ((x1:OsState)→(@W.Hook.α kh0)) (fun x1=>(@W.Hook.obs kh0 (k0 x0 x1))) (fun x1=>(@W.Hook.val kh0 x0)))):=by intros; kernel_rfl
theorem pf_939:((x0:World)→(@Eq ((x1:OsState)→k6) (fun x1=>(k16 x0 x1)) (fun x1=>(@W.clsGoodW @h_view_39 [])))):=by intros; kernel_rfl
theorem pf_937:((x0:World)→(@Eq ((x1:OsState)→k15) (fun x1=>(k19 x0 x1)) (fun x1=>(@W.wideGood @h_view_39)))):=by intros; kernel_rfl
theorem pf_940:((x0:World)→((x1:OsState)→(@Eq (@Prod k15 k6) ((k19 x0 x1),(k16 x0 x1)) ((@W.wideGood @h_view_39),(@W.clsGoodW @h_view_39 []))))):=(fun x0=>(fun x1=>(@W.looks_pair k15 k6 (k19 x0 x1) (@W.wideGood @h_view_39) (k16 x0 x1) (@W.clsGoodW @h_view_39 []) ((fun x2=>(fun x3=>(congrFun (My.pf_937 x2) x3))) x0 x1) ((fun x2=>(fun x3=>(congrFun (My.pf_939 x2) x3))) x0 x1))))
theorem pf_935:((x0:World)→(@Eq ((x1:OsState)→k21) (fun x1=>(k14 x0 x1)) (fun x1=>k32))):=by intros; kernel_rfl
theorem pf_941:((x0:World)→((x1:OsState)→(@Eq (@Prod k21 (@Prod k15 k6)) ((k14 x0 x1),((k19 x0 x1),(k16 x0 x1))) (k32,((@W.wideGood @h_view_39),(@W.clsGoodW @h_view_39 [])))))):=(fun x0=>(fun x1=>(@W.looks_pair k21 (@Prod k15 k6) (k14 x0 x1) k32 ((k19 x0 x1),(k16 x0 x1)) ((@W.wideGood @h_view_39),(@W.clsGoodW @h_view_39 [])) ((fun x2=>(fun x3=>(congrFun (My.pf_935 x2) x3))) x0 x1) (@My.pf_940 x0 x1))))
theorem pf_933:((x0:World)→(@Eq ((x1:OsState)→(@List (@Option @PyProof.Rows.PlainShape))) (fun x1=>(k10 x0 x1)) (fun x1=>k22))):=by intros; kernel_rfl
theorem pf_942:((x0:World)→((x1:OsState)→(@Eq (@Prod (@List (@Option @PyProof.Rows.PlainShape)) (@Prod k21 (@Prod k15 k6))) ((k10 x0 x1),((k14 x0 x1),((k19 x0 x1),(k16 x0 x1)))) (k22,(k32,((@W.wideGood @h_view_39),(@W.clsGoodW @h_view_39 []))))))):=(fun x0=>(fun x1=>(@W.looks_pair (@List (@Option @PyProof.Rows.PlainShape)) (@Prod k21 (@Prod k15 k6)) (k10 x0 x1) k22 ((k14 x0 x1),((k19 x0 x1),(k16 x0 x1))) (k32,((@W.wideGood @h_view_39),(@W.clsGoodW @h_view_39 []))) ((fun x2=>(fun x3=>(congrFun (My.pf_933 x2) x3))) x0 x1) (@My.pf_941 x0 x1))))
theorem pf_931:((x0:World)→(@Eq ((x1:OsState)→k15) (fun x1=>(k13 x0 x1)) (fun x1=>(@pinGoodD (@PyProof.Rows.drecsOf @h_view_39))))):=by intros; kernel_rfl
theorem pf_943:((x0:World)→((x1:OsState)→(@Eq k2 ((k13 x0 x1),((k10 x0 x1),((k14 x0 x1),((k19 x0 x1),(k16 x0 x1))))) ((@pinGoodD (@PyProof.Rows.drecsOf @h_view_39)),(k22,(k32,((@W.wideGood @h_view_39),(@W.clsGoodW @h_view_39 [])))))))):=(fun x0=>(fun x1=>(@W.looks_pair k15 (@Prod (@List (@Option @PyProof.Rows.PlainShape)) (@Prod k21 (@Prod k15 k6))) (k13 x0 x1) (@pinGoodD (@PyProof.Rows.drecsOf @h_view_39)) ((k10 x0 x1),((k14 x0 x1),((k19 x0 x1),(k16 x0 x1)))) (k22,(k32,((@W.wideGood @h_view_39),(@W.clsGoodW @h_view_39 [])))) ((fun x2=>(fun x3=>(congrFun (My.pf_931 x2) x3))) x0 x1) (@My.pf_942 x0 x1))))
theorem pf_929:((x0:World)→(@Eq ((x1:OsState)→@Bool) (fun x1=>(k31 x0 x1)) (fun x1=>@Bool.true))):=by intros; kernel_rfl
theorem pf_944:((x0:World)→((x1:OsState)→(@Eq (@Prod @Bool k2) ((k31 x0 x1),((k13 x0 x1),((k10 x0 x1),((k14 x0 x1),((k19 x0 x1),(k16 x0 x1)))))) k5))):=(fun x0=>(fun x1=>(@W.looks_pair @Bool k2 (k31 x0 x1) @Bool.true ((k13 x0 x1),((k10 x0 x1),((k14 x0 x1),((k19 x0 x1),(k16 x0 x1))))) ((@pinGoodD (@PyProof.Rows.drecsOf @h_view_39)),(k22,(k32,((@W.wideGood @h_view_39),(@W.clsGoodW @h_view_39 []))))) ((fun x2=>(fun x3=>(congrFun (My.pf_929 x2) x3))) x0 x1) (@My.pf_943 x0 x1))))
theorem pf_927:((x0:World)→(@Eq ((x1:OsState)→@Bool) (fun x1=>(@Bool.and (@Bool.and (@Bool.and (@Bool.and (@Bool.and (@Bool.and (@Heap.keysOk (@Shared.heap (k0 x0 x1)) (@W.looseW @h_view_39 []) (@List.map @DefRec @Str (fun (x2:@DefRec)=>(@DefRec.name x2)) (@PyProof.Rows.recsOf @h_view_39)) (@List.map (@Prod @Str @PyData) @Str (fun (x2:(@Prod @Str @PyData))=>(@Prod.fst @Str @PyData x2)) (@PyProof.Rows.litsOf @h_view_39)) (@List.map @ClsRec @Str (fun (x2:@ClsRec)=>(@ClsRec.name x2)) k27)) (k33 x0 x1)) (k35 x0 x1)) (k36 x0 x1)) (k30 x0 x1)) ((fun (x2:@Shared)=>(@Bool.and (@W.xlAt @h_view_39 k17 x2) (@W.recOk (@W.RowW.records k1) x2))) (k0 x0 x1))) (k4 x0 x1))) (fun x1=>@Bool.true))):=by intros; kernel_rfl
theorem pf_945:((x0:World)→((x1:OsState)→(@Eq (@Prod @Bool (@Prod @Bool k2)) ((@Bool.and (@Bool.and (@Bool.and (@Bool.and (@Bool.and (@Bool.and (@Heap.keysOk (@Shared.heap (k0 x0 x1)) (@W.looseW @h_view_39 []) (@List.map @DefRec @Str (fun (x2:@DefRec)=>(@DefRec.name x2)) (@PyProof.Rows.recsOf @h_view_39)) (@List.map (@Prod @Str @PyData) @Str (fun (x2:(@Prod @Str @PyData))=>(@Prod.fst @Str @PyData x2)) (@PyProof.Rows.litsOf @h_view_39)) (@List.map @ClsRec @Str (fun (x2:@ClsRec)=>(@ClsRec.name x2)) k27)) (k33 x0 x1)) (k35 x0 x1)) (k36 x0 x1)) (k30 x0 x1)) ((fun (x2:@Shared)=>(@Bool.and (@W.xlAt @h_view_39 k17 x2) (@W.recOk (@W.RowW.records k1) x2))) (k0 x0 x1))) (k4 x0 x1)),((k31 x0 x1),((k13 x0 x1),((k10 x0 x1),((k14 x0 x1),((k19 x0 x1),(k16 x0 x1))))))) (@Bool.true,k5)))):=(fun x0=>(fun x1=>(@W.looks_pair @Bool (@Prod @Bool k2) (@Bool.and (@Bool.and (@Bool.and (@Bool.and (@Bool.and (@Bool.and (@Heap.keysOk (@Shared.heap (k0 x0 x1)) (@W.looseW @h_view_39 []) (@List.map @DefRec @Str (fun (x2:@DefRec)=>(@DefRec.name x2)) (@PyProof.Rows.recsOf @h_view_39)) (@List.map (@Prod @Str @PyData) @Str (fun (x2:(@Prod @Str @PyData))=>(@Prod.fst @Str @PyData x2)) (@PyProof.Rows.litsOf @h_view_39)) (@List.map @ClsRec @Str (fun (x2:@ClsRec)=>(@ClsRec.name x2)) k27)) (k33 x0 x1)) (k35 x0 x1)) (k36 x0 x1)) (k30 x0 x1)) ((fun (x2:@Shared)=>(@Bool.and (@W.xlAt @h_view_39 k17 x2) (@W.recOk (@W.RowW.records k1) x2))) (k0 x0 x1))) (k4 x0 x1)) @Bool.true ((k31 x0 x1),((k13 x0 x1),((k10 x0 x1),((k14 x0 x1),((k19 x0 x1),(k16 x0 x1)))))) k5 ((fun x2=>(fun x3=>(congrFun (My.pf_927 x2) x3))) x0 x1) (@My.pf_944 x0 x1))))
theorem pf_925:((x0:World)→(@Eq ((x1:OsState)→(@Prod (@Option @Str) (@List (@Prod @Str @Value)))) (fun x1=>(@Heap.bltView (@Shared.heap (k0 x0 x1)))) (fun x1=>@bltViewBooted))):=by intros; kernel_rfl
theorem pf_946:((x0:World)→((x1:OsState)→(@Eq k9 ((@Heap.bltView (@Shared.heap (k0 x0 x1))),((@Bool.and (@Bool.and (@Bool.and (@Bool.and (@Bool.and (@Bool.and (@Heap.keysOk (@Shared.heap (k0 x0 x1)) (@W.looseW @h_view_39 []) (@List.map @DefRec @Str (fun (x2:@DefRec)=>(@DefRec.name x2)) (@PyProof.Rows.recsOf @h_view_39)) (@List.map (@Prod @Str @PyData) @Str (fun (x2:(@Prod @Str @PyData))=>(@Prod.fst @Str @PyData x2)) (@PyProof.Rows.litsOf @h_view_39)) (@List.map @ClsRec @Str (fun (x2:@ClsRec)=>(@ClsRec.name x2)) k27)) (k33 x0 x1)) (k35 x0 x1)) (k36 x0 x1)) (k30 x0 x1)) ((fun (x2:@Shared)=>(@Bool.and (@W.xlAt @h_view_39 k17 x2) (@W.recOk (@W.RowW.records k1) x2))) (k0 x0 x1))) (k4 x0 x1)),((k31 x0 x1),((k13 x0 x1),((k10 x0 x1),((k14 x0 x1),((k19 x0 x1),(k16 x0 x1)))))))) (@bltViewBooted,(@Bool.true,k5))))):=(fun x0=>(fun x1=>(@W.looks_pair (@Prod (@Option @Str) (@List (@Prod @Str @Value))) (@Prod @Bool (@Prod @Bool k2)) (@Heap.bltView (@Shared.heap (k0 x0 x1))) @bltViewBooted ((@Bool.and (@Bool.and (@Bool.and (@Bool.and (@Bool.and (@Bool.and (@Heap.keysOk (@Shared.heap (k0 x0 x1)) (@W.looseW @h_view_39 []) (@List.map @DefRec @Str (fun (x2:@DefRec)=>(@DefRec.name x2)) (@PyProof.Rows.recsOf @h_view_39)) (@List.map (@Prod @Str @PyData) @Str (fun (x2:(@Prod @Str @PyData))=>(@Prod.fst @Str @PyData x2)) (@PyProof.Rows.litsOf @h_view_39)) (@List.map @ClsRec @Str (fun (x2:@ClsRec)=>(@ClsRec.name x2)) k27)) (k33 x0 x1)) (k35 x0 x1)) (k36 x0 x1)) (k30 x0 x1)) ((fun (x2:@Shared)=>(@Bool.and (@W.xlAt @h_view_39 k17 x2) (@W.recOk (@W.RowW.records k1) x2))) (k0 x0 x1))) (k4 x0 x1)),((k31 x0 x1),((k13 x0 x1),((k10 x0 x1),((k14 x0 x1),((k19 x0 x1),(k16 x0 x1))))))) (@Bool.true,k5) ((fun x2=>(fun x3=>(congrFun (My.pf_925 x2) x3))) x0 x1) (@My.pf_945 x0 x1))))
theorem pf_923:((x0:World)→(@Eq ((x1:OsState)→@PyProof.Rows.Seen) (fun x1=>(@PyProof.Rows.seen (@List.map @DefRec @Str (fun (x2:@DefRec)=>(@DefRec.name x2)) (@PyProof.Rows.recsOf @h_view_39)) (@PyProof.Rows.ownsOf @h_view_39) [] (@Shared.mk (@Shared.heap (k0 x0 x1)) #[] (@Shared.drawn (k0 x0 x1)) (@Shared.toks (k0 x0 x1)) (@Shared.os (k0 x0 x1))))) (fun x1=>(@PyProof.Rows.expectedOf @h_view_39)))):=by intros; kernel_rfl
theorem pf_947:((x0:World)→((x1:OsState)→(@Eq (@Prod @PyProof.Rows.Seen k9) (@W.openSeen @h_view_39 [] k12 (fun (x2:@Shared)=>(@Bool.and (@W.xlAt @h_view_39 k17 x2) (@W.recOk (@W.RowW.records k1) x2))) @Bool.true (k0 x0 x1)) (@W.openGood @h_view_39 [])))):=(fun x0=>(fun x1=>(@W.looks_pair @PyProof.Rows.Seen k9 (@PyProof.Rows.seen (@List.map @DefRec @Str (fun (x2:@DefRec)=>(@DefRec.name x2)) (@PyProof.Rows.recsOf @h_view_39)) (@PyProof.Rows.ownsOf @h_view_39) [] (@Shared.mk (@Shared.heap (k0 x0 x1)) #[] (@Shared.drawn (k0 x0 x1)) (@Shared.toks (k0 x0 x1)) (@Shared.os (k0 x0 x1)))) (@PyProof.Rows.expectedOf @h_view_39) ((@Heap.bltView (@Shared.heap (k0 x0 x1))),((@Bool.and (@Bool.and (@Bool.and (@Bool.and (@Bool.and (@Bool.and (@Heap.keysOk (@Shared.heap (k0 x0 x1)) (@W.looseW @h_view_39 []) (@List.map @DefRec @Str (fun (x2:@DefRec)=>(@DefRec.name x2)) (@PyProof.Rows.recsOf @h_view_39)) (@List.map (@Prod @Str @PyData) @Str (fun (x2:(@Prod @Str @PyData))=>(@Prod.fst @Str @PyData x2)) (@PyProof.Rows.litsOf @h_view_39)) (@List.map @ClsRec @Str (fun (x2:@ClsRec)=>(@ClsRec.name x2)) k27)) (k33 x0 x1)) (k35 x0 x1)) (k36 x0 x1)) (k30 x0 x1)) ((fun (x2:@Shared)=>(@Bool.and (@W.xlAt @h_view_39 k17 x2) (@W.recOk (@W.RowW.records k1) x2))) (k0 x0 x1))) (k4 x0 x1)),((k31 x0 x1),((k13 x0 x1),((k10 x0 x1),((k14 x0 x1),((k19 x0 x1),(k16 x0 x1)))))))) (@bltViewBooted,(@Bool.true,k5)) ((fun x2=>(fun x3=>(congrFun (My.pf_923 x2) x3))) x0 x1) (@My.pf_946 x0 x1))))
theorem pf_950:((x0:World)→((x1:OsState)→(@Eq (@Prod (@Prod @PyProof.Rows.Seen k9) (@W.Hook.α kh0)) ((@W.openSeen @h_view_39 [] k12 (fun (x2:@Shared)=>(@Bool.and (@W.xlAt @h_view_39 k17 x2) (@W.recOk (@W.RowW.records k1) x2))) @Bool.true (k0 x0 x1)),(@W.Hook.obs kh0 (k0 x0 x1))) ((@W.openGood @h_view_39 []),(@W.Hook.val kh0 x0))))):=(fun x0=>(fun x1=>(@W.looks_pair (@Prod @PyProof.Rows.Seen k9) (@W.Hook.α kh0) (@W.openSeen @h_view_39 [] k12 (fun (x2:@Shared)=>(@Bool.and (@W.xlAt @h_view_39 k17 x2) (@W.recOk (@W.RowW.records k1) x2))) @Bool.true (k0 x0 x1)) (@W.openGood @h_view_39 []) (@W.Hook.obs kh0 (k0 x0 x1)) (@W.Hook.val kh0 x0) (@My.pf_947 x0 x1) ((fun x2=>(fun x3=>(congrFun (My.pf_949 x2) x3))) x0 x1))))
theorem pf_921:((x0:World)→(@Eq ((x1:OsState)→@Bool) (fun x1=>(k8 x0 x1)) (fun x1=>@Bool.true))):=by intros; kernel_rfl
theorem pf_951:((x0:World)→((x1:OsState)→(@Eq (@Prod @Bool (@Prod (@Prod @PyProof.Rows.Seen k9) (@W.Hook.α kh0))) ((k8 x0 x1),((@W.openSeen @h_view_39 [] k12 (fun (x2:@Shared)=>(@Bool.and (@W.xlAt @h_view_39 k17 x2) (@W.recOk (@W.RowW.records k1) x2))) @Bool.true (k0 x0 x1)),(@W.Hook.obs kh0 (k0 x0 x1)))) (@Bool.true,((@W.openGood @h_view_39 []),(@W.Hook.val kh0 x0)))))):=(fun x0=>(fun x1=>(@W.looks_pair @Bool (@Prod (@Prod @PyProof.Rows.Seen k9) (@W.Hook.α kh0)) (k8 x0 x1) @Bool.true ((@W.openSeen @h_view_39 [] k12 (fun (x2:@Shared)=>(@Bool.and (@W.xlAt @h_view_39 k17 x2) (@W.recOk (@W.RowW.records k1) x2))) @Bool.true (k0 x0 x1)),(@W.Hook.obs kh0 (k0 x0 x1))) ((@W.openGood @h_view_39 []),(@W.Hook.val kh0 x0)) ((fun x2=>(fun x3=>(congrFun (My.pf_921 x2) x3))) x0 x1) (@My.pf_950 x0 x1))))
theorem pf_916:((x0:World)→(@Eq ((x1:OsState)→(@Option @Shared)) (fun x1=>(@W.topRun @treeTable (k1).1 x0 11 v_ 2 (@W.SharedT.abs (k34 x0 x1)) (@Thread.mk (@W.doneF @Flow.next) k7 (P_ 451 0 475 15) [(@W.topFrame (P_ 0 0 0 0))]))) (fun x1=>(@some @Shared (k0 x0 x1))))):=by intros; kernel_rfl
theorem pf_49:((x0:World)→(@Eq ((x1:OsState)→(@Option k39)) (fun x1=>(@W.segRun @treeTable (k1).1 x0 11 v_ 1 1 (k29 x0 x1) (@W.blockOf (@W.behindTheImports (k1).1) @yf k7 (P_ 0 0 0 0) [(@W.topFrame (P_ 0 0 0 0))]))) (fun x1=>(@some k39 (@Flow.next,((@W.SharedT.abs (k28 x0 x1)),(k7,(P_ 0 0 0 0)))))))):=by intros; kernel_rfl
theorem pf_47:((x0:World)→(@Eq ((x1:OsState)→(@Option (@Prod @Shared @Thread))) (fun x1=>(@W.topGo @treeTable (k1).1 x0 11 v_ 12 (k37 x0 x1) (@W.topStub (k1).1))) (fun x1=>(@some (@Prod @Shared @Thread) ((k29 x0 x1),k38))))):=by intros; kernel_rfl
theorem pf_191:((x0:World)→(@Eq ((x1:OsState)→(@Option k18)) (fun x1=>(@W.segRunT @treeTable (k1).1 x0 11 v_ 1 1937 (k28 x0 x1) (@W.piecesOf @oH @yf k7 (P_ 0 0 0 0) [(@W.topFrame (P_ 0 0 0 0))]))) (fun x1=>(@some k18 (@Flow.next,((k24 x0 x1),(k7,(P_ 21 0 22 8)))))))):=by intros; kernel_rfl
theorem pf_389:((x0:World)→(@Eq ((x1:OsState)→(@Option k18)) (fun x1=>(@W.segRunT @treeTable (k1).1 x0 11 v_ 1 1752 (k24 x0 x1) (@W.piecesOf @uU @yf k7 (P_ 21 0 22 8) [(@W.topFrame (P_ 0 0 0 0))]))) (fun x1=>(@some k18 (@Flow.next,((k25 x0 x1),(k7,(P_ 79 0 88 24)))))))):=by intros; kernel_rfl
theorem pf_625:((x0:World)→(@Eq ((x1:OsState)→(@Option k18)) (fun x1=>(@W.segRunT @treeTable (k1).1 x0 11 v_ 1 1811 (k25 x0 x1) (@W.piecesOf @uT @yf k7 (P_ 79 0 88 24) [(@W.topFrame (P_ 0 0 0 0))]))) (fun x1=>(@some k18 (@Flow.next,((k26 x0 x1),(k7,(P_ 144 0 166 30)))))))):=by intros; kernel_rfl
theorem pf_914:((x0:World)→(@Eq ((x1:OsState)→(@Option k18)) (fun x1=>(@W.segRunT @treeTable (k1).1 x0 11 v_ 1 1374 (k26 x0 x1) (@W.piecesOf @vh @yf k7 (P_ 144 0 166 30) [(@W.topFrame (P_ 0 0 0 0))]))) (fun x1=>(@some k18 (@Flow.next,((k34 x0 x1),(k7,(P_ 451 0 475 15)))))))):=by intros; kernel_rfl
theorem pf_917:((x0:World)→((x1:OsState)→(@Eq (@Option @Shared) (@W.topRun @treeTable (k1).1 x0 11 v_ k20 (k37 x0 x1) (@W.topStub (k1).1)) (@some @Shared (k0 x0 x1))))):=(fun x0=>(fun x1=>(@W.go_top @treeTable (k1).1 x0 11 v_ 12 (@Nat.add 1 (@Nat.add 1937 (@Nat.add 1752 (@Nat.add 1811 (@Nat.add 1374 2))))) (k37 x0 x1) (k29 x0 x1) (k0 x0 x1) (@W.topStub (k1).1) k38 (congrFun (My.pf_47 x0) x1) (@W.piece_block @treeTable (k1).1 x0 11 v_ @yf (P_ 0 0 0 0) 1 (@Nat.add 1937 (@Nat.add 1752 (@Nat.add 1811 (@Nat.add 1374 2)))) (k29 x0 x1) (@W.SharedT.abs (k28 x0 x1)) (k0 x0 x1) (@W.behindTheImports (k1).1) k7 (P_ 0 0 0 0) (P_ 0 0 0 0) (congrFun (My.pf_49 x0) x1) (@W.piece_app @treeTable (k1).1 x0 11 v_ @yf (P_ 0 0 0 0) 1937 (@Nat.add 1752 (@Nat.add 1811 (@Nat.add 1374 2))) (@W.SharedT.abs (k28 x0 x1)) (@W.SharedT.abs (k24 x0 x1)) (k0 x0 x1) @oH (@HAppend.hAppend (@List @Stmt) (@List @Stmt) (@List @Stmt) (@instHAppendOfAppend (@List @Stmt) (@List.instAppend @Stmt)) @uU k23) k7 (P_ 0 0 0 0) (P_ 21 0 22 8) (My.sg_ (congrFun (My.pf_191 x0) x1)) (@W.piece_app @treeTable (k1).1 x0 11 v_ @yf (P_ 0 0 0 0) 1752 (@Nat.add 1811 (@Nat.add 1374 2)) (@W.SharedT.abs (k24 x0 x1)) (@W.SharedT.abs (k25 x0 x1)) (k0 x0 x1) @uU k23 k7 (P_ 21 0 22 8) (P_ 79 0 88 24) (My.sg_ (congrFun (My.pf_389 x0) x1)) (@W.piece_app @treeTable (k1).1 x0 11 v_ @yf (P_ 0 0 0 0) 1811 (@Nat.add 1374 2) (@W.SharedT.abs (k25 x0 x1)) (@W.SharedT.abs (k26 x0 x1)) (k0 x0 x1) @uT (@HAppend.hAppend (@List @Stmt) (@List @Stmt) (@List @Stmt) (@instHAppendOfAppend (@List @Stmt) (@List.instAppend @Stmt)) @vh []) k7 (P_ 79 0 88 24) (P_ 144 0 166 30) (My.sg_ (congrFun (My.pf_625 x0) x1)) (@W.piece_app @treeTable (k1).1 x0 11 v_ @yf (P_ 0 0 0 0) 1374 2 (@W.SharedT.abs (k26 x0 x1)) (@W.SharedT.abs (k34 x0 x1)) (k0 x0 x1) @vh [] k7 (P_ 144 0 166 30) (P_ 451 0 475 15) (My.sg_ (congrFun (My.pf_914 x0) x1)) (congrFun (My.pf_916 x0) x1)))))))))
theorem pf_919:((x0:World)→(@Eq (@Prod @Bool (@Prod @Nat (@Option @Value))) ((@Bool.and (@Heap.isNs (@W.boot_heap x0.params) @mainGlobals) (@BEq.beq @Nat (@instBEqOfDecidableEq @Nat @instDecidableEqNat) (@Array.size @GenState g_) 0)),((@Array.size @Obj (@Heap.objs (@W.boot_heap x0.params))),(@Heap.nsMap (@W.boot_heap x0.params) @mainGlobals (.ofString "__annotations__")))) (@Bool.true,(11,v_)))):=by intros; kernel_rfl
theorem pf_43:((x0:@Shared)→(@Eq (@Option @Shared) (@fenceModules? (k1).1 x0) (@some @Shared x0))):=by intros; kernel_rfl
theorem pf_42:(@Eq @Program (@W.opening (k1).1) (@W.plainProg (@Scope.names (@Module.scope (@Program.main (k1).1))))):=by intros; kernel_rfl
theorem left:(@W.LeftO (k1).1 @h_view_39 [] (fun (x0:@Shared)=>(@Bool.and (@W.xlAt @h_view_39 k17 x0) (@W.recOk (@W.RowW.records k1) x0))) (@W.Hook.α kh0) (@W.Hook.obs kh0) (@W.Hook.val kh0) 13824 @Bool.true):=(@W.LeftO.of_pieces (k1).1 @h_view_39 [] (fun (x0:@Shared)=>(@Bool.and (@W.xlAt @h_view_39 k17 x0) (@W.recOk (@W.RowW.records k1) x0))) (@W.Hook.α kh0) (@W.Hook.obs kh0) (@W.Hook.val kh0) 13824 @Bool.true @W.boot_heap @xr g_ g_ @W.boot_drawn d_ @W.boot_toks 1271 11 v_ k20 (@W.boot_open (k1).1 13824 @My.pf_42 (@of_decide_eq_true (@Eq @Bool (@Nat.ble 600 13824) @Bool.true) (@instDecidableEqBool (@Nat.ble 600 13824) @Bool.true) (@id (@Eq @Bool (@Decidable.decide (@Eq @Bool (@Nat.ble 600 13824) @Bool.true) (@instDecidableEqBool (@Nat.ble 600 13824) @Bool.true)) @Bool.true) (@Eq.refl @Bool @Bool.true))) @My.pf_43) @My.pf_919 @My.pf_917 (@of_decide_eq_true (@Eq @Bool (@Nat.ble k20 13824) @Bool.true) (@instDecidableEqBool (@Nat.ble k20 13824) @Bool.true) (@id (@Eq @Bool (@Decidable.decide (@Eq @Bool (@Nat.ble k20 13824) @Bool.true) (@instDecidableEqBool (@Nat.ble k20 13824) @Bool.true)) @Bool.true) (@Eq.refl @Bool @Bool.true))) (fun x0=>(@funext @OsState (fun x1=>(@Prod @Bool (@Prod (@Prod @PyProof.Rows.Seen k9) (@W.Hook.α kh0)))) (fun x1=>((k8 x0 x1),((@W.openSeen @h_view_39 [] k12 (fun (x2:@Shared)=>(@Bool.and (@W.xlAt @h_view_39 k17 x2) (@W.recOk (@W.RowW.records k1) x2))) @Bool.true (k0 x0 x1)),(@W.Hook.obs kh0 (k0 x0 x1))))) (fun x1=>(@Bool.true,((@W.openGood @h_view_39 []),(@W.Hook.val kh0 x0)))) (fun x1=>(@My.pf_951 x0 x1)))))
end My
end
theorem My.myE:∀ P,My.myAs=(My.h_heap_39 P).map (·.1):=fun _=>by kernel_rfl
set_option maxRecDepth 100000
set_option maxHeartbeats 4000000
namespace OD
open PySem PySem.Spec PyProof.Rows L2
abbrev St:=L2.St
noncomputable def Zx (X:Cx):Hp:=if X.stack.length=X.outer.length∨X.fn ""=false then (fun _=>none) else X.H₀
theorem kS {CX:CXT} {P:Program} {w:World} {K:PySem.W.Frag} {mg:Str→Option Value} {base:Heap} {N:List Str} {qual:Str} {scope:Scope} {f:Addr} {cd:Value} {A:Around} {outer:List Env} {s:Shared} {H:Hp} {E:XK}:Zx (yC CX P w K mg base N qual scope f cd A outer s H E)=H:=if_neg (fun z=>z.elim (Nat.succ_ne_self _) (fun z=>Bool.noConfusion z))
theorem tY {X:Cx} (h:X.stack.length≠X.outer.length) (hf:X.fn ""=true:=by rfl):Zx X=X.H₀:=if_neg (fun z=>z.elim h (fun z=>by rw [hf] at z; cases z))
variable {Z:Hp}
inductive Dt where
 | non | bl (b:Bool) | int (i:Int) | str (x:Str) | tup (ds:List Dt) | lst (ds:List Dt) | scr (ns:List Int) | way (C:Addr) (f:Str) (n:Int) | exc (C:Addr)
def excAt (a C:Addr):Heap→Prop:=fun h=>∃ o,h.get? a=some o∧o.cls=.ref C
mutual
def Is (K:PySem.W.Frag) (H:Hp):Dt→V→Prop
 | .non,v=>v=.non
 | .bl b,v=>v=.bl b
 | .int i,v=>v=.int i
 | .str x,v=>v=.str x
 | .tup ds,v=>∃ a xs,v=.ref a∧H a=some (.tup xs)∧AllIs K H ds xs
 | .lst ds,v=>∃ a xs,v=.ref a∧H a=some (.lst xs)∧AllIs K H ds xs
 | .scr ns,v=>∃ a,v=.ref a∧SqL K H a (ns.map V.int)
 | .way C f n,v=>∃ a dx,v=.ref a∧H a=some (.ins C dx [(f,.int n)])
 | .exc C,v=>∃ a,v=.ref a∧H a=some (.ext (excAt a C))
def AllIs (K:PySem.W.Frag) (H:Hp):List Dt→List V→Prop
 | [],xs=>xs=[]
 | d::ds,xs=>∃ x r,xs=x::r∧Is K H d x∧AllIs K H ds r
end
variable {K:PySem.W.Frag} {H H' H1 H2:Hp}
theorem is_non {v:V}:Is K H .non v↔v=.non:=by unfold Is; exact Iff.rfl
theorem is_bl {b:Bool} {v:V}:Is K H (.bl b) v↔v=.bl b:=by unfold Is; exact Iff.rfl
theorem is_int {i:Int} {v:V}:Is K H (.int i) v↔v=.int i:=by unfold Is; exact Iff.rfl
theorem is_str {x:Str} {v:V}:Is K H (.str x) v↔v=.str x:=by unfold Is; exact Iff.rfl
theorem is_tup {ds:List Dt} {v:V}:Is K H (.tup ds) v↔∃ a xs,v=.ref a∧H a=some (.tup xs)∧AllIs K H ds xs:=by
 constructor
 ·intro h; unfold Is at h; exact h
 ·intro h; unfold Is; exact h
theorem is_lst {ds:List Dt} {v:V}:Is K H (.lst ds) v↔∃ a xs,v=.ref a∧H a=some (.lst xs)∧AllIs K H ds xs:=by
 constructor
 ·intro h; unfold Is at h; exact h
 ·intro h; unfold Is; exact h
theorem is_scr {ns:List Int} {v:V}:Is K H (.scr ns) v↔∃ a,v=.ref a∧SqL K H a (ns.map V.int):=by
 constructor
 ·intro h; unfold Is at h; exact h
 ·intro h; unfold Is; exact h
theorem is_way {C:Addr} {f:Str} {n:Int} {v:V}:Is K H (.way C f n) v↔∃ a dx,v=.ref a∧H a=some (.ins C dx [(f,.int n)]):=by
 constructor
 ·intro h; unfold Is at h; exact h
 ·intro h; unfold Is; exact h
theorem is_exc {C:Addr} {v:V}:Is K H (.exc C) v↔∃ a,v=.ref a∧H a=some (.ext (excAt a C)):=by
 constructor
 ·intro h; unfold Is at h; exact h
 ·intro h; unfold Is; exact h
theorem allIs_nil {xs:List V}:AllIs K H [] xs↔xs=[]:=by unfold AllIs; exact Iff.rfl
theorem allIs_cons {d:Dt} {ds:List Dt} {xs:List V}:AllIs K H (d::ds) xs↔∃ x r,xs=x::r∧Is K H d x∧AllIs K H ds r:=by
 constructor
 ·intro h; unfold AllIs at h; exact h
 ·intro h; unfold AllIs; exact h
mutual
theorem Is.mono0 (s:Same H H'):∀ {d:Dt} {v:V},Is K H d v→Is K H' d v
 | .non,_,h=>is_non.mpr (is_non.mp h)
 | .bl _,_,h=>is_bl.mpr (is_bl.mp h)
 | .int _,_,h=>is_int.mpr (is_int.mp h)
 | .str _,_,h=>is_str.mpr (is_str.mp h)
 | .tup ds,_,h=>by
  obtain ⟨a,xs,e,h1,h2⟩:=is_tup.mp h
  exact is_tup.mpr ⟨a,xs,e,s _ _ h1,AllIs.mono0 s h2⟩
 | .lst ds,_,h=>by
  obtain ⟨a,xs,e,h1,h2⟩:=is_lst.mp h
  exact is_lst.mpr ⟨a,xs,e,s _ _ h1,AllIs.mono0 s h2⟩
 | .scr ns,_,h=>by
  obtain ⟨a,e,h1⟩:=is_scr.mp h
  exact is_scr.mpr ⟨a,e,s.seq h1⟩
 | .way C f n,_,h=>by
  obtain ⟨a,dx,e,h1⟩:=is_way.mp h
  exact is_way.mpr ⟨a,dx,e,s _ _ h1⟩
 | .exc C,_,h=>by
  obtain ⟨a,e,h1⟩:=is_exc.mp h
  exact is_exc.mpr ⟨a,e,s _ _ h1⟩
theorem AllIs.mono0 (s:Same H H'):∀ {ds:List Dt} {xs:List V},AllIs K H ds xs→AllIs K H' ds xs
 | [],_,h=>allIs_nil.mpr (allIs_nil.mp h)
 | d::ds,_,h=>by
  obtain ⟨x,r,e,h1,h2⟩:=allIs_cons.mp h
  exact allIs_cons.mpr ⟨x,r,e,Is.mono0 s h1,AllIs.mono0 s h2⟩
end
theorem AllIs.length:∀ {ds:List Dt} {xs:List V},AllIs K H ds xs→ds.length=xs.length
 | [],_,h=>by rw [allIs_nil.mp h]; rfl
 | d::ds,_,h=>by
  obtain ⟨x,r,rfl,_,h2⟩:=allIs_cons.mp h
  rw [List.length_cons,List.length_cons,AllIs.length h2]
theorem AllIs.get:∀ {ds:List Dt} {xs:List V} {i:Nat} {d:Dt},AllIs K H ds xs→ds[i]? = some d→∃ v,xs[i]? = some v∧Is K H d v
 | [],_,_,_,_,e=>by simp at e
 | d::ds,_,0,d',h,e=>by
  obtain ⟨x,r,rfl,h1,h2⟩:=allIs_cons.mp h
  simp at e; subst e
  exact ⟨x,rfl,h1⟩
 | d::ds,_,i+1,d',h,e=>by
  obtain ⟨x,r,rfl,h1,h2⟩:=allIs_cons.mp h
  obtain ⟨v,e1,e2⟩:=AllIs.get (i:=i) h2 (by simpa using e)
  exact ⟨v,by simpa using e1,e2⟩
theorem AllIs.get':∀ {ds:List Dt} {xs:List V} {i:Nat} {v:V},AllIs K H ds xs→xs[i]? = some v→∃ d,ds[i]? = some d∧Is K H d v
 | [],_,_,_,h,e=>by rw [allIs_nil.mp h] at e; simp at e
 | d::ds,_,0,v,h,e=>by
  obtain ⟨x,r,rfl,h1,h2⟩:=allIs_cons.mp h
  simp at e; subst e
  exact ⟨d,rfl,h1⟩
 | d::ds,_,i+1,v,h,e=>by
  obtain ⟨x,r,rfl,h1,h2⟩:=allIs_cons.mp h
  obtain ⟨v,e1,e2⟩:=AllIs.get' (i:=i) h2 (by simpa using e)
  exact ⟨v,by simpa using e1,e2⟩
theorem AllIs.append:∀ {ds es:List Dt} {xs ys:List V},AllIs K H ds xs→AllIs K H es ys→AllIs K H (ds++es) (xs++ys)
 | [],_,_,_,h,h'=>by rw [allIs_nil.mp h]; exact h'
 | d::ds,_,_,_,h,h'=>by
  obtain ⟨x,r,rfl,h1,h2⟩:=allIs_cons.mp h
  exact allIs_cons.mpr ⟨x,_,rfl,h1,AllIs.append h2 h'⟩
theorem AllIs.drop:∀ {ds:List Dt} {xs:List V} (n:Nat),AllIs K H ds xs→AllIs K H (ds.drop n) (xs.drop n)
 | _,_,0,h=>h
 | [],_,n+1,h=>by rw [allIs_nil.mp h]; exact allIs_nil.mpr rfl
 | d::ds,_,n+1,h=>by
  obtain ⟨x,r,rfl,h1,h2⟩:=allIs_cons.mp h
  exact AllIs.drop n h2
theorem AllIs.take:∀ {ds:List Dt} {xs:List V} (n:Nat),AllIs K H ds xs→AllIs K H (ds.take n) (xs.take n)
 | _,_,0,_=>allIs_nil.mpr rfl
 | [],_,n+1,h=>by rw [allIs_nil.mp h]; exact allIs_nil.mpr rfl
 | d::ds,_,n+1,h=>by
  obtain ⟨x,r,rfl,h1,h2⟩:=allIs_cons.mp h
  exact allIs_cons.mpr ⟨x,_,rfl,h1,AllIs.take n h2⟩
theorem AllIs.ints:∀ {ns:List Int},AllIs K H (ns.map Dt.int) (ns.map V.int)
 | []=>allIs_nil.mpr rfl
 | n::ns=>allIs_cons.mpr ⟨.int n,_,rfl,is_int.mpr rfl,AllIs.ints⟩
theorem AllIs.atI {ds:List Dt} {xs:List V} {i:Int} {d:Dt} (h:AllIs K H ds xs) (e:L2.atI ds i=some d):∃ v,L2.atI xs i=some v∧Is K H d v:=by
 unfold L2.atI at e ⊢
 rw [← h.length]
 cases q:ixN ds.length i with
 | none=>rw [q] at e; cases e
 | some j=>
  rw [q] at e
  exact h.get e
theorem AllIs.one {d:Dt} {xs:List V} (h:AllIs K H [d] xs):∃ v,xs=[v]∧Is K H d v:=by
 obtain ⟨x,r,rfl,h1,h2⟩:=allIs_cons.mp h
 rw [allIs_nil.mp h2]
 exact ⟨x,rfl,h1⟩
theorem AllIs.two {d e:Dt} {xs:List V} (h:AllIs K H [d,e] xs):∃ v u,xs=[v,u]∧Is K H d v∧Is K H e u:=by
 obtain ⟨x,r,rfl,h1,h2⟩:=allIs_cons.mp h
 obtain ⟨u,rfl,h3⟩:=h2.one
 exact ⟨x,u,rfl,h1,h3⟩
theorem zN {p:Addr} (h:H p=none) (o:HO):Same H (upd H p o):=fun b u q=>by rw [zu (zW q h)]; exact q
structure Vw where
 g:Hp
 h:Hp
 sub:Same g h
structure Le (W W':Vw):Prop where
 g:Same W.g W'.g
 h:Same W.h W'.h
 n:∀ a,W.h a≠none→W.g a=none→W'.g a=none
theorem Le.refl (W:Vw):Le W W:=⟨Same.refl _,Same.refl _,fun _ _ h=>h⟩
theorem Le.trans {W W1 W2:Vw} (a:Le W W1) (b:Le W1 W2):Le W W2:=
 ⟨a.g.trans b.g,a.h.trans b.h,fun c h1 h2=>b.n c (fun z=>h1 (a.h.free z)) (a.n c h1 h2)⟩
theorem Is.mono {W W':Vw} {d:Dt} {v:V} (h:Is K W.g d v) (s:Le W W'):Is K W'.g d v:=Is.mono0 s.g h
theorem AllIs.mono {W W':Vw} {d:List Dt} {v:List V} (h:AllIs K W.g d v) (s:Le W W'):AllIs K W'.g d v:=AllIs.mono0 s.g h
def Vw.new (W:Vw) (p:Addr) (o:HO):Vw:=⟨upd W.g p o,upd W.h p o,fun b u q=>by
 by_cases e:b=p
 ·subst e; rw [zw] at q ⊢; exact q
 ·rw [zu e] at q ⊢; exact W.sub _ _ q⟩
theorem vK {W:Vw} {p:Addr} (hp:W.h p=none) (o:HO):Le W (W.new p o):=
 ⟨zN (W.sub.free hp) o,zN hp o,fun a h1 h2=>by
  have:a≠p:=fun e=>h1 (e ▸ hp)
  show upd W.g p o a=none
  rw [zu this]; exact h2⟩
def Vw.mine (W:Vw) (p:Addr) (o:HO) (hp:W.g p=none):Vw:=⟨W.g,upd W.h p o,fun b u q=>by
 have:b≠p:=fun e=>by rw [e,hp] at q; cases q
 rw [zu this]; exact W.sub _ _ q⟩
theorem qW {W:Vw} {p:Addr} (hp:W.h p=none) (o:HO):Le W (W.mine p o (W.sub.free hp)):=
 ⟨Same.refl _,zN hp o,fun _ _ h=>h⟩
def Vw.frz (W:Vw) (p:Addr) (o:HO) (hp:W.h p=some o):Vw:=⟨upd W.g p o,W.h,fun b u q=>by
 by_cases e:b=p
 ·subst e; rw [zw] at q; rw [hp]; exact q
 ·rw [zu e] at q; exact W.sub _ _ q⟩
inductive Sl where | none | some (d:Dt) | own (ds:List Dt) | arg (a:Addr) (ds:List Dt)
abbrev DS:=List Sl
structure Rl (K:PySem.W.Frag) (Z F:Hp) (W:Vw) (ρ:DS) (σ:St):Prop where
 len:ρ.length=σ.length
 at_:∀ (i:Nat) (d:Dt),ρ[i]? = some (.some d)→∃ v,σ[i]? = some (some v)∧Is K W.g d v
 ow:∀ (i:Nat) (ds:List Dt),ρ[i]? = some (.own ds)→∃ a xs,σ[i]? = some (some (.ref a))∧W.h a=some (.lst xs)∧W.g a=none∧F a=none∧AllIs K W.g ds xs
 ne:∀ (i j:Nat) (ds es:List Dt),i≠j→ρ[i]? = some (.own ds)→ρ[j]? = some (.own es)→σ[i]?≠σ[j]?
 fr:Same F W.h
 z:Same Z F
 ar:∀ (i:Nat) (a:Addr) (ds:List Dt),ρ[i]? = some (.arg a ds)→(∃ xs,σ[i]? = some (some (.ref a))∧W.h a=some (.lst xs)∧W.g a=none∧F a=none∧AllIs K W.g ds xs)∧(∀ (j:Nat) (es:List Dt),ρ[j]? = some (.own es)→σ[j]?≠some (some (.ref a)))∧∀ (j:Nat) (b:Addr) (es:List Dt),ρ[j]? = some (.arg b es)→j=i
variable {F:Hp} {W W':Vw}
theorem Rl.mono {ρ:DS} {σ:St} (r:Rl K Z F W ρ σ) (s:Le W W'):Rl K Z F W' ρ σ:=
 ⟨r.len,fun i d e=>let ⟨v,h1,h2⟩:=r.at_ i d e; ⟨v,h1,h2.mono s⟩,
  fun i ds e=>let ⟨a,xs,h1,h2,h3,h4,h5⟩:=r.ow i ds e; ⟨a,xs,h1,s.h _ _ h2,s.n a (by rw [h2]; intro z; cases z) h3,h4,h5.mono s⟩,r.ne,r.fr.trans s.h,r.z,
  fun i a ds e=>let ⟨⟨xs,h1,h2,h3,h4,h5⟩,k1,k2⟩:=r.ar i a ds e; ⟨⟨xs,h1,s.h _ _ h2,s.n a (by rw [h2]; intro z; cases z) h3,h4,h5.mono s⟩,k1,k2⟩⟩
theorem zm {α:Type} {l:List α} {i j:Nat} {x y:α} (q:(l.set i x)[j]? = some y):(i=j∧i<l.length∧x=y)∨(i≠j∧l[j]? = some y):=by
 by_cases hij:i=j
 ·subst hij
  by_cases hl:i<l.length
  ·rw [List.getElem?_set_self hl] at q
   exact .inl ⟨rfl,hl,Option.some.inj q⟩
  ·rw [List.getElem?_eq_none (by rw [List.length_set]; omega)] at q
   cases q
 ·rw [List.getElem?_set_ne hij] at q
  exact .inr ⟨hij,q⟩
theorem Rl.set {ρ:DS} {σ:St} (r:Rl K Z F W ρ σ) {d:Dt} {v:V} (i:Nat) (h:Is K W.g d v):Rl K Z F W (ρ.set i (.some d)) (σ.set i (some v)):=by
 refine ⟨by rw [List.length_set,List.length_set]; exact r.len,fun j e q=>?_,fun j ds q=>?_,fun j k ds es hjk q1 q2=>?_,r.fr,r.z,fun j a ds q=>?_⟩
 ·rcases zm q with ⟨rfl,hl,e1⟩ | ⟨hij,q⟩
  ·cases e1
   exact ⟨v,by rw [List.getElem?_set_self (by rw [← r.len]; exact hl)],h⟩
  ·rw [List.getElem?_set_ne hij]
   exact r.at_ j e q
 ·rcases zm q with ⟨_,_,e1⟩ | ⟨hij,q⟩
  ·cases e1
  ·rw [List.getElem?_set_ne hij]
   exact r.ow j ds q
 ·rcases zm q1 with ⟨_,_,e1⟩ | ⟨hij,q1⟩
  ·cases e1
  rcases zm q2 with ⟨_,_,e1⟩ | ⟨hik,q2⟩
  ·cases e1
  rw [List.getElem?_set_ne hij,List.getElem?_set_ne hik]
  exact r.ne j k ds es hjk q1 q2
 ·rcases zm q with ⟨_,_,e1⟩ | ⟨hij,q⟩
  ·cases e1
  obtain ⟨⟨xs,h1,h2⟩,k1,k2⟩:=r.ar j a ds q
  refine ⟨⟨xs,by rw [List.getElem?_set_ne hij]; exact h1,h2⟩,fun k es q'=>?_,fun k c es q'=>?_⟩
  ·rcases zm q' with ⟨_,_,e1⟩ | ⟨hik,q'⟩
   ·cases e1
   rw [List.getElem?_set_ne hik]
   exact k1 k es q'
  ·rcases zm q' with ⟨_,_,e1⟩ | ⟨hik,q'⟩
   ·cases e1
   exact k2 k c es q'
theorem Rl.own {ρ:DS} {σ:St} (r:Rl K Z F W ρ σ) (s:Le W W') {p:Addr} {xs:List V} {ds:List Dt} (i:Nat) (h0:W.h p=none) (h1:W'.h p=some (.lst xs)) (h2:W'.g p=none) (h3:AllIs K W'.g ds xs):
  Rl K Z F W' (ρ.set i (.own ds)) (σ.set i (some (.ref p))):=by
 have r':=r.mono s
 have nep:∀ (j:Nat) (es:List Dt),ρ[j]? = some (Sl.own es)→σ[j]?≠some (some (V.ref p)):=fun j es q z=>by
  obtain ⟨a,ys,e1,e2,_⟩:=r.ow j es q
  rw [z] at e1
  cases e1
  rw [h0] at e2
  cases e2
 refine ⟨by rw [List.length_set,List.length_set]; exact r.len,fun j e q=>?_,fun j es q=>?_,fun j k es es' hjk q1 q2=>?_,r'.fr,r.z,fun j a fs q=>?_⟩
 ·rcases zm q with ⟨_,_,e1⟩ | ⟨hij,q⟩
  ·cases e1
  ·rw [List.getElem?_set_ne hij]
   exact r'.at_ j e q
 ·rcases zm q with ⟨rfl,hl,e1⟩ | ⟨hij,q⟩
  ·cases e1
   exact ⟨p,xs,by rw [List.getElem?_set_self (by rw [← r.len]; exact hl)],h1,h2,r.fr.free h0,h3⟩
  ·rw [List.getElem?_set_ne hij]
   exact r'.ow j es q
 ·rcases zm q1 with ⟨rfl,hl,e1⟩ | ⟨hij,q1⟩
  ·rcases zm q2 with ⟨rfl,_,_⟩ | ⟨hik,q2⟩
   ·exact absurd rfl hjk
   ·rw [List.getElem?_set_self (by rw [← r.len]; exact hl),List.getElem?_set_ne hik]
    exact fun z=>nep k es' q2 z.symm
  ·rcases zm q2 with ⟨rfl,hl,_⟩ | ⟨hik,q2⟩
   ·rw [List.getElem?_set_self (by rw [← r.len]; exact hl),List.getElem?_set_ne hij]
    exact nep j es q1
   ·rw [List.getElem?_set_ne hij,List.getElem?_set_ne hik]
    exact r.ne j k es es' hjk q1 q2
 ·rcases zm q with ⟨_,_,e1⟩ | ⟨hij,q⟩
  ·cases e1
  obtain ⟨⟨ys,g1,g2⟩,k1,k2⟩:=r'.ar j a fs q
  obtain ⟨⟨_,_,g3,_⟩,_,_⟩:=r.ar j a fs q
  refine ⟨⟨ys,by rw [List.getElem?_set_ne hij]; exact g1,g2⟩,fun k es q'=>?_,fun k c es q'=>?_⟩
  ·rcases zm q' with ⟨rfl,hl,e1⟩ | ⟨hik,q'⟩
   ·rw [List.getElem?_set_self (by rw [← r.len]; exact hl)]
    intro z
    cases z
    rw [h0] at g3
    cases g3
   ·rw [List.getElem?_set_ne hik]
    exact k1 k es q'
  ·rcases zm q' with ⟨_,_,e1⟩ | ⟨hik,q'⟩
   ·cases e1
   exact k2 k c es q'
theorem Rl.put {ρ:DS} {σ:St} (r:Rl K Z F W ρ σ) {i:Nat} {ds es:List Dt} {a:Addr} {ys:List V} (hi:ρ[i]? = some (.own ds)) (ha:σ[i]? = some (some (.ref a))) (hg:W.g a=none) (hF:F a=none) (h3:AllIs K W.g es ys):
  Rl K Z F (W.mine a (.lst ys) hg) (ρ.set i (.own es)) σ:=by
 have hl:i<ρ.length:=by
  rcases Nat.lt_or_ge i ρ.length with h | h
  ·exact h
  ·rw [List.getElem?_eq_none h] at hi; cases hi
 have other:∀ j fs,j≠i→ρ[j]? = some (.own fs)→σ[j]?≠some (some (.ref a)):=fun j fs hj q z=>r.ne j i fs ds hj q hi (z.trans ha.symm)
 refine ⟨by rw [List.length_set]; exact r.len,fun j e q=>?_,fun j fs q=>?_,fun j k fs fs' hjk q1 q2=>?_,fun p o q=>?_,r.z,fun j c fs q=>?_⟩
 ·rcases zm q with ⟨_,_,e1⟩ | ⟨hij,q⟩
  ·cases e1
  ·exact r.at_ j e q
 ·rcases zm q with ⟨rfl,_,e1⟩ | ⟨hij,q⟩
  ·cases e1
   exact ⟨a,ys,ha,zw,hg,hF,h3⟩
  ·obtain ⟨b,xs,e1,e2,e3,e4,e5⟩:=r.ow j fs q
   have hb:b≠a:=fun z=>other j fs (fun z=>hij z.symm) q (z ▸ e1)
   exact ⟨b,xs,e1,(zu hb).trans e2,e3,e4,e5⟩
 ·have k1:∃ gs,ρ[j]? = some (.own gs):=by
   rcases zm q1 with ⟨rfl,_,_⟩ | ⟨_,q⟩
   ·exact ⟨_,hi⟩
   ·exact ⟨_,q⟩
  have k2:∃ gs,ρ[k]? = some (.own gs):=by
   rcases zm q2 with ⟨rfl,_,_⟩ | ⟨_,q⟩
   ·exact ⟨_,hi⟩
   ·exact ⟨_,q⟩
  obtain ⟨_,k1⟩:=k1
  obtain ⟨_,k2⟩:=k2
  exact r.ne j k _ _ hjk k1 k2
 ·have e:p≠a:=fun e=>by rw [e,hF] at q; cases q
  exact (zu (H:=W.h) (o:=.lst ys) e).trans (r.fr p o q)
 ·rcases zm q with ⟨_,_,e1⟩ | ⟨hij,q⟩
  ·cases e1
  obtain ⟨⟨ys',g1,g2,g3,g4,g5⟩,k1,k2⟩:=r.ar j c fs q
  have hc:c≠a:=fun z=>k1 i ds hi (by rw [z]; exact ha)
  refine ⟨⟨ys',g1,(zu hc).trans g2,g3,g4,g5⟩,fun k es' q'=>?_,fun k c' es' q'=>?_⟩
  ·rcases zm q' with ⟨rfl,_,_⟩ | ⟨_,q'⟩
   ·exact k1 i ds hi
   ·exact k1 k es' q'
  ·rcases zm q' with ⟨_,_,e1⟩ | ⟨hik,q'⟩
   ·cases e1
   exact k2 k c' es' q'
theorem Rl.frz {ρ:DS} {σ:St} (r:Rl K Z F W ρ σ) {i:Nat} {ds:List Dt} {a:Addr} {xs:List V} (hi:ρ[i]? = some (.own ds)) (ha:σ[i]? = some (some (.ref a))) (hh:W.h a=some (.lst xs)) (hg:W.g a=none) (h3:AllIs K W.g ds xs):
  Rl K Z F (W.frz a _ hh) (ρ.set i (.some (.lst ds))) σ:=by
 have sg:Same W.g (upd W.g a (.lst xs)):=zN hg _
 have other:∀ j fs,j≠i→ρ[j]? = some (.own fs)→σ[j]?≠some (some (.ref a)):=fun j fs hj q z=>r.ne j i fs ds hj q hi (z.trans ha.symm)
 refine ⟨by rw [List.length_set]; exact r.len,fun j e q=>?_,fun j fs q=>?_,fun j k fs fs' hjk q1 q2=>?_,r.fr,r.z,fun j c fs q=>?_⟩
 ·rcases zm q with ⟨rfl,_,e1⟩ | ⟨hij,q⟩
  ·cases e1
   exact ⟨_,ha,is_lst.mpr ⟨a,xs,rfl,zw,AllIs.mono0 sg h3⟩⟩
  ·obtain ⟨v,e1,e2⟩:=r.at_ j e q
   exact ⟨v,e1,Is.mono0 sg e2⟩
 ·rcases zm q with ⟨_,_,e1⟩ | ⟨hij,q⟩
  ·cases e1
  ·obtain ⟨b,ys,e1,e2,e3,e4,e5⟩:=r.ow j fs q
   have hb:b≠a:=fun z=>other j fs (fun z=>hij z.symm) q (z ▸ e1)
   exact ⟨b,ys,e1,e2,(zu hb).trans e3,e4,AllIs.mono0 sg e5⟩
 ·rcases zm q1 with ⟨_,_,e1⟩ | ⟨_,q1⟩
  ·cases e1
  rcases zm q2 with ⟨_,_,e1⟩ | ⟨_,q2⟩
  ·cases e1
  exact r.ne j k _ _ hjk q1 q2
 ·rcases zm q with ⟨_,_,e1⟩ | ⟨hij,q⟩
  ·cases e1
  obtain ⟨⟨ys',g1,g2,g3,g4,g5⟩,k1,k2⟩:=r.ar j c fs q
  have hc:c≠a:=fun z=>k1 i ds hi (by rw [z]; exact ha)
  refine ⟨⟨ys',g1,g2,(zu hc).trans g3,g4,AllIs.mono0 sg g5⟩,fun k es' q'=>?_,fun k c' es' q'=>?_⟩
  ·rcases zm q' with ⟨_,_,e1⟩ | ⟨_,q'⟩
   ·cases e1
   ·exact k1 k es' q'
  ·rcases zm q' with ⟨_,_,e1⟩ | ⟨hik,q'⟩
   ·cases e1
   exact k2 k c' es' q'
def yx (n:Nat) (ds:List Dt):DS:=ds.map Sl.some++List.replicate (n - ds.length) Sl.none
theorem Rl.start {N:List Str} {ds:List Dt} {vs:List V} (h:AllIs K W.g ds vs) (hz:Same Z W.h):Rl K Z W.h W (yx N.length ds) (L2.start N vs):=by
 have hl:=h.length
 have cls:∀ (i:Nat) (y:Sl),(yx N.length ds)[i]? = some y→(∃ d,ds[i]? = some d∧y=.some d)∨y=.none:=fun i y e=>by
  unfold yx at e
  by_cases hi:i<ds.length
  ·rw [List.getElem?_append_left (by rw [List.length_map]; exact hi),List.getElem?_map] at e
   cases q:ds[i]? with
   | none=>rw [q] at e; cases e
   | some d'=>
    rw [q] at e
    exact .inl ⟨d',rfl,(Option.some.inj e).symm⟩
  ·rw [List.getElem?_append_right (by rw [List.length_map]; omega),List.getElem?_replicate] at e
   split at e
   ·exact .inr (Option.some.inj e).symm
   ·cases e
 refine ⟨by unfold L2.start yx; rw [List.length_append,List.length_append,List.length_map,List.length_map,List.length_replicate,List.length_replicate,hl],fun i d e=>?_,fun i es e=>?_,fun i j es fs _ e _=>?_,Same.refl _,hz,fun i a es e=>?_⟩
 ·rcases cls i _ e with ⟨d',q,e1⟩ | e1
  ·cases e1
   obtain ⟨v,h1,h2⟩:=h.get q
   refine ⟨v,?_,h2⟩
   have hi:i<ds.length:=by
    rcases Nat.lt_or_ge i ds.length with h | h
    ·exact h
    ·rw [List.getElem?_eq_none h] at q; cases q
   unfold L2.start
   rw [List.getElem?_append_left (by rw [List.length_map,← hl]; exact hi),List.getElem?_map,h1]
   rfl
  ·cases e1
 ·rcases cls i _ e with ⟨d',q,e1⟩ | e1
  ·cases e1
  ·cases e1
 ·rcases cls i _ e with ⟨d',q,e1⟩ | e1
  ·cases e1
  ·cases e1
 ·rcases cls i _ e with ⟨d',q,e1⟩ | e1
  ·cases e1
  ·cases e1
abbrev DTE:=DS→(Dt→Prop)→Prop
abbrev DTT:=DS→(Bool→Prop)→Prop
abbrev DTA:=DS→(List Dt→Prop)→Prop
def LiE (K:PySem.W.Frag) (Z:Hp) (te:TE) (t:DTE):Prop:=
 ∀ {F:Hp} (ρ:DS) (σ:St) (H:Vw) (Q:Dt→Prop),Rl K Z F H ρ σ→t ρ Q→∀ R:VK,(∀ d v H',Le H H'→Is K H'.g d v→Q d→R v H'.h)→te σ H.h R
def LiT (K:PySem.W.Frag) (Z:Hp) (te:TT) (t:DTT):Prop:=
 ∀ {F:Hp} (ρ:DS) (σ:St) (H:Vw) (Q:Bool→Prop),Rl K Z F H ρ σ→t ρ Q→∀ R:Bool→Hp→Prop,(∀ d H',Le H H'→Q d→R d H'.h)→te σ H.h R
def LiA (K:PySem.W.Frag) (Z:Hp) (te:TA) (t:DTA):Prop:=
 ∀ {F:Hp} (ρ:DS) (σ:St) (H:Vw) (Q:List Dt→Prop),Rl K Z F H ρ σ→t ρ Q→∀ R:List V→Hp→Prop,(∀ d v H',Le H H'→AllIs K H'.g d v→Q d→R v H'.h)→te σ H.h R
def DE (X:Cx) (e:Expr) (t:DTE):Prop:=∃ te,PE X e te∧LiE X.K (Zx X) te t
def DT (X:Cx) (e:Expr) (t:DTT):Prop:=∃ te,PT X e te∧LiT X.K (Zx X) te t
def DW (X:Cx) (e:Expr) (t:DTT):Prop:=∃ te,PW X e te∧LiT X.K (Zx X) te t
def DA (X:Cx) (es:List Expr) (t:DTA):Prop:=∃ te,PA X es te∧LiA X.K (Zx X) te t
theorem DW.dt {X:Cx} {e:Expr} {t:DTT} (h:DW X e t):DT X e t:=let ⟨te,h1,h2⟩:=h; ⟨te,h1.pt,h2⟩
def V9 (i:Nat):DTE:=fun ρ Q=>∃ d,ρ[i]? = some (.some d)∧Q d
def dC (d:Dt):DTE:=fun _ Q=>Q d
section
variable {X:Cx} {a b c:Expr} {ta tb tc:DTE} {pos:Pos}
theorem dv (i:Nat) {x:Str} {pos:Pos} (hN:X.N[i]? = some x:=by rfl) (hv:Vis X.env.scope x:=by first | exact Or.inl rfl | exact Or.inr (Or.inl rfl) | exact Or.inr (Or.inr rfl)) (hd:(x == ("__debug__":Str))=false:=by decide)
  (hcd:(x == ("__classdict__":Str))=false:=by decide):DE X (.Name x pos) (V9 i):=
 ⟨eU i,yl hN hv hd hcd,fun ρ σ H Q r h R k=>by
  obtain ⟨d,e,q⟩:=h
  obtain ⟨v,h1,h2⟩:=r.at_ i d e
  exact ⟨v,h1,k d v H (Le.refl H) h2 q⟩⟩
theorem lic {v:V} {d:Dt} (h:∀ H:Vw,Is K H.g d v):LiE K Z (tC v) (dC d):=fun ρ σ H Q r q R k=>k d v H (Le.refl H) (h H) q
theorem ze {i j pos}:DE X (.Constant (.int i) j pos) (dC (.int i)):=⟨_,jG,lic fun _=>is_int.mpr rfl⟩
theorem vy {b j pos}:DE X (.Constant (.bool b) j pos) (dC (.bl b)):=⟨_,UP,lic fun _=>is_bl.mpr rfl⟩
theorem fH {j pos}:DE X (.Constant .none j pos) (dC .non):=⟨_,Yt,lic fun _=>is_non.mpr rfl⟩
theorem zQ {x j pos}:DE X (.Constant (.str x) j pos) (dC (.str x)):=⟨_,Yq,lic fun _=>is_str.mpr rfl⟩
def DOp (X:Cx) (f:Value→Value→Sem Value) (g:Dt→Dt→(Dt→Prop)→Prop):Prop:=
 ∃ r,OpR X f r∧∀ (H:Vw) (x y:V) (d e:Dt) (Q:Dt→Prop),Is X.K H.g d x→Is X.K H.g e y→g d e Q→∀ R:VK,(∀ d v H',Le H H'→Is X.K H'.g d v→Q d→R v H'.h)→r x y H.h R
def dOp (g:Dt→Dt→(Dt→Prop)→Prop) (ta tb:DTE):DTE:=fun ρ Q=>ta ρ fun d=>tb ρ fun e=>g d e Q
theorem VL {te tf:TE} {r:R2} {g:Dt→Dt→(Dt→Prop)→Prop} (ha:LiE K Z te ta) (hb:LiE K Z tf tb)
  (hg:∀ (H:Vw) (x y:V) (d e:Dt) (Q:Dt→Prop),Is K H.g d x→Is K H.g e y→g d e Q→∀ R:VK,(∀ d v H',Le H H'→Is K H'.g d v→Q d→R v H'.h)→r x y H.h R):LiE K Z (tOp r te tf) (dOp g ta tb):=
 fun ρ σ H Q rl h R k=>ha ρ σ H _ rl h _ fun d v H1 s1 i1 q1=>hb ρ σ H1 _ (rl.mono s1) q1 _ fun e u H2 s2 i2 q2=>
  hg H2 v u d e Q (i1.mono s2) i2 q2 R fun d' v' H3 s3 i3 q3=>k d' v' H3 ((s1.trans s2).trans s3) i3 q3
theorem zj {op:Operator} {g:Dt→Dt→(Dt→Prop)→Prop} (ho:DOp X (binaryOp op) g) (ha:DE X a ta) (hb:DE X b tb):DE X (.BinOp a op b pos) (dOp g ta tb):=by
 obtain ⟨r,h1,h2⟩:=ho
 obtain ⟨te,p1,l1⟩:=ha
 obtain ⟨tf,p2,l2⟩:=hb
 exact ⟨_,ZA h1 p1 p2,VL l1 l2 h2⟩
theorem fK {op:CmpOp} {g:Dt→Dt→(Dt→Prop)→Prop} (ho:DOp X (compareOp op) g) (ha:DE X a ta) (hb:DE X b tb) (hm:behindInMarks op b=false):DE X (.Compare a [op] [b] pos) (dOp g ta tb):=by
 obtain ⟨r,h1,h2⟩:=ho
 obtain ⟨te,p1,l1⟩:=ha
 obtain ⟨tf,p2,l2⟩:=hb
 exact ⟨_,dH h1 p1 p2 hm,VL l1 l2 h2⟩
def u9 (t:DTE):DTT:=fun ρ Q=>t ρ fun d=>∃ k,d=.bl k∧Q k
theorem nV {te:TE} {t:DTE} (h:LiE K Z te t):LiT K Z (Zr te) (u9 t):=fun ρ σ H Q r q R k=>
 h ρ σ H _ r q _ fun d v H1 s1 i1 ⟨b,e,qb⟩=>by
  subst e
  exact ⟨b,is_bl.mp i1,k b H1 s1 qb⟩
theorem zr {op:CmpOp} {g:Dt→Dt→(Dt→Prop)→Prop} (ho:DOp X (compareOp op) g) (ha:DE X a ta) (hb:DE X b tb) (hm:behindInMarks op b=false):DT X (.Compare a [op] [b] pos) (u9 (dOp g ta tb)):=by
 obtain ⟨r,h1,h2⟩:=ho
 obtain ⟨te,p1,l1⟩:=ha
 obtain ⟨tf,p2,l2⟩:=hb
 exact ⟨_,dw h1 p1 p2 hm,nV (VL l1 l2 h2)⟩
theorem z9 {e:Expr} {t:DTE} (h:DE X e t) (he:∀ yM,isTrue e X.env yM=(do let v ← yM; standAt e.pos; holding [v] (truthy v)):=by intro _; rfl):DT X e (u9 t):=by
 obtain ⟨te,p,l⟩:=h
 exact ⟨_,Yj p he,nV l⟩
variable {tA tB:DTT} {yX:List Expr}
def Uk (t u:DTT):DTT:=fun ρ Q=>t ρ fun c=>if c=true then u ρ Q else Q false
def dOr (t u:DTT):DTT:=fun ρ Q=>t ρ fun c=>if c=true then Q true else u ρ Q
def RM (t:DTT):DTT:=fun ρ Q=>t ρ fun c=>Q (!c)
theorem yJ (ha:DT X a tA):DW X (.BoolOp .And [a] pos) tA:=let ⟨_,p,l⟩:=ha; ⟨_,du p,l⟩
theorem pd (ha:DT X a tA):DW X (.BoolOp .Or [a] pos) tA:=let ⟨_,p,l⟩:=ha; ⟨_,Yh p,l⟩
theorem y4 (ha:DT X a tA) (hb:DW X (.BoolOp .And (b::yX) pos) tB):DW X (.BoolOp .And (a::b::yX) pos) (Uk tA tB):=by
 obtain ⟨te,p1,l1⟩:=ha
 obtain ⟨tf,p2,l2⟩:=hb
 refine ⟨_,Yi p1 p2,fun ρ σ H Q r h R k=>l1 ρ σ H _ r h _ fun c H1 s1 q1=>?_⟩
 cases c with
 | true=>exact l2 ρ σ H1 Q (r.mono s1) q1 R fun d H2 s2 q2=>k d H2 (s1.trans s2) q2
 | false=>exact k _ H1 s1 q1
theorem oQ (ha:DT X a tA) (hb:DW X (.BoolOp .Or (b::yX) pos) tB):DW X (.BoolOp .Or (a::b::yX) pos) (dOr tA tB):=by
 obtain ⟨te,p1,l1⟩:=ha
 obtain ⟨tf,p2,l2⟩:=hb
 refine ⟨_,UM p1 p2,fun ρ σ H Q r h R k=>l1 ρ σ H _ r h _ fun c H1 s1 q1=>?_⟩
 cases c with
 | false=>exact l2 ρ σ H1 Q (r.mono s1) q1 R fun d H2 s2 q2=>k d H2 (s1.trans s2) q2
 | true=>exact k _ H1 s1 q1
theorem s_ (ha:DT X a tA):DT X (.UnaryOp .Not a pos) (RM tA):=by
 obtain ⟨te,p1,l1⟩:=ha
 exact ⟨_,Yk p1,fun ρ σ H Q r h R k=>l1 ρ σ H _ r h _ fun c H1 s1 q1=>k _ H1 s1 q1⟩
def SI (ta tb:DTE):DTE:=fun ρ Q=>ta ρ fun d=>∃ c,d=.bl c∧if c=true then tb ρ Q else Q (.bl false)
def Sn (ta:DTE):DTE:=fun ρ Q=>ta ρ fun d=>∃ c,d=.bl c∧Q (.bl (!c))
theorem mh {op} {t:DTE} (h:DE X a t):DE X (.BoolOp op [a] pos) t:=let ⟨_,p,l⟩:=h; ⟨_,Yr p,l⟩
theorem rc (ha:DE X a ta) (hb:DE X (.BoolOp .And (b::yX) pos) tb):DE X (.BoolOp .And (a::b::yX) pos) (SI ta tb):=by
 obtain ⟨te,p1,l1⟩:=ha
 obtain ⟨tf,p2,l2⟩:=hb
 refine ⟨_,Yv p1 p2,fun ρ σ H Q r h R k=>l1 ρ σ H _ r h _ fun d v H1 s1 i1 ⟨c,e,q1⟩=>?_⟩
 subst e
 refine ⟨c,is_bl.mp i1,?_⟩
 cases c with
 | true=>exact l2 ρ σ H1 Q (r.mono s1) q1 R fun d v H2 s2 i2 q2=>k d v H2 (s1.trans s2) i2 q2
 | false=>exact k _ _ H1 s1 (is_bl.mpr rfl) q1
theorem fG (ha:DE X a ta):DE X (.UnaryOp .Not a pos) (Sn ta):=by
 obtain ⟨te,p1,l1⟩:=ha
 refine ⟨_,Ys p1,fun ρ σ H Q r h R k=>l1 ρ σ H _ r h _ fun d v H1 s1 i1 ⟨c,e,q1⟩=>?_⟩
 subst e
 exact ⟨c,is_bl.mp i1,k _ _ H1 s1 (is_bl.mpr rfl) q1⟩
end
section
variable {X:Cx} {a b c:Expr} {ta tb tc:DTE} {pos:Pos}
def gI (g:Int→Int→Dt):Dt→Dt→(Dt→Prop)→Prop:=fun d e Q=>∃ i j,d=.int i∧e=.int j∧Q (g i j)
def gIC (C:Int→Int→Prop) (g:Int→Int→Dt):Dt→Dt→(Dt→Prop)→Prop:=fun d e Q=>∃ i j,d=.int i∧e=.int j∧C i j∧Q (g i j)
theorem fB {f:Value→Value→Sem Value} {g:Int→Int→Int} (h:OpR X f (rI0 fun i j=>.int (g i j))):DOp X f (gI fun i j=>.int (g i j)):=by
 refine ⟨_,h,fun H x y d e Q i1 i2 q R k=>?_⟩
 obtain ⟨i,j,rfl,rfl,q⟩:=q
 exact ⟨i,j,is_int.mp i1,is_int.mp i2,k _ _ H (Le.refl H) (is_int.mpr rfl) q⟩
theorem mf {f:Value→Value→Sem Value} {g:Int→Int→Bool} (h:OpR X f (rI0 fun i j=>.bl (g i j))):DOp X f (gI fun i j=>.bl (g i j)):=by
 refine ⟨_,h,fun H x y d e Q i1 i2 q R k=>?_⟩
 obtain ⟨i,j,rfl,rfl,q⟩:=q
 exact ⟨i,j,is_int.mp i1,is_int.mp i2,k _ _ H (Le.refl H) (is_bl.mpr rfl) q⟩
theorem pe {f:Value→Value→Sem Value} {C:Int→Int→Prop} {g:Int→Int→Int} (h:OpR X f (rI C fun i j=>.int (g i j))):DOp X f (gIC C fun i j=>.int (g i j)):=by
 refine ⟨_,h,fun H x y d e Q i1 i2 q R k=>?_⟩
 obtain ⟨i,j,rfl,rfl,hc,q⟩:=q
 exact ⟨i,j,is_int.mp i1,is_int.mp i2,hc,k _ _ H (Le.refl H) (is_int.mpr rfl) q⟩
theorem dL:OpR X (binaryOp .Mult) (rI IntMulOk fun i j=>.int (i*j)):=opI fun _ _ _ _ _ _ _ hc q=>mul_int q hc
theorem zU:DOp X (binaryOp .Add) (gI fun i j=>.int (i+j)):=fB YD
theorem zS:DOp X (binaryOp .Sub) (gI fun i j=>.int (i - j)):=fB YA
theorem xA:DOp X (binaryOp .Mult) (gIC IntMulOk fun i j=>.int (i*j)):=pe dL
theorem yI:DOp X (binaryOp .FloorDiv) (gIC lM fun i j=>.int (i.fdiv j)):=pe jK
def eP (_ j:Int):Prop:=j≠0
theorem yh:DOp X (binaryOp .Mod) (gIC eP fun i j=>.int (i.fmod j)):=pe (C:=eP) dM
theorem lz {c n:Int} (h:(n != 0 && decide (n.natAbs<1073741824))=true):lM c n:=by
 rw [Bool.and_eq_true,bne_iff_ne,decide_eq_true_iff] at h
 exact h
theorem ly {c n:Int} (h:(n != 0)=true):eP c n:=bne_iff_ne.mp h
theorem SJ {c n:Int} (h:(decide (0≤n) && (decide (n≤1000000) && decide (c.natAbs<18446744073709551616)))=true):R3 c n:=by
 rw [Bool.and_eq_true,Bool.and_eq_true,decide_eq_true_iff,decide_eq_true_iff,decide_eq_true_iff] at h
 exact h
theorem TW {c n:Int} (h:decide (n.natAbs<9223372036854775808)=true):IntMulOk c n:=by
 rw [decide_eq_true_iff] at h
 exact .of_right (intBits_le_64 (by omega) (by omega))
theorem VI {c n:Int} (h:decide (n.natAbs<9223372036854775808)=true):IntMulOk n c:=by
 rw [decide_eq_true_iff] at h
 exact .of_left (intBits_le_64 (by omega) (by omega))
theorem sP:DOp X (compareOp .Lt) (gI fun i j=>.bl (decide (i<j))):=mf UR
theorem ou:DOp X (compareOp .Gt) (gI fun i j=>.bl (decide (j<i))):=mf US
theorem dR:DOp X (compareOp .GtE) (gI fun i j=>.bl (decide (j≤i))):=mf UT
def Uf (ta:DTE):DTE:=fun ρ Q=>ta ρ fun d=>∃ i,d=.int i∧Q (.int (-i))
theorem zR (ha:DE X a ta):DE X (.UnaryOp .USub a pos) (Uf ta):=by
 obtain ⟨te,p1,l1⟩:=ha
 refine ⟨_,UO Z2 p1,fun ρ σ H Q r h R k=>l1 ρ σ H _ r h _ fun d v H1 s1 i1 ⟨i,e,q1⟩=>?_⟩
 subst e
 exact ⟨i,is_int.mp i1,k _ _ H1 s1 (is_int.mpr rfl) q1⟩
theorem vv:DOp X (binaryOp .Add) (fun d e Q=>∃ ds es,d=.lst ds∧e=.lst es∧ds.length+es.length≤100000∧Q (.lst (ds++es))):=by
 refine ⟨_,YC,fun H x y d e Q i1 i2 q R k=>?_⟩
 obtain ⟨ds,es,rfl,rfl,hl,q⟩:=q
 obtain ⟨l,xs,rfl,h1,a1⟩:=is_lst.mp i1
 obtain ⟨m,ys,rfl,h2,a2⟩:=is_lst.mp i2
 refine ⟨l,m,xs,ys,rfl,rfl,H.sub _ _ h1,H.sub _ _ h2,by rw [← a1.length,← a2.length]; exact Nat.le_trans hl (by decide),fun p hp=>?_⟩
 have s:=vK hp (.lst (xs++ys))
 exact k _ _ _ s (is_lst.mpr ⟨p,_,rfl,zw,(a1.mono s).append (a2.mono s)⟩) q
def Ud:DTA:=fun _ Q=>Q []
def SD (te:DTE) (t:DTA):DTA:=fun ρ Q=>te ρ fun d=>t ρ fun ds=>Q (d::ds)
variable {es:List Expr} {t:DTA}
theorem zd:DA X [] Ud:=⟨_,ym,fun ρ σ H Q r h R k=>k [] [] H (Le.refl H) (allIs_nil.mpr rfl) h⟩
theorem za (ha:DE X a ta) (hr:DA X es t) (hs:starEach (a::es) X.env=(false,eval a X.env)::starEach es X.env:=by rfl):DA X (a::es) (SD ta t):=by
 obtain ⟨te,p1,l1⟩:=ha
 obtain ⟨tf,p2,l2⟩:=hr
 exact ⟨_,zI p1 p2 hs,fun ρ σ H Q r h R k=>l1 ρ σ H _ r h _ fun d v H1 s1 i1 q1=>l2 ρ σ H1 _ (r.mono s1) q1 _ fun ds vs H2 s2 i2 q2=>
  k (d::ds) (v::vs) H2 (s1.trans s2) (allIs_cons.mpr ⟨v,vs,rfl,i1.mono s2,i2⟩) q2⟩
def RE (t:DTA):DTE:=fun ρ Q=>t ρ fun ds=>Nat.ble ds.length 1000=true∧Q (.tup ds)
def Ss (t:DTA):DTE:=fun ρ Q=>t ρ fun ds=>Nat.ble ds.length 1000=true∧Q (.lst ds)
theorem zy {x1} (h:DA X es t):DE X (.Tuple es x1 pos) (RE t):=by
 obtain ⟨te,p1,l1⟩:=h
 refine ⟨_,jB p1,fun ρ σ H Q r h R k=>l1 ρ σ H _ r h _ fun ds vs H1 s1 i1 ⟨hl,q1⟩=>⟨?_,fun p hp=>?_⟩⟩
 ·rw [← i1.length]; exact Nat.le_trans (Nat.le_of_ble_eq_true hl) (by decide)
 ·have s:=vK hp (.tup vs)
  exact k _ _ _ (s1.trans s) (is_tup.mpr ⟨p,vs,rfl,zw,i1.mono s⟩) q1
theorem zE (h:DA X es t):DE X (.List es pos) (Ss t):=by
 obtain ⟨te,p1,l1⟩:=h
 refine ⟨_,jE p1,fun ρ σ H Q r h R k=>l1 ρ σ H _ r h _ fun ds vs H1 s1 i1 ⟨hl,q1⟩=>⟨?_,fun p hp=>?_⟩⟩
 ·rw [← i1.length]; exact Nat.le_trans (Nat.le_of_ble_eq_true hl) (by decide)
 ·have s:=vK hp (.lst vs)
  exact k _ _ _ (s1.trans s) (is_lst.mpr ⟨p,vs,rfl,zw,i1.mono s⟩) q1
def mO:Dt→Option (List Dt)
 | .tup ds=>some ds
 | .lst ds=>some ds
 | .scr ns=>some (ns.map .int)
 | _=>none
theorem nn {H:Vw} {d:Dt} {v:V} {ds:List Dt} (h:Is K H.g d v) (e:mO d=some ds):∃ a xs,v=.ref a∧(SqL K H.h a xs∨SqT K H.h a xs)∧AllIs K H.g ds xs:=by
 cases d with
 | tup es=>
  obtain rfl:es=ds:=Option.some.inj e
  obtain ⟨a,xs,rfl,h1,h2⟩:=is_tup.mp h
  exact ⟨a,xs,rfl,.inr (.of (H.sub _ _ h1)),h2⟩
 | lst es=>
  obtain rfl:es=ds:=Option.some.inj e
  obtain ⟨a,xs,rfl,h1,h2⟩:=is_lst.mp h
  exact ⟨a,xs,rfl,.inl (.of (H.sub _ _ h1)),h2⟩
 | scr ns=>
  obtain rfl:ns.map Dt.int=ds:=Option.some.inj e
  obtain ⟨a,rfl,h1⟩:=is_scr.mp h
  exact ⟨a,_,rfl,.inl (H.sub.seq h1),AllIs.ints⟩
 | _=>cases e
def dIx (ta tb:DTE):DTE:=fun ρ Q=>ta ρ fun d=>tb ρ fun e=>∃ ds i d',mO d=some ds∧e=.int i∧atI ds i=some d'∧Q d'
theorem zC (ha:DE X a ta) (hb:DE X b tb) (hs:tW b):DE X (.Subscript a b pos) (dIx ta tb):=by
 obtain ⟨te,p1,l1⟩:=ha
 obtain ⟨tf,p2,l2⟩:=hb
 refine ⟨_,jF gQ p1 p2 hs,fun ρ σ H Q r h R k=>l1 ρ σ H _ r h _ fun d v H1 s1 i1 q1=>l2 ρ σ H1 _ (r.mono s1) q1 _ fun e u H2 s2 i2 q2=>?_⟩
 obtain ⟨ds,i,d',e1,e2,e3,q⟩:=q2
 subst e2
 obtain ⟨p,xs,e4,h1,h2⟩:=nn (i1.mono s2) e1
 obtain ⟨w,e5,h3⟩:=h2.atI e3
 rcases h1 with h1 | h1
 ·exact .inl ⟨p,xs,i,w,e4,is_int.mp i2,h1,e5,k d' w H2 (s1.trans s2) h3 q⟩
 ·exact .inr (.inl ⟨p,xs,i,w,e4,is_int.mp i2,h1,e5,k d' w H2 (s1.trans s2) h3 q⟩)
def RP (t:DTE):DTE:=fun ρ Q=>t ρ fun d=>∃ ds,mO d=some ds∧Q (.int ds.length)
theorem yK {p:Pos} (hg:Gl X "len") (hm:X.mg "len"=none) (ha:DE X a ta) (hs:starEach [a] X.env=(false,eval a X.env)::starEach [] X.env:=by rfl) (hpl:(backTo pos (starEach [] X.env)).any (·.1)=false:=by rfl):
  DE X (.Call (.Name "len" p) [a] [] pos) (RP ta):=by
 obtain ⟨te,p1,l1⟩:=ha
 refine ⟨_,yG ww hg hm PySem.boot_len (zI p1 ym hs) (by decide) (by decide) hs hpl,fun ρ σ H Q r h R k=>l1 ρ σ H _ r h _ fun d v H1 s1 i1 ⟨ds,e,q⟩=>?_⟩
 obtain ⟨a,xs,rfl,h1,h2⟩:=nn i1 e
 exact ⟨a,xs,rfl,h1,by rw [← h2.length]; exact k _ _ H1 s1 (is_int.mpr rfl) q⟩
def ph (xs:List Dt) (lo hi:Option Int):List Dt:=(xs.drop (HT.sIx xs.length 0 lo)).take (HT.sIx xs.length xs.length hi - HT.sIx xs.length 0 lo)
theorem AllIs.cut {G:Hp} {ds:List Dt} {xs:List V} (h:AllIs K G ds xs) (lo hi:Option Int):AllIs K G (ph ds lo hi) (mm xs lo hi):=by
 unfold ph mm
 rw [← h.length]
 exact (h.drop _).take _
abbrev DTO:=DS→(Option Int→Prop)→Prop
def DO (X:Cx) (e:Option Expr) (t:DTO):Prop:=∃ te,PO X e te∧∀ {F:Hp} (ρ:DS) (σ:St) (H:Vw) (Q:Option Int→Prop),Rl X.K (Zx X) F H ρ σ→t ρ Q→∀ R:Option Int→Hp→Prop,(∀ o H',Le H H'→Q o→R o H'.h)→te σ H.h R
def Zd:DTO:=fun _ Q=>Q none
def Sm (t:DTE):DTO:=fun ρ Q=>t ρ fun d=>∃ i,d=.int i∧Q (some i)
theorem lm:DO X none Zd:=⟨_,dD,fun ρ σ H Q r h R k=>k none H (Le.refl H) h⟩
theorem tU (ha:DE X a ta):DO X (some a) (Sm ta):=by
 obtain ⟨te,p1,l1⟩:=ha
 refine ⟨_,dB p1,fun ρ σ H Q r h R k=>l1 ρ σ H _ r h _ fun d v H1 s1 i1 ⟨i,e,q⟩=>?_⟩
 subst e
 exact ⟨i,is_int.mp i1,k _ H1 s1 q⟩
def wm:Dt→Option (List Dt)
 | .lst ds=>some ds
 | .scr ns=>some (ns.map .int)
 | _=>none
theorem mY {H:Vw} {d:Dt} {v:V} {ds:List Dt} (h:Is K H.g d v) (e:wm d=some ds):∃ a xs,v=.ref a∧SqL K H.h a xs∧AllIs K H.g ds xs:=by
 cases d with
 | lst es=>
  obtain rfl:es=ds:=Option.some.inj e
  obtain ⟨a,xs,rfl,h1,h2⟩:=is_lst.mp h
  exact ⟨a,xs,rfl,.of (H.sub _ _ h1),h2⟩
 | scr ns=>
  obtain rfl:ns.map Dt.int=ds:=Option.some.inj e
  obtain ⟨a,rfl,h1⟩:=is_scr.mp h
  exact ⟨a,_,rfl,H.sub.seq h1,AllIs.ints⟩
 | _=>cases e
def dSl (te:DTE) (tl th:DTO):DTE:=fun ρ Q=>te ρ fun d=>tl ρ fun l=>th ρ fun u=>∃ ds,wm d=some ds∧Q (.lst (ph ds l u))
theorem rb {lo hi:Option Expr} {tl th:DTO} {p2:Pos} (ha:DE X a ta) (hl:DO X lo tl) (hu:DO X hi th):DE X (.Subscript a (.Slice lo hi none p2) pos) (dSl ta tl th):=by
 obtain ⟨te,p1,l1⟩:=ha
 obtain ⟨tf,p2,l2⟩:=hl
 obtain ⟨tg,p3,l3⟩:=hu
 refine ⟨_,jC eX p1 p2 p3,fun ρ σ H Q r h R k=>l1 ρ σ H _ r h _ fun d v H1 s1 i1 q1=>l2 ρ σ H1 _ (r.mono s1) q1 _ fun l H2 s2 q2=>l3 ρ σ H2 _ (r.mono (s1.trans s2)) q2 _ fun u H3 s3 ⟨ds,e,q⟩=>?_⟩
 obtain ⟨a,xs,rfl,h1,h2⟩:=mY (i1.mono (s2.trans s3)) e
 refine ⟨a,xs,rfl,h1,fun p hp=>?_⟩
 have s:=vK hp (.lst (mm xs l u))
 exact k _ _ _ (((s1.trans s2).trans s3).trans s) (is_lst.mpr ⟨p,_,rfl,zw,(h2.cut l u).mono s⟩) q
end
def LiF (K:PySem.W.Frag) (Z:Hp) (te:TE) (t:DTE):Prop:=
 ∀ {F:Hp} (ρ:DS) (σ:St) (H:Vw) (Q:Dt→Prop),Rl K Z F H ρ σ→t ρ Q→∀ R:VK,
  (∀ es p xs H',Le H H'→H.h p=none→H'.h p=some (.lst xs)→H'.g p=none→AllIs K H'.g es xs→Q (.lst es)→R (.ref p) H'.h)→te σ H.h R
def DF (X:Cx) (e:Expr) (t:DTE):Prop:=∃ te,PE X e te∧LiF X.K (Zx X) te t
theorem uQ {H H':Vw} {p:Addr} {o:HO} (s:Le H H') (h0:H.h p=none) (h1:H'.h p=some o) (h2:H'.g p=none):Le H (H'.frz p o h1):=
 ⟨s.g.trans (zN h2 o),s.h,fun a z1 z2=>by
  have:a≠p:=fun e=>z1 (e ▸ h0)
  show upd H'.g p o a=none
  rw [zu this]; exact s.n a z1 z2⟩
section
variable {X:Cx} {a b c e:Expr} {ta tb tc:DTE} {t:DTA} {pos p0 p1 p2:Pos} {es:List Expr}
theorem DF.de {t:DTE} (h:DF X e t):DE X e t:=by
 obtain ⟨te,p,l⟩:=h
 exact ⟨te,p,fun ρ σ H Q r h R k=>l ρ σ H Q r h R fun es q xs H' s h0 h1 h2 i z=>k (.lst es) (.ref q) (H'.frz q _ h1) (uQ s h0 h1 h2) (is_lst.mpr ⟨q,xs,rfl,zw,AllIs.mono0 (zN h2 _) i⟩) z⟩
theorem wu (h:DA X es t):DF X (.List es pos) (Ss t):=by
 obtain ⟨te,p1,l1⟩:=h
 refine ⟨_,jE p1,fun ρ σ H Q r h R k=>l1 ρ σ H _ r h _ fun ds vs H1 s1 i1 ⟨hl,q1⟩=>⟨?_,fun p hp=>?_⟩⟩
 ·rw [← i1.length]; exact Nat.le_trans (Nat.le_of_ble_eq_true hl) (by decide)
 ·exact k ds p vs (H1.mine p (.lst vs) (H1.sub.free hp)) (s1.trans (qW hp _)) (s1.h.free hp) zw (H1.sub.free hp) i1 q1
theorem AllIs.rep {G:Hp} {ds:List Dt} {xs:List V} (h:AllIs K G ds xs):∀ k:Nat,AllIs K G (List.replicate k ds).flatten (List.replicate k xs).flatten
 | 0=>allIs_nil.mpr rfl
 | k+1=>by
  rw [List.replicate_succ,List.replicate_succ,List.flatten_cons,List.flatten_cons]
  exact h.append (h.rep k)
def RC:Dt→Dt→(Dt→Prop)→Prop:=fun d e Q=>∃ ds k,d=.lst ds∧e=.int k∧-16000000≤k∧k≤16000000∧ds.length*k.toNat≤16000000∧Q (.lst (List.replicate k.toNat ds).flatten)
theorem V5 (ha:DE X a ta) (hb:DE X b tb):DF X (.BinOp a .Mult b pos) (dOp RC ta tb):=by
 obtain ⟨te,p1,l1⟩:=ha
 obtain ⟨tf,p2,l2⟩:=hb
 refine ⟨_,ZA YB p1 p2,fun ρ σ H Q r h R k=>l1 ρ σ H _ r h _ fun d v H1 s1 i1 q1=>l2 ρ σ H1 _ (r.mono s1) q1 _ fun e u H2 s2 i2 q2=>?_⟩
 obtain ⟨ds,n,rfl,rfl,hn1,hn2,hl,q⟩:=q2
 obtain ⟨l,xs,rfl,h1,a1⟩:=is_lst.mp (i1.mono s2)
 refine ⟨l,n,xs,rfl,is_int.mp i2,H2.sub _ _ h1,by omega,by omega,by rw [← a1.length]; exact Nat.le_trans hl (by decide),fun p hp=>?_⟩
 exact k _ p _ (H2.mine p _ (H2.sub.free hp)) ((s1.trans s2).trans (qW hp _)) ((s1.trans s2).h.free hp) zw (H2.sub.free hp) (a1.rep _) q
def Su (ta:DTE):DTE:=fun ρ Q=>ta ρ fun d=>∃ ds,mO d=some ds∧Q (.lst ds)
theorem xc (hg:Gl X "list") (hm:X.mg "list"=none) (ha:DE X a ta) (hs:starEach [a] X.env=(false,eval a X.env)::starEach [] X.env:=by rfl) (hpl:(backTo pos (starEach [] X.env)).any (·.1)=false:=by rfl):
  DF X (.Call (.Name "list" p0) [a] [] pos) (Su ta):=by
 obtain ⟨te,p1,l1⟩:=ha
 refine ⟨_,l8 pq hg hm PyProof.Rows.boot_list (zI p1 ym hs) (by decide) (by decide) hs hpl,fun ρ σ H Q r h R k=>l1 ρ σ H _ r h _ fun d v H1 s1 i1 ⟨ds,e,q⟩=>?_⟩
 obtain ⟨a,xs,rfl,h1,h2⟩:=nn i1 e
 exact ⟨a,xs,rfl,h1,fun p hp=>k _ p _ (H1.mine p _ (H1.sub.free hp)) (s1.trans (qW hp _)) (s1.h.free hp) zw (H1.sub.free hp) h2 q⟩
variable {i:Nat} {x:Str}
def ZO (i:Nat):DTE:=fun ρ Q=>∃ ds,ρ[i]? = some (.own ds)∧Q (.int ds.length)
theorem wv (i:Nat) (hg:Gl X "len") (hm:X.mg "len"=none) (hN:X.N[i]? = some x:=by rfl) (hv:Vis X.env.scope x:=by first | exact Or.inl rfl | exact Or.inr (Or.inl rfl) | exact Or.inr (Or.inr rfl)) (hd:(x == ("__debug__":Str))=false:=by decide)
  (hcd:(x == ("__classdict__":Str))=false:=by decide) (hs:starEach [.Name x p1] X.env=(false,eval (.Name x p1) X.env)::starEach [] X.env:=by rfl) (hpl:(backTo pos (starEach [] X.env)).any (·.1)=false:=by rfl):
  DE X (.Call (.Name "len" p0) [.Name x p1] [] pos) (ZO i):=by
 refine ⟨_,yG ww hg hm PySem.boot_len (zI (yl hN hv hd hcd) ym hs) (by decide) (by decide) hs hpl,fun ρ σ H Q r h R k=>?_⟩
 obtain ⟨ds,e,q⟩:=h
 obtain ⟨a,xs,e1,e2,e3,e4,e5⟩:=r.ow i ds e
 exact ⟨.ref a,e1,a,xs,rfl,.inl (.of e2),by rw [← e5.length]; exact k _ _ H (Le.refl H) (is_int.mpr rfl) q⟩
def Uh (i:Nat) (tb:DTE):DTE:=fun ρ Q=>∃ ds,ρ[i]? = some (.own ds)∧tb ρ fun e=>∃ k d,e=.int k∧atI ds k=some d∧Q d
theorem pf (i:Nat) (hb:DE X b tb) (hs:tW b) (hN:X.N[i]? = some x:=by rfl) (hv:Vis X.env.scope x:=by first | exact Or.inl rfl | exact Or.inr (Or.inl rfl) | exact Or.inr (Or.inr rfl)) (hd:(x == ("__debug__":Str))=false:=by decide)
  (hcd:(x == ("__classdict__":Str))=false:=by decide):DE X (.Subscript (.Name x p1) b pos) (Uh i tb):=by
 obtain ⟨tf,p2,l2⟩:=hb
 refine ⟨_,jF ix_list (yl hN hv hd hcd) p2 hs,fun ρ σ H Q r h R k=>?_⟩
 obtain ⟨ds,e,h⟩:=h
 obtain ⟨a,xs,e1,e2,e3,e4,e5⟩:=r.ow i ds e
 refine ⟨.ref a,e1,l2 ρ σ H _ r h _ fun e u H2 s2 i2 ⟨n,d,en,ed,q⟩=>?_⟩
 subst en
 obtain ⟨v,ev,iv⟩:=e5.atI ed
 exact ⟨a,xs,n,v,rfl,is_int.mp i2,.of (s2.h _ _ e2),ev,k d v H2 s2 (iv.mono s2) q⟩
def ZN (i:Nat):DTT:=fun ρ Q=>∃ ds,ρ[i]? = some (.own ds)∧Q (!ds.isEmpty)
theorem u_ {G:Hp} {ds:List Dt} {xs:List V} (h:AllIs K G ds xs):(!xs.isEmpty)=!ds.isEmpty:=by
 cases ds with
 | nil=>rw [allIs_nil.mp h]; rfl
 | cons d ds=>obtain ⟨x,r,rfl,_⟩:=allIs_cons.mp h; rfl
theorem aX (i:Nat) (hN:X.N[i]? = some x:=by rfl) (hv:Vis X.env.scope x:=by first | exact Or.inl rfl | exact Or.inr (Or.inl rfl) | exact Or.inr (Or.inr rfl)) (hd:(x == ("__debug__":Str))=false:=by decide)
  (hcd:(x == ("__classdict__":Str))=false:=by decide) (he:∀ yM,isTrue (.Name x p1) X.env yM=(do let v ← yM; standAt (Expr.Name x p1).pos; holding [v] (truthy v)):=by intro _; rfl):DT X (.Name x p1) (ZN i):=by
 refine ⟨_,p8 (yl hN hv hd hcd) he,fun ρ σ H Q r h R k=>?_⟩
 obtain ⟨ds,e,q⟩:=h
 obtain ⟨a,xs,e1,e2,e3,e4,e5⟩:=r.ow i ds e
 exact ⟨.ref a,e1,!ds.isEmpty,.inl ⟨xs,.of e2,(u_ e5).symm⟩,k _ H (Le.refl H) q⟩
def RF (ta:DTE):DTT:=fun ρ Q=>ta ρ fun d=>∃ ds,wm d=some ds∧Q (!ds.isEmpty)
theorem V1 (ha:DE X a ta) (he:∀ yM,isTrue a X.env yM=(do let v ← yM; standAt a.pos; holding [v] (truthy v)):=by intro _; rfl):DT X a (RF ta):=by
 obtain ⟨te,p1,l1⟩:=ha
 refine ⟨_,p8 p1 he,fun ρ σ H Q r h R k=>l1 ρ σ H _ r h _ fun d v H1 s1 i1 ⟨ds,e,q⟩=>?_⟩
 obtain ⟨a,xs,rfl,h1,h2⟩:=mY i1 e
 exact ⟨!ds.isEmpty,.inl ⟨xs,h1,(u_ h2).symm⟩,k _ H1 s1 q⟩
def fz:Sl→Sl
 | .own ds=>.some (.lst ds)
 | .arg _ ds=>.some (.lst ds)
 | s=>s
open Classical in
theorem Rl.bor {ρ:DS} {σ:St} (r:Rl K Z F W ρ σ):∃ W':Vw,W'.h=W.h∧Same W.g W'.g∧Rl K Z F W' (ρ.map fz) σ∧∀ a o,W'.g a=some o→W.g a=some o∨∃ xs,o=.lst xs:=by
 let ow:Addr→Prop:=fun a=>∃ (i:Nat) (ds:List Dt),(ρ[i]? = some (Sl.own ds)∧σ[i]? = some (some (V.ref a)))∨ρ[i]? = some (Sl.arg a ds)
 have own_at:∀ a,ow a→W.g a=none:=fun a ⟨i,ds,h⟩=>by
  rcases h with ⟨e,ea⟩ | e
  ·obtain ⟨b,xs,e1,_,e3,_⟩:=r.ow i ds e
   rw [ea] at e1
   cases e1
   exact e3
  ·exact (r.ar i a ds e).1.choose_spec.2.2.1
 let g:Hp:=fun a=>if ow a then W.h a else W.g a
 have gs:Same W.g g:=fun b o q=>by
  show (if ow b then W.h b else W.g b)=some o
  by_cases hb:ow b
  ·rw [own_at b hb] at q; cases q
  ·rw [if_neg hb]; exact q
 have sub:Same g W.h:=fun b o q=>by
  have q':(if ow b then W.h b else W.g b)=some o:=q
  by_cases hb:ow b
  ·rw [if_pos hb] at q'; exact q'
  ·rw [if_neg hb] at q'; exact W.sub _ _ q'
 have cls:∀ (i:Nat) (y:Sl),(ρ.map fz)[i]? = some y→(∃ d,ρ[i]? = some (.some d)∧y=.some d)∨(∃ ds,(ρ[i]? = some (.own ds)∨∃ a,ρ[i]? = some (.arg a ds))∧y=.some (.lst ds))∨y=.none:=fun i y e=>by
  rw [List.getElem?_map] at e
  cases q:ρ[i]? with
  | none=>rw [q] at e; cases e
  | some z=>
   rw [q] at e
   have e':=(Option.some.inj e).symm
   cases z with
   | none=>exact .inr (.inr e')
   | some d=>exact .inl ⟨d,rfl,e'⟩
   | own ds=>exact .inr (.inl ⟨ds,.inl rfl,e'⟩)
   | arg a ds=>exact .inr (.inl ⟨ds,.inr ⟨a,rfl⟩,e'⟩)
 have gl:∀ a o,g a=some o→W.g a=some o∨∃ xs,o=HO.lst xs:=fun a o q=>by
  have q':(if ow a then W.h a else W.g a)=some o:=q
  by_cases hb:ow a
  ·rw [if_pos hb] at q'
   obtain ⟨i,ds,h⟩:=hb
   rcases h with ⟨e,ea⟩ | e
   ·obtain ⟨b,xs,e1,e2,_⟩:=r.ow i ds e
    rw [ea] at e1
    cases e1
    rw [e2] at q'
    exact .inr ⟨xs,(Option.some.inj q').symm⟩
   ·obtain ⟨⟨xs,_,e2,_⟩,_,_⟩:=r.ar i a ds e
    rw [e2] at q'
    exact .inr ⟨xs,(Option.some.inj q').symm⟩
  ·rw [if_neg hb] at q'
   exact .inl q'
 refine ⟨⟨g,W.h,sub⟩,rfl,gs,⟨by rw [List.length_map]; exact r.len,fun i d e=>?_,fun i ds e=>?_,fun i j ds es _ e _=>?_,r.fr,r.z,fun i a ds e=>?_⟩,gl⟩
 ·rcases cls i _ e with ⟨d',q,e1⟩ | ⟨ds,q,e1⟩ | e1
  ·cases e1
   obtain ⟨v,h1,h2⟩:=r.at_ i d q
   exact ⟨v,h1,Is.mono0 gs h2⟩
  ·cases e1
   rcases q with q | ⟨b,q⟩
   ·obtain ⟨b,xs,e1,e2,e3,e4,e5⟩:=r.ow i ds q
    have hb:ow b:=⟨i,ds,.inl ⟨q,e1⟩⟩
    exact ⟨_,e1,is_lst.mpr ⟨b,xs,rfl,(if_pos hb).trans e2,AllIs.mono0 gs e5⟩⟩
   ·obtain ⟨⟨xs,e1,e2,e3,e4,e5⟩,_,_⟩:=r.ar i b ds q
    have hb:ow b:=⟨i,ds,.inr q⟩
    exact ⟨_,e1,is_lst.mpr ⟨b,xs,rfl,(if_pos hb).trans e2,AllIs.mono0 gs e5⟩⟩
  ·cases e1
 ·rcases cls i _ e with ⟨d',q,e1⟩ | ⟨ds,q,e1⟩ | e1 <;> cases e1
 ·rcases cls i _ e with ⟨d',q,e1⟩ | ⟨ds,q,e1⟩ | e1 <;> cases e1
 ·rcases cls i _ e with ⟨d',q,e1⟩ | ⟨ds,q,e1⟩ | e1 <;> cases e1
theorem fW {H W' H1:Vw} (e:W'.h=H.h) (s1:Le W' H1) (sg:Same H.g W'.g):∃ H2:Vw,H2.h=H1.h∧H2.g=H.g∧Le H H2:=
 ⟨⟨H.g,H1.h,(sg.trans s1.g).trans H1.sub⟩,rfl,rfl,Same.refl _,e ▸ s1.h,fun _ _ h=>h⟩
def pW:Dt→Bool
 | .non=>true | .bl _=>true | .int _=>true | .str _=>true | _=>false
theorem mP {G G':Hp} {d:Dt} {v:V} (h:pW d=true) (i:Is K G d v):Is K G' d v:=by
 cases d with
 | non=>exact is_non.mpr (is_non.mp i)
 | bl b=>exact is_bl.mpr (is_bl.mp i)
 | int b=>exact is_int.mpr (is_int.mp i)
 | str b=>exact is_str.mpr (is_str.mp i)
 | _=>cases h
end
abbrev DSp:=List Dt→(Dt→Prop)→Prop
def zq (K:PySem.W.Frag) (S:DSp):Sp:=fun vs H Q _=>∃ (W:Vw) (ds:List Dt) (Qd:Dt→Prop),W.h=H∧AllIs K W.g ds vs∧S ds Qd∧∀ d v W',Le W W'→Is K W'.g d v→Qd d→Q v W'.h
def yU (K:PySem.W.Frag) (S:DSp):Sp:=fun vs H Q _=>∃ (W:Vw) (ds:List Dt) (Qd:Dt→Prop),W.h=H∧AllIs K W.g ds vs∧S ds Qd∧
 ∀ es p xs W',Le W W'→W.h p=none→W'.h p=some (.lst xs)→W'.g p=none→AllIs K W'.g es xs→Qd (.lst es)→Q (.ref p) W'.h
structure DOk (P:Program) (w:World) (K:PySem.W.Frag) (mg:Str→Option Value) (base:Heap) (n:Nat) (x:Str) (S:DSp):Prop where
 ex:∃ f fd ps,mg x=some (.ref f)∧PySem.W.keepIn K (.ref f)=true∧Binds K fd ps []∧FnOk P w K mg base CX0 n f fd ps (zq K S)
structure FOk (P:Program) (w:World) (K:PySem.W.Frag) (mg:Str→Option Value) (base:Heap) (n:Nat) (x:Str) (S:DSp):Prop where
 ex:∃ f fd ps,mg x=some (.ref f)∧PySem.W.keepIn K (.ref f)=true∧Binds K fd ps []∧FnOk P w K mg base CX0 n f fd ps (yU K S)
structure MOk (P:Program) (w:World) (K:PySem.W.Frag) (mg:Str→Option Value) (base:Heap) (n:Nat) (C:Addr) (m:Str) (S:DSp):Prop where
 cl:Cls K C
 ex:∃ f fd ps,eO K C m f∧Binds K fd ps []∧FnOk P w K mg base CX0 n f fd ps (zq K S)
structure FMOk (P:Program) (w:World) (K:PySem.W.Frag) (mg:Str→Option Value) (base:Heap) (n:Nat) (C:Addr) (m:Str) (S:DSp):Prop where
 cl:Cls K C
 ex:∃ f fd ps,eO K C m f∧Binds K fd ps []∧FnOk P w K mg base CX0 n f fd ps (yU K S)
section
variable {X:Cx} {a b c e o:Expr} {ta tb tc:DTE} {pos p apos:Pos} {es:List Expr} {t:DTA} {n:Nat} {x m:Str} {S:DSp}
def ZR (S:DSp) (t:DTA):DTE:=fun ρ Q=>t ρ fun ds=>S ds Q
theorem zk (G:DOk X.prog X.w X.K X.mg X.base n x S) (hr:Room n X.A) (hg:Gl X x) (ha:DA X (e::es) t) (hdb:(x == ("__debug__":Str))=false:=by decide)
  (he:starEach (e::es) X.env=(false,eval e X.env)::starEach es X.env:=by rfl) (hpl:(backTo pos (starEach es X.env)).any (·.1)=false:=by rfl):DE X (.Call (.Name x p) (e::es) [] pos) (ZR S t):=by
 obtain ⟨f,fd,ps,hm,hk,hb,F⟩:=G.ex
 obtain ⟨te,p1,l1⟩:=ha
 refine ⟨_,ve F hr hg hm hk hb .nil rT p1 hdb he hpl,fun ρ σ H Q r h R k=>l1 ρ σ H _ r h _ fun ds vs H1 s1 i1 q1=>?_⟩
 rw [List.append_nil]
 exact ⟨H1,ds,Q,rfl,i1,q1,fun d v H2 s2 i2 q2=>k d v H2 (s1.trans s2) i2 q2⟩
theorem yg (G:FOk X.prog X.w X.K X.mg X.base n x S) (hr:Room n X.A) (hg:Gl X x) (ha:DA X (e::es) t) (hdb:(x == ("__debug__":Str))=false:=by decide)
  (he:starEach (e::es) X.env=(false,eval e X.env)::starEach es X.env:=by rfl) (hpl:(backTo pos (starEach es X.env)).any (·.1)=false:=by rfl):DF X (.Call (.Name x p) (e::es) [] pos) (ZR S t):=by
 obtain ⟨f,fd,ps,hm,hk,hb,F⟩:=G.ex
 obtain ⟨te,p1,l1⟩:=ha
 refine ⟨_,ve F hr hg hm hk hb .nil rT p1 hdb he hpl,fun ρ σ H Q r h R k=>l1 ρ σ H _ r h _ fun ds vs H1 s1 i1 q1=>?_⟩
 rw [List.append_nil]
 exact ⟨H1,ds,Q,rfl,i1,q1,fun es p xs H2 s2 h0 h1 h2 i2 q2=>k es p xs H2 (s1.trans s2) (s1.h.free h0) h1 h2 i2 q2⟩
def kY (X:Cx) (n:Nat) (m:Str) (ta:TE) (t:TA):TE:=fun σ H Q=>ta σ H fun x H1=>∃ a dx fs C f fd ps sp,x=.ref a∧H1 a=some (.ins C dx fs)∧fs.lookup m=none∧Cls X.K C∧eO X.K C m f∧Binds X.K fd ps []∧
 FnOk X.prog X.w X.K X.mg X.base CX0 n f fd ps sp∧t σ H1 fun vs H2=>sp (x::vs) H2 Q E0
theorem jD {pl:Sem Bool} {te:TE} {tt:TA} (he:PE X o te) (hr:Room n X.A) (ha:PA X (e::es) tt)
  (hst:starEach (e::es) X.env=(false,eval e X.env)::starEach es X.env:=by rfl) (hpl:(backTo pos (starEach es X.env)).any (·.1)=false:=by rfl)
  (ht:eval (.Call (.Attribute o m apos) (e::es) [] pos) X.env=(do
   let ov ← eval o X.env
   standAt apos.atName
   let (f,first) ← holding [ov] (getMethod ov m pl)
   callWith pos f first (backTo pos (starEach (e::es) X.env)) (backToKw pos (keywordEach [] X.env))):=by rfl):
  PE X (.Call (.Attribute o m apos) (e::es) [] pos) (kY X n m te tt):=by
 intro pins s σ H Q I h
 refine PySem.W.methodCall_KW (pl:=pl) (thn (he pins s σ H _ I h) fun u s1 ⟨x,H1,I1,rx,a,dx,fs,C,f,fd,ps,sp,ex,ea,l,c,hm,hb,F,q⟩=>?_) ht
 subst ex
 obtain rfl:u=Value.ref a:=rx
 refine sV I1 ea c hm l ?_
 refine PySem.W.callWith_K (first:=[.ref a]) (h₀:=X.base) I.ok.mod.kin hm.kp (thn (ha pos pins s1 σ H1 _ I1 q) fun us s2 ⟨vs,H2,I2,r,q2⟩=>⟨I2.kIn,?_⟩) hst hpl
 exact nD (us:=.ref a::us) (vs:=.ref a::vs) (dvs:=[]) (E:=E0) F hr hb .nil rT I2 (.cons rfl r) (by rw [List.append_nil]; exact q2)
theorem l7 {pl:Sem Bool} {te:TE} (he:PE X o te) (hr:Room n X.A)
  (ht:eval (.Call (.Attribute o m apos) [] [] pos) X.env=(do
   let ov ← eval o X.env
   standAt apos.atName
   let (f,first) ← holding [ov] (getMethod ov m pl)
   callWith pos f first (backTo pos (starEach [] X.env)) (backToKw pos (keywordEach [] X.env))):=by rfl):
  PE X (.Call (.Attribute o m apos) [] [] pos) (kY X n m te Ux):=by
 intro pins s σ H Q I h
 refine PySem.W.methodCall_KW (pl:=pl) (thn (he pins s σ H _ I h) fun u s1 ⟨x,H1,I1,rx,a,dx,fs,C,f,fd,ps,sp,ex,ea,l,c,hm,hb,F,q⟩=>?_) ht
 subst ex
 obtain rfl:u=Value.ref a:=rx
 refine sV I1 ea c hm l ?_
 exact PySem.W.callWith_K0 (first:=[.ref a]) I1.kIn hm.kp (nD (us:=[.ref a]) (vs:=[.ref a]) (dvs:=[]) (E:=E0) F hr hb .nil rT I1 (.cons rfl .nil) q)
def Sq (X:Cx) (n:Nat) (m:Str) (ta:DTE) (t:DTA):DTE:=fun ρ Q=>ta ρ fun d=>∃ C f k S,d=.way C f k∧(m == f)=false∧MOk X.prog X.w X.K X.mg X.base n C m S∧t ρ fun ds=>S (d::ds) Q
theorem xf {pl:Sem Bool} (hr:Room n X.A) (he:DE X o ta) (ha:DA X (e::es) t)
  (hst:starEach (e::es) X.env=(false,eval e X.env)::starEach es X.env:=by rfl) (hpl:(backTo pos (starEach es X.env)).any (·.1)=false:=by rfl)
  (ht:eval (.Call (.Attribute o m apos) (e::es) [] pos) X.env=(do
   let ov ← eval o X.env
   standAt apos.atName
   let (f,first) ← holding [ov] (getMethod ov m pl)
   callWith pos f first (backTo pos (starEach (e::es) X.env)) (backToKw pos (keywordEach [] X.env))):=by rfl):
  DE X (.Call (.Attribute o m apos) (e::es) [] pos) (Sq X n m ta t):=by
 obtain ⟨te,p0,l0⟩:=he
 obtain ⟨tt,p1,l1⟩:=ha
 refine ⟨_,jD (pl:=pl) p0 hr p1 hst hpl ht,fun ρ σ H Q r h R k=>l0 ρ σ H _ r h _ fun d v H1 s1 i1 ⟨C,f,z,S,ed,hne,M,q1⟩=>?_⟩
 subst ed
 obtain ⟨a,dx,rfl,ha⟩:=is_way.mp i1
 obtain ⟨g,fd,ps,hm,hb,F⟩:=M.ex
 refine ⟨a,dx,_,C,g,fd,ps,_,rfl,H1.sub _ _ ha,by simp [List.lookup,hne],M.cl,hm,hb,F,l1 ρ σ H1 _ (r.mono s1) q1 _ fun ds vs H2 s2 i2 q2=>?_⟩
 exact ⟨H2,_,Q,rfl,allIs_cons.mpr ⟨_,_,rfl,i1.mono s2,i2⟩,q2,fun d v H3 s3 i3 q3=>k d v H3 ((s1.trans s2).trans s3) i3 q3⟩
def Ug (X:Cx) (n:Nat) (m:Str) (ta:DTE):DTE:=fun ρ Q=>ta ρ fun d=>∃ C f k S,d=.way C f k∧(m == f)=false∧MOk X.prog X.w X.K X.mg X.base n C m S∧S [d] Q
theorem oS {pl:Sem Bool} (hr:Room n X.A) (he:DE X o ta)
  (ht:eval (.Call (.Attribute o m apos) [] [] pos) X.env=(do
   let ov ← eval o X.env
   standAt apos.atName
   let (f,first) ← holding [ov] (getMethod ov m pl)
   callWith pos f first (backTo pos (starEach [] X.env)) (backToKw pos (keywordEach [] X.env))):=by rfl):
  DE X (.Call (.Attribute o m apos) [] [] pos) (Ug X n m ta):=by
 obtain ⟨te,p0,l0⟩:=he
 refine ⟨_,l7 (pl:=pl) p0 hr ht,fun ρ σ H Q r h R k=>l0 ρ σ H _ r h _ fun d v H1 s1 i1 ⟨C,f,z,S,ed,hne,M,q1⟩=>?_⟩
 subst ed
 obtain ⟨a,dx,rfl,ha⟩:=is_way.mp i1
 obtain ⟨g,fd,ps,hm,hb,F⟩:=M.ex
 refine ⟨a,dx,_,C,g,fd,ps,_,rfl,H1.sub _ _ ha,by simp [List.lookup,hne],M.cl,hm,hb,F,?_⟩
 exact ⟨H1,_,Q,rfl,allIs_cons.mpr ⟨_,_,rfl,i1,allIs_nil.mpr rfl⟩,q1,fun d v H3 s3 i3 q3=>k d v H3 (s1.trans s3) i3 q3⟩
def RU (K:PySem.W.Frag) (f:Str) (ta:DTE):DTE:=fun ρ Q=>ta ρ fun d=>∃ C g k,d=.way C g k∧(f == g)=true∧Cls K C∧NoAttr K C f∧Q (.int k)
theorem zL {f:Str} (ha:DE X a ta) (hb:attributeBase a f X.env (eval a X.env)=eval a X.env:=by rfl):DE X (.Attribute a f pos) (RU X.K f ta):=by
 obtain ⟨te,p1,l1⟩:=ha
 refine ⟨_,Yu p1 hb,fun ρ σ H Q r h R k=>l1 ρ σ H _ r h _ fun d v H1 s1 i1 ⟨C,g,z,ed,hfg,hc,hn,q1⟩=>?_⟩
 subst ed
 obtain ⟨p,dx,rfl,hp⟩:=is_way.mp i1
 exact ⟨p,C,dx,_,.int z,rfl,H1.sub _ _ hp,hc,hn,by simp [List.lookup,hfg],k _ _ H1 s1 (is_int.mpr rfl) q1⟩
def xx (C:Addr) (f:Str) (ok:Int→Prop):Sp:=fun vs H Q _=>∃ p dx i,vs=[.ref p,.int i]∧H p=some (.ins C dx [])∧ok i∧∀ H':Hp,H' p=some (.ins C dx [(f,.int i)])→(∀ b o,H b=some o→b≠p→H' b=some o)→Q .non H'
structure KOk (P:Program) (w:World) (K:PySem.W.Frag) (mg:Str→Option Value) (base:Heap) (n:Nat) (x:Str) (C:Addr) (f:Str) (ok:Int→Prop):Prop where
 ex:∃ g fd ps,mg x=some (.ref C)∧Mk K C g∧Binds K fd ps []∧FnOk P w K mg base CX0 n g fd ps (xx C f ok)
def Sr (C:Addr) (f:Str) (ok:Int→Prop) (t:DTA):DTE:=fun ρ Q=>t ρ fun ds=>∃ i,ds=[.int i]∧ok i∧Q (.way C f i)
theorem vm {C:Addr} {f:Str} {ok:Int→Prop} (G:KOk X.prog X.w X.K X.mg X.base n x C f ok) (hr:Room (n+1) X.A) (hg:Gl X x) (ha:DA X (e::es) t) (hdb:(x == ("__debug__":Str))=false:=by decide)
  (he:starEach (e::es) X.env=(false,eval e X.env)::starEach es X.env:=by rfl) (hpl:(backTo pos (starEach es X.env)).any (·.1)=false:=by rfl):DE X (.Call (.Name x p) (e::es) [] pos) (Sr C f ok t):=by
 obtain ⟨g,fd,ps,hm,M,hb,F⟩:=G.ex
 obtain ⟨te,p1,l1⟩:=ha
 refine ⟨_,dG M F hr hg hm hb .nil rT p1 hdb he hpl,fun ρ σ H Q r h R k=>l1 ρ σ H _ r h _ fun ds vs H1 s1 i1 ⟨i,ed,hok,q1⟩ y dy ny ndy ne=>?_⟩
 subst ed
 obtain ⟨v,rfl,hv⟩:=i1.one
 obtain rfl:=is_int.mp hv
 refine ⟨y,dy,i,rfl,zw,hok,fun H' e1 e2=>⟨rfl,?_⟩⟩
 have keep:Same H1.h H':=fun b o hb=>e2 b o (by rw [zu (zW hb ny),zu (zW hb ndy)]; exact hb) (zW hb ny)
 have gy:H1.g y=none:=H1.sub.free ny
 exact k _ _ ⟨upd H1.g y (.ins C dy [(f,.int i)]),H',fun b u q=>by
   by_cases e:b=y
   ·subst e; rw [zw] at q; rw [e1]; exact q
   ·rw [zu e] at q; exact keep _ _ (H1.sub _ _ q)⟩
  (s1.trans ⟨zN gy _,keep,fun a z1 z2=>by
   have:a≠y:=fun e=>z1 (e ▸ ny)
   show upd H1.g y _ a=none
   rw [zu this]; exact z2⟩) (is_way.mpr ⟨y,dy,rfl,zw⟩) q1
structure Zl (K:PySem.W.Frag):Prop where
 ib:PySem.W.kitOne K (.type "int") (.type "bool")=some false
 it:PySem.W.kitOne K (.type "int") (.type "tuple")=some false
 il:PySem.W.kitOne K (.type "int") (.type "list")=some false
 bi:PySem.W.kitOne K (.type "bool") (.type "int")=some true
 bt:PySem.W.kitOne K (.type "bool") (.type "tuple")=some false
 bl:PySem.W.kitOne K (.type "bool") (.type "list")=some false
 ti:PySem.W.kitOne K (.type "tuple") (.type "int")=some false
 tb:PySem.W.kitOne K (.type "tuple") (.type "bool")=some false
 tl:PySem.W.kitOne K (.type "tuple") (.type "list")=some false
 li:PySem.W.kitOne K (.type "list") (.type "int")=some false
 lb:PySem.W.kitOne K (.type "list") (.type "bool")=some false
 lt:PySem.W.kitOne K (.type "list") (.type "tuple")=some false
theorem vX {K:PySem.W.Frag} {t:Value}:PySem.W.kitOne K t t=some true:=by
 unfold PySem.W.kitOne
 rw [if_pos (beq_self_eq_true t)]
theorem VM {K:PySem.W.Frag} {t c:String} {b:Bool} (h1:(Value.type t == Value.type c)=false) (h2:PySem.W.kitMeta c=true) (h3:(fastBuiltinMro t).map (·.contains (Value.type c))=some b):PySem.W.kitOne K (.type t) (.type c)=some b:=by
 unfold PySem.W.kitOne PySem.W.kitCls
 rw [if_neg (by rw [h1]; decide)]
 show (if PySem.W.kitMeta c=true then PySem.W.subIn K (.type t) (.type c) else none)=some b
 rw [if_pos h2]
 exact h3
theorem Rw (K:PySem.W.Frag):Zl K:=by
 constructor <;> exact VM (by decide +kernel) (by decide +kernel) (by decide +kernel)
inductive TyN where | int | bool | tuple | list
def TyN.str:TyN→String
 | .int=>"int" | .bool=>"bool" | .tuple=>"tuple" | .list=>"list"
def T3:Dt→TyN→Option Bool
 | .int _,.int=>some true | .int _,.bool=>some false | .int _,.tuple=>some false | .int _,.list=>some false
 | .bl _,.int=>some true | .bl _,.bool=>some true | .bl _,.tuple=>some false | .bl _,.list=>some false
 | .tup _,.int=>some false | .tup _,.bool=>some false | .tup _,.tuple=>some true | .tup _,.list=>some false
 | .lst _,.int=>some false | .lst _,.bool=>some false | .lst _,.tuple=>some false | .lst _,.list=>some true
 | _,_=>none
theorem VT {H:Vw} {d:Dt} {v:V} {T:TyN} {b:Bool} (kt:Zl K) (h:Is K H.g d v) (e:T3 d T=some b):∃ tv,vO K H.h v tv∧PySem.W.kitOne K tv (.type T.str)=some b:=by
 cases d with
 | int i=>
  obtain rfl:=is_int.mp h
  refine ⟨_,.int i,?_⟩
  cases T <;> (obtain rfl:=Option.some.inj e; first | exact vX | exact kt.ib | exact kt.it | exact kt.il)
 | bl i=>
  obtain rfl:=is_bl.mp h
  refine ⟨_,.bl i,?_⟩
  cases T <;> (obtain rfl:=Option.some.inj e; first | exact vX | exact kt.bi | exact kt.bt | exact kt.bl)
 | tup ds=>
  obtain ⟨a,xs,rfl,h1,_⟩:=is_tup.mp h
  refine ⟨_,.tup (H.sub _ _ h1),?_⟩
  cases T <;> (obtain rfl:=Option.some.inj e; first | exact vX | exact kt.ti | exact kt.tb | exact kt.tl)
 | lst ds=>
  obtain ⟨a,xs,rfl,h1,_⟩:=is_lst.mp h
  refine ⟨_,.lst (H.sub _ _ h1),?_⟩
  cases T <;> (obtain rfl:=Option.some.inj e; first | exact vX | exact kt.li | exact kt.lb | exact kt.lt)
 | _=>cases T <;> cases e
theorem fV:CallR X (.builtin "isinstance") (fun xs H Q=>∃ v T tv b,xs=[v,.ty T]∧vO X.K H v tv∧PySem.W.kitOne X.K tv (.type T)=some b∧Q (.bl b) H):=by
 intro pins s σ H xs us Q I r h
 obtain ⟨v,T,tv,b,rfl,hty,hk,q⟩:=h
 cases r with
 | cons r1 r2=>
  cases r2 with
  | cons r3 r4=>
   cases r4
   cases r3
   exact rW I r1 hty hk fun tk=>⟨.bl b,H,I.tok _,rfl,q⟩
def RQ (T:TyN) (ta:DTE):DTE:=fun ρ Q=>ta ρ fun d=>∃ b,T3 d T=some b∧Q (.bl b)
theorem mi {T:TyN} {y:Str} {p':Pos} (kt:Zl X.K) (hm:X.mg "isinstance"=none) (hmc:X.mg y=none) (hv:bootBuiltins y=some (.type T.str)) (ha:DE X a ta)
  (hg:Gl X "isinstance":=by rfl) (hgc:Gl X y:=by rfl) (hny:y≠"__name__":=by decide) (hdy:(y == ("__debug__":Str))=false:=by decide)
  (hs:starEach [a,.Name y p'] X.env=(false,eval a X.env)::starEach [.Name y p'] X.env:=by rfl) (hs2:starEach [.Name y p'] X.env=(false,eval (.Name y p') X.env)::starEach [] X.env:=by rfl)
  (hpl:(backTo pos (starEach [.Name y p'] X.env)).any (·.1)=false:=by rfl):
  DE X (.Call (.Name "isinstance" p) [a,.Name y p'] [] pos) (RQ T ta):=by
 obtain ⟨te,p1,l1⟩:=ha
 have pc:PE X (.Name y p') (tC (.ty T.str)):=dI hgc hmc hv rfl hny hdy
 refine ⟨_,yG fV hg hm boot_isinstance (zI p1 (zI pc ym hs2) hs) (by decide) (by decide) hs hpl,fun ρ σ H Q r h R k=>l1 ρ σ H _ r h _ fun d v H1 s1 i1 ⟨b,e,q⟩=>?_⟩
 obtain ⟨tv,h1,h2⟩:=VT kt i1 e
 exact ⟨v,T.str,tv,b,rfl,h1,h2,k _ _ H1 s1 (is_bl.mpr rfl) q⟩
end
structure DEnds where
 nx:DS→Prop
 rt:Dt→Prop
 bk:DS→Prop:=fun _=>False
 ct:DS→Prop:=fun _=>False
abbrev DTS:=DEnds→DS→Prop
structure At (K:PySem.W.Frag) (Z:Hp) (W0:Vw) (G:Hp) (W:Vw) (ρ:DS) (σ:St):Prop where
 le:Le W0 W
 gs:Same G W.g
 rl:Rl K Z W0.h W ρ σ
inductive Fr where | d | l | t (a b:Bool)
def NewL (K:PySem.W.Frag) (F:Hp) (W:Vw) (d:Dt) (v:V):Prop:=∃ es p xs,d=.lst es∧v=.ref p∧F p=none∧W.h p=some (.lst xs)∧W.g p=none∧AllIs K W.g es xs
def Prt (K:PySem.W.Frag) (F:Hp) (W:Vw) (b:Bool) (d:Dt) (v:V):Prop:=match b with
 | false=>Is K W.g d v
 | true=>NewL K F W d v∨pW d=true∧Is K W.g d v
def Tld (K:PySem.W.Frag) (F:Hp) (W:Vw):Fr→Dt→V→Prop
 | .d,d,v=>Is K W.g d v
 | .l,d,v=>NewL K F W d v
 | .t a b,d,v=>∃ d1 d2 q u1 u2,d=.tup [d1,d2]∧v=.ref q∧W.g q=some (.tup [u1,u2])∧Prt K F W a d1 u1∧Prt K F W b d2 u2∧(∀ es fs,a=true→b=true→d1=.lst es→d2=.lst fs→u1≠u2)
structure Sim (K:PySem.W.Frag) (Z:Hp) (fr:Fr) (W0:Vw) (G:Hp) (D:DEnds) (D':Ends):Prop where
 nx:∀ ρ σ W',At K Z W0 G W' ρ σ→D.nx ρ→D'.nx σ W'.h
 tl:∀ d v W',Le W0 W'→Tld K W0.h W' fr d v→D.rt d→D'.rt v W'.h
 bk:∀ ρ σ W',At K Z W0 G W' ρ σ→D.bk ρ→D'.bk σ W'.h
 ct:∀ ρ σ W',At K Z W0 G W' ρ σ→D.ct ρ→D'.ct σ W'.h
theorem NewL.le {F G:Hp} {W:Vw} {d:Dt} {v:V} (h:NewL K F W d v) (z:∀ p,F p=none→G p=none):NewL K G W d v:=
 let ⟨es,p,xs,h1,h2,h3,h4⟩:=h; ⟨es,p,xs,h1,h2,z p h3,h4⟩
theorem Sim.rf {Z:Hp} {fr:Fr} {W0:Vw} {G:Hp} {D:DEnds} {D':Ends} (s:Sim K Z fr W0 G D D') (hf:fr=.d∨fr=.l) (es:List Dt) (p:Addr) (xs:List V) (W':Vw) (le:Le W0 W') (h0:W0.h p=none) (h1:W'.h p=some (.lst xs)) (h2:W'.g p=none) (h3:AllIs K W'.g es xs) (q:D.rt (.lst es)):D'.rt (.ref p) W'.h:=by
 rcases hf with rfl | rfl
 ·exact s.tl (.lst es) (.ref p) (W'.frz p _ h1) (uQ le h0 h1 h2) (is_lst.mpr ⟨p,xs,rfl,zw,AllIs.mono0 (zN h2 _) h3⟩) q
 ·exact s.tl (.lst es) (.ref p) W' le ⟨es,p,xs,rfl,rfl,h0,h1,h2,h3⟩ q
section
variable {W0:Vw} {G G':Hp} {ρ:DS} {σ:St} {fr:Fr}
theorem At.step (a:At K Z W0 G W ρ σ) (s:Le W W'):At K Z W0 G W' ρ σ:=⟨a.le.trans s,a.gs.trans s.g,a.rl.mono s⟩
theorem At.set (a:At K Z W0 G W ρ σ) {d:Dt} {v:V} (i:Nat) (h:Is K W.g d v):At K Z W0 G W (ρ.set i (.some d)) (σ.set i (some v)):=⟨a.le,a.gs,a.rl.set i h⟩
theorem At.weak (a:At K Z W0 G W ρ σ) (s:Same G' G):At K Z W0 G' W ρ σ:=⟨a.le,s.trans a.gs,a.rl⟩
theorem At.own (a:At K Z W0 G W ρ σ) (s:Le W W') {p:Addr} {xs:List V} {ds:List Dt} (i:Nat) (h0:W.h p=none) (h1:W'.h p=some (.lst xs)) (h2:W'.g p=none) (h3:AllIs K W'.g ds xs):
  At K Z W0 G W' (ρ.set i (.own ds)) (σ.set i (some (.ref p))):=⟨a.le.trans s,a.gs.trans s.g,a.rl.own s i h0 h1 h2 h3⟩
theorem At.put (at_:At K Z W0 G W ρ σ) {i:Nat} {ds es:List Dt} {a:Addr} {ys:List V} (hi:ρ[i]? = some (.own ds)) (ha:σ[i]? = some (some (.ref a))) (hg:W.g a=none) (hF:W0.h a=none) (h3:AllIs K W.g es ys):
  At K Z W0 G (W.mine a (.lst ys) hg) (ρ.set i (.own es)) σ:=
 ⟨⟨at_.le.g,fun b o q=>by
   have:b≠a:=fun e=>by rw [e,hF] at q; cases q
   show upd W.h a _ b=some o
   rw [zu this]; exact at_.le.h _ _ q,at_.le.n⟩,at_.gs,at_.rl.put hi ha hg hF h3⟩
theorem At.frz (at_:At K Z W0 G W ρ σ) {i:Nat} {ds:List Dt} {a:Addr} {xs:List V} (hi:ρ[i]? = some (.own ds)) (ha:σ[i]? = some (some (.ref a))) (hh:W.h a=some (.lst xs)) (hg:W.g a=none) (hF:W0.h a=none) (h3:AllIs K W.g ds xs):
  At K Z W0 G (W.frz a _ hh) (ρ.set i (.some (.lst ds))) σ:=
 ⟨uQ at_.le hF hh hg,at_.gs.trans (zN hg _),at_.rl.frz hi ha hh hg h3⟩
theorem Sim.weak {D:DEnds} {D':Ends} (h:Sim K Z fr W0 G' D D') (s:Same G' G):Sim K Z fr W0 G D D':=
 ⟨fun ρ σ W' a=>h.nx ρ σ W' (a.weak s),h.tl,fun ρ σ W' a=>h.bk ρ σ W' (a.weak s),fun ρ σ W' a=>h.ct ρ σ W' (a.weak s)⟩
end
def LiS (K:PySem.W.Frag) (Z:Hp) (fr:Fr) (ts:TS) (t:DTS):Prop:=∀ (W0:Vw) (G:Hp) (ρ:DS) (σ:St) (W:Vw) (D:DEnds) (D':Ends),At K Z W0 G W ρ σ→Sim K Z fr W0 G D D'→t D ρ→ts D' σ W.h
def DSt (X:Cx) (fr:Fr) (st:Stmt) (t:DTS):Prop:=∃ ts,PS X st ts∧LiS X.K (Zx X) fr ts t
def DSs (X:Cx) (fr:Fr) (sts:List Stmt) (t:DTS):Prop:=∃ ts,PSs X sts ts∧LiS X.K (Zx X) fr ts t
def So:DTS:=fun D ρ=>D.nx ρ
def RI (t u:DTS):DTS:=fun D ρ=>t { D with nx:=u D } ρ
def Sk (te:DTE):DTS:=fun D ρ=>te ρ D.rt
def Sj (i:Nat):DTS:=fun D ρ=>∃ ds,ρ[i]? = some (.own ds)∧D.rt (.lst ds)
def RH (i:Nat) (te:DTE):DTS:=fun D ρ=>te ρ fun d=>D.nx (ρ.set i (.some d))
def Sg (i:Nat) (te:DTE):DTS:=fun D ρ=>te ρ fun d=>∃ ds,d=.lst ds∧D.nx (ρ.set i (.own ds))
def RS (c:DTT) (t u:DTS):DTS:=fun D ρ=>c ρ fun b=>if b=true then t D ρ else u D ρ
def SC (te:DTE):DTS:=fun D ρ=>te ρ fun _=>D.nx ρ
def Ue:DTS:=fun _ _=>False
def RD (i j:Nat) (te:DTE):DTS:=fun D ρ=>te ρ fun d=>∃ a b,d=.tup [a,b]∧D.nx ((ρ.set i (.some a)).set j (.some b))
def Sy (j:Nat) (te:DTE) (tb:DTS):DTS:=fun D ρ=>te ρ fun d=>∃ (ds:List Dt) (Pv:Nat→DS→Prop),wm d=some ds∧Pv 0 ρ∧
 (∀ i e ρ',ds[i]? = some e→Pv i ρ'→tb { D with nx:=Pv (i+1),ct:=Pv (i+1),bk:=D.nx } (ρ'.set j (.some e)))∧∀ ρ',Pv ds.length ρ'→D.nx ρ'
def Sx (j:Nat) (te:DTE) (tb:DTS):DTS:=fun D ρ=>te ρ fun d=>∃ (n:Int) (Pv:Nat→DS→Prop),d=.int n∧-(2 ^ 62)≤n∧n<2 ^ 62∧Pv 0 ρ∧
 (∀ (i:Nat) ρ',i<n.toNat→Pv i ρ'→tb { D with nx:=Pv (i+1),ct:=Pv (i+1),bk:=D.nx } (ρ'.set j (.some (.int i))))∧∀ ρ',Pv n.toNat ρ'→D.nx ρ'
def Ui (j:Nat) (ta:DTA) (tb:DTS):DTS:=fun D ρ=>ta ρ fun ds=>∃ (m n:Int) (Pv:Nat→DS→Prop),ds=[.int m,.int n]∧-(2 ^ 62)≤m∧m<2 ^ 62∧-(2 ^ 62)≤n∧n<2 ^ 62∧Pv 0 ρ∧
 (∀ (i:Nat) ρ',i<(n - m).toNat→Pv i ρ'→tb { D with nx:=Pv (i+1),ct:=Pv (i+1),bk:=D.nx } (ρ'.set j (.some (.int (m+i)))))∧∀ ρ',Pv (n - m).toNat ρ'→D.nx ρ'
def mj (c:DTT) (tb:DTS):DTS:=fun D ρ=>∃ Pv:Nat→DS→Prop,(∃ m,Pv m ρ)∧∀ m ρ',Pv m ρ'→
 c ρ' fun b=>if b=true then tb { D with nx:=fun ρ2=>∃ m',m'<m∧Pv m' ρ2,ct:=fun ρ2=>∃ m',m'<m∧Pv m' ρ2,bk:=D.nx } ρ' else D.nx ρ'
section
variable {X:Cx} {fr:Fr} {st:Stmt} {yX:List Stmt} {t u:DTS} {e:Expr} {te:DTE} {pos p0 p1 p2:Pos}
theorem zn:DSs X fr [] So:=⟨_,dz,fun W0 G ρ σ W D D' a s h=>s.nx ρ σ W a h⟩
theorem zf (h1:DSt X fr st t) (h2:DSs X fr yX u):DSs X fr (st::yX) (RI t u):=by
 obtain ⟨ts,p1,l1⟩:=h1
 obtain ⟨us,p2,l2⟩:=h2
 exact ⟨_,p9 p1 p2,fun W0 G ρ σ W D D' a s h=>l1 W0 G ρ σ W { D with nx:=u D } { D' with nx:=us D' } a ⟨fun ρ' σ' W' a' q=>l2 W0 G ρ' σ' W' D D' a' s q,s.tl,s.bk,s.ct⟩ h⟩
theorem zg (h:DSt X fr st t):DSs X fr [st] t:=let ⟨_,p,l⟩:=h; ⟨_,wd p,l⟩
def RT (i:Nat) (t:DTS):DTS:=fun D ρ=>∃ ds,ρ[i]? = some (.own ds)∧t D (ρ.set i (.some (.lst ds)))
theorem xB (i:Nat) (h:DSs X fr yX t):DSs X fr yX (RT i t):=by
 obtain ⟨ts,p,l⟩:=h
 refine ⟨ts,p,fun W0 G ρ σ W D D' a s h=>?_⟩
 obtain ⟨ds,e,q⟩:=h
 obtain ⟨b,xs,e1,e2,e3,e4,e5⟩:=a.rl.ow i ds e
 exact l W0 G _ σ (W.frz b _ e2) D D' (a.frz e e1 e2 e3 e4 e5) s q
theorem zl (h:DE X e te):DSt X .d (.Return (some e) pos) (Sk te):=by
 obtain ⟨tt,p,l⟩:=h
 exact ⟨_,qG p,fun W0 G ρ σ W D D' a s h=>l ρ σ W _ a.rl h _ fun d v W1 s1 i1 q1=>s.tl d v W1 (a.le.trans s1) i1 q1⟩
theorem yT (h:DF X e te) (hf:fr=.d∨fr=.l:=by first | exact .inl rfl | exact .inr rfl):DSt X fr (.Return (some e) pos) (Sk te):=by
 obtain ⟨tt,p,l⟩:=h
 exact ⟨_,qG p,fun W0 G ρ σ W D D' a s h=>l ρ σ W _ a.rl h _ fun es q xs W1 s1 h0 h1 h2 i1 q1=>s.rf hf es q xs W1 (a.le.trans s1) (a.le.h.free h0) h1 h2 i1 q1⟩
theorem ue (i:Nat) {x:Str} (hN:X.N[i]? = some x:=by rfl) (hv:Vis X.env.scope x:=by first | exact Or.inl rfl | exact Or.inr (Or.inl rfl) | exact Or.inr (Or.inr rfl)) (hd:(x == ("__debug__":Str))=false:=by decide)
  (hcd:(x == ("__classdict__":Str))=false:=by decide) (hf:fr=.d∨fr=.l:=by first | exact .inl rfl | exact .inr rfl):DSt X fr (.Return (some (.Name x p0)) pos) (Sj i):=by
 refine ⟨_,qG (yl hN hv hd hcd),fun W0 G ρ σ W D D' a s h=>?_⟩
 obtain ⟨ds,e,q⟩:=h
 obtain ⟨b,xs,e1,e2,e3,e4,e5⟩:=a.rl.ow i ds e
 exact ⟨.ref b,e1,s.rf hf ds b xs W a.le e4 e2 e3 e5 q⟩
theorem uh (h:DE X e te) (hs:swapsWith e none pos.line X.env=pure false:=by rfl):DSt X fr (.Expr e pos) (SC te):=by
 obtain ⟨tt,p,l⟩:=h
 exact ⟨_,wg p hs,fun W0 G ρ σ W D D' a s h=>l ρ σ W _ a.rl h _ fun d v W1 s1 i1 q1=>s.nx ρ σ W1 (a.step s1) q1⟩
theorem zo {i:Nat} {x:Str} {pos':Pos} (hN:X.N.Nodup) (hi:X.N[i]? = some x) (hx:Loc X.env.scope x) (h:DE X e te) (hs:swapsWith e (some (.Name x pos')) pos.line X.env=pure false:=by rfl) (hf:X.fn x=true∨X.env.scope.names.lookup x=some .local:=by first | exact .inl rfl | exact .inr rfl | assumption):
  DSt X fr (.Assign [.Name x pos'] e pos) (RH i te):=by
 obtain ⟨tt,p,l⟩:=h
 exact ⟨_,jw hN hi hx p hs hf,fun W0 G ρ σ W D D' a s h=>l ρ σ W _ a.rl h _ fun d v W1 s1 i1 q1=>s.nx _ _ W1 ((a.step s1).set i i1) q1⟩
theorem yb {i:Nat} {x:Str} {pos':Pos} (hN:X.N.Nodup) (hi:X.N[i]? = some x) (hx:Loc X.env.scope x) (h:DF X e te) (hs:swapsWith e (some (.Name x pos')) pos.line X.env=pure false:=by rfl) (hf:X.fn x=true∨X.env.scope.names.lookup x=some .local:=by first | exact .inl rfl | exact .inr rfl | assumption):
  DSt X fr (.Assign [.Name x pos'] e pos) (Sg i te):=by
 obtain ⟨tt,p,l⟩:=h
 refine ⟨_,jw hN hi hx p hs hf,fun W0 G ρ σ W D D' a s h=>l ρ σ W _ a.rl h _ fun es q xs W1 s1 h0 h1 h2 i1 ⟨ds,ed,q1⟩=>?_⟩
 cases ed
 exact s.nx _ _ W1 (a.own s1 i h0 h1 h2 i1) q1
theorem zB {c:Expr} {a b:List Stmt} {tc:DTT} (hc:DT X c tc) (ha:DSs X fr a t) (hb:DSs X fr b u):DSt X fr (.If c a b pos) (RS tc t u):=by
 obtain ⟨t0,p0,l0⟩:=hc
 obtain ⟨t1,p1,l1⟩:=ha
 obtain ⟨t2,p2,l2⟩:=hb
 refine ⟨_,UN p0 p1 p2,fun W0 G ρ σ W D D' a s h=>l0 ρ σ W _ a.rl h _ fun k W1 s1 q1=>?_⟩
 cases k with
 | true=>exact l1 W0 G ρ σ W1 D D' (a.step s1) s q1
 | false=>exact l2 W0 G ρ σ W1 D D' (a.step s1) s q1
theorem w4:DSt X fr st Ue:=⟨_,jy,fun _ _ _ _ _ _ _ _ _ h=>h.elim⟩
theorem ma {i j:Nat} {x y:Str} {px py pt:Pos} {kt:Nat} (hc:X.calm=true) (hN:X.N.Nodup) (hi:X.N[i]? = some x) (hj:X.N[j]? = some y) (hx:Loc X.env.scope x) (hy:Loc X.env.scope y) (h:DE X e te)
  (hf:X.fn x=true∨X.env.scope.names.lookup x=some .local:=by first | exact .inl rfl | exact .inr rfl | assumption) (hf2:X.fn y=true∨X.env.scope.names.lookup y=some .local:=by first | exact .inl rfl | exact .inr rfl | assumption)
  (hs:swapsWithSole [.Tuple [.Name x px,.Name y py] kt pt] e pos.line X.env=pure false:=by rfl) (hw:swappedStores [.Tuple [.Name x px,.Name y py] kt pt] e X.env=pure none:=by rfl):
  DSt X fr (.Assign [.Tuple [.Name x px,.Name y py] kt pt] e pos) (RD i j te):=by
 obtain ⟨tt,p,l⟩:=h
 refine ⟨_,jz p (qJ hc (yY (ya hN hi hx hf) (yY (ya hN hj hy hf2) tR))) hs hw,fun W0 G ρ σ W D D' at_ s h=>l ρ σ W _ at_.rl h _ fun d v W1 s1 i1 ⟨a,b,ed,q1⟩=>?_⟩
 subst ed
 obtain ⟨q,xs,rfl,hq,ha⟩:=is_tup.mp i1
 obtain ⟨v1,v2,rfl,h1,h2⟩:=ha.two
 refine ⟨q,_,rfl,.of (W1.sub _ _ hq),rfl,v1,[v2],rfl,v2,[],rfl,rfl,?_⟩
 exact s.nx _ _ W1 (((at_.step s1).set i h1).set j h2) q1
def InL (K:PySem.W.Frag) (Z:Hp) (W0 W1:Vw) (Pv:DS→Prop) (σ:St) (H:Hp):Prop:=∃ (ρ:DS) (W:Vw),W.h=H∧At K Z W0 W1.g W ρ σ∧Pv ρ
theorem xj {K:PySem.W.Frag} {W0 W1:Vw} {G:Hp} {D:DEnds} {D':Ends} {Pv:DS→Prop} (s:Sim K Z fr W0 G D D') (hg:Same G W1.g):
  Sim K Z fr W0 W1.g { D with nx:=Pv,ct:=Pv,bk:=D.nx } { D' with nx:=InL K Z W0 W1 Pv,ct:=InL K Z W0 W1 Pv,bk:=D'.nx }:=
 ⟨fun ρ3 σ3 W3 a3 q3=>⟨ρ3,W3,rfl,a3,q3⟩,s.tl,fun ρ3 σ3 W3 a3 q3=>s.nx ρ3 σ3 W3 (a3.weak hg) q3,fun ρ3 σ3 W3 a3 q3=>⟨ρ3,W3,rfl,a3,q3⟩⟩
theorem At.now {K:PySem.W.Frag} {W0:Vw} {G:Hp} {W:Vw} {ρ:DS} {σ:St} (a:At K Z W0 G W ρ σ):At K Z W0 W.g W ρ σ:=⟨a.le,Same.refl _,a.rl⟩
theorem md {j:Nat} {x:Str} {iter:Expr} {body:List Stmt} {tb:DTS} {px:Pos} (hc:X.calm=true) (hN:X.N.Nodup) (hi:X.N[j]? = some x) (hx:Loc X.env.scope x) (hp:PassesOwn (model X.prog X.w) X.A X.env X.xe)
  (h:DE X iter te) (hb:DSs X fr body tb) (hs:∀ x,foldedSetIterable iter X.env x=pure x:=by intro _; rfl)
  (hf:X.fn x=true∨X.env.scope.names.lookup x=some .local:=by first | exact .inl rfl | exact .inr rfl | assumption):DSt X fr (.For (.Name x px) iter body [] pos) (Sy j te tb):=by
 obtain ⟨tt,p,l⟩:=h
 obtain ⟨tbs,p2,l2⟩:=hb
 refine ⟨_,uG hp hc (qI p) (ya hN hi hx hf) p2 hs,fun W0 G ρ σ W D D' at_ s h=>l ρ σ W _ at_.rl h _ fun d v W1 s1 i1 ⟨ds,Pv,el,h0,ht,hd⟩=>?_⟩
 have hg:Same G W1.g:=at_.gs.trans s1.g
 have hq:∃ a xs,v=.ref a∧(∀ W2:Vw,Same W1.g W2.g→SqL X.K W2.h a xs)∧AllIs X.K W1.g ds xs:=by
  cases d with
  | lst es=>
   obtain rfl:es=ds:=Option.some.inj el
   obtain ⟨a,xs,rfl,h1,h2⟩:=is_lst.mp i1
   exact ⟨a,xs,rfl,fun W2 s2=>.of (W2.sub _ _ (s2 _ _ h1)),h2⟩
  | scr ns=>
   obtain rfl:ns.map Dt.int=ds:=Option.some.inj el
   obtain ⟨a,rfl,h1⟩:=is_scr.mp i1
   exact ⟨a,_,rfl,fun W2 s2=>W2.sub.seq (s2.seq h1),AllIs.ints⟩
  | _=>cases el
 obtain ⟨a,xs,rfl,hq,ha⟩:=hq
 refine ⟨a,rfl,⟨xs,hq W1 (Same.refl _)⟩,oK (K:=X.K) (a:=a) (xs:=xs) (fun i=>InL X.K (Zx X) W0 W1 (Pv i)) ⟨ρ,W1,rfl,(at_.step s1).now,h0⟩ (fun i σ' H' _ ⟨_,W2,e2,a2,_⟩=>e2 ▸ hq W2 a2.gs) ?_ ?_⟩
 ·rintro i x σ' _ hi ⟨ρ',W2,rfl,a2,hp2⟩
  obtain ⟨e,he,ie⟩:=ha.get' hi
  exact l2 W0 W1.g _ _ W2 { D with nx:=Pv (i+1),ct:=Pv (i+1),bk:=D.nx } _ (a2.set j (Is.mono0 a2.gs ie)) (xj s hg) (ht i e ρ' he hp2)
 ·rintro σ' _ ⟨ρ',W2,rfl,a2,hp2⟩
  exact s.nx ρ' σ' W2 (a2.weak hg) (hd ρ' (by rw [ha.length]; exact hp2))
theorem lf {j:Nat} {x:Str} {a:Expr} {body:List Stmt} {tb:DTS} {px p0 pos1:Pos} (hc:X.calm=true) (hN:X.N.Nodup) (hi:X.N[j]? = some x) (hx:Loc X.env.scope x) (hp:PassesOwn (model X.prog X.w) X.A X.env X.xe)
  (hg:Gl X "range") (hm:X.mg "range"=none) (h:DE X a te) (hb:DSs X fr body tb) (hs:∀ x,foldedSetIterable (.Call (.Name "range" p0) [a] [] pos1) X.env x=pure x:=by intro _; rfl)
  (hst:starEach [a] X.env=[(false,eval a X.env)]:=by rfl) (hst2:starEach [a] X.env=(false,eval a X.env)::starEach [] X.env:=by rfl)
  (hf:X.fn x=true∨X.env.scope.names.lookup x=some .local:=by first | exact .inl rfl | exact .inr rfl | assumption):DSt X fr (.For (.Name x px) (.Call (.Name "range" p0) [a] [] pos1) body [] pos) (Sx j te tb):=by
 obtain ⟨tt,p,l⟩:=h
 obtain ⟨tbs,p2,l2⟩:=hb
 refine ⟨_,uG hp hc (rS hg hm (zI p ym hst2) hst) (ya hN hi hx hf) p2 hs,fun W0 G ρ σ W D D' at_ s h=>l ρ σ W _ at_.rl h _ fun d v W1 s1 i1 ⟨n,Pv,ed,n1,n2,h0,ht,hd⟩=>?_⟩
 subst ed
 have hg:Same G W1.g:=at_.gs.trans s1.g
 refine ⟨n,by rw [is_int.mp i1],n1,n2,rY (lo:=0) (n:=n.toNat) (fun i=>InL X.K (Zx X) W0 W1 (Pv i)) ⟨ρ,W1,rfl,(at_.step s1).now,h0⟩ ?_ ?_⟩
 ·rintro i σ' _ hi ⟨ρ',W2,rfl,a2,hp2⟩
  have ez:(0:Int)+(i:Int)=(i:Int):=Int.zero_add _
  rw [ez]
  exact l2 W0 W1.g _ _ W2 { D with nx:=Pv (i+1),ct:=Pv (i+1),bk:=D.nx } _ (a2.set j (is_int.mpr rfl)) (xj s hg) (ht i ρ' hi hp2)
 ·rintro σ' _ ⟨ρ',W2,rfl,a2,hp2⟩
  exact s.nx ρ' σ' W2 (a2.weak hg) (hd ρ' hp2)
theorem xS {c:Expr} {body:List Stmt} {tc:DTT} {tb:DTS} (hp:PassesOwn (model X.prog X.w) X.A X.env X.xe) (hc:DT X c tc) (hb:DSs X fr body tb):DSt X fr (.While c body [] pos) (mj tc tb):=by
 obtain ⟨t0,p0,l0⟩:=hc
 obtain ⟨tbs,p2,l2⟩:=hb
 refine ⟨_,ju hp p0 p2,fun W0 G ρ σ W D D' at_ s h=>?_⟩
 obtain ⟨Pv,⟨m0,h0⟩,ht⟩:=h
 refine ⟨fun m=>InL X.K (Zx X) W0 W (Pv m),⟨m0,ρ,W,rfl,at_.now,h0⟩,?_⟩
 rintro m σ' _ ⟨ρ',W2,rfl,a2,hp2⟩
 refine l0 ρ' σ' W2 _ a2.rl (ht m ρ' hp2) _ fun b W3 s3 q3=>?_
 have a3:=a2.step s3
 cases b with
 | true=>
  refine ⟨InL X.K (Zx X) W0 W (fun ρ2=>∃ m',m'<m∧Pv m' ρ2),fun σ4 H4 ⟨ρ4,W4,e4,a4,m',hm,p4⟩=>⟨m',hm,ρ4,W4,e4,a4,p4⟩,?_⟩
  exact l2 W0 W.g _ _ W3 { D with nx:=fun ρ2=>∃ m',m'<m∧Pv m' ρ2,ct:=fun ρ2=>∃ m',m'<m∧Pv m' ρ2,bk:=D.nx } _ a3 (xj s at_.gs) q3
 | false=>exact s.nx ρ' σ' W3 (a3.weak at_.gs) q3
variable {i:Nat} {x:Str}
def RW (i:Nat) (te:DTE):DTS:=fun D ρ=>∃ ds,ρ[i]? = some (.own ds)∧te ρ fun d=>ds.length≤100000∧D.nx (ρ.set i (.own (ds++[d])))
theorem wq (i:Nat) (h:DE X e te) (hN:X.N[i]? = some x:=by rfl) (hv:Vis X.env.scope x:=by first | exact Or.inl rfl | exact Or.inr (Or.inl rfl) | exact Or.inr (Or.inr rfl)) (hd:(x == ("__debug__":Str))=false:=by decide)
  (hcd:(x == ("__classdict__":Str))=false:=by decide) (hst:starEach [e] X.env=(false,eval e X.env)::starEach [] X.env:=by rfl) (hpl:(backTo p2 (starEach [] X.env)).any (·.1)=false:=by rfl)
  (hfew:((backTo p2 (starEach [e] X.env)).all (fun x=>!x.1) && (backToKw p2 (keywordEach [] X.env)).all (fun x=>x.1.isSome)
   && decide ([e].length+([]:List Keyword).length+(if ([]:List Keyword).isEmpty then 0 else 1)<30))=true:=by rfl)
  (hbase:attributeBase (.Name x p0) "append" X.env (eval (.Name x p0) X.env)=eval (.Name x p0) X.env:=by rfl) (hline:(p1.endLine == p2.line)=true:=by rfl)
  (hs:swapsWith (.Call (.Attribute (.Name x p0) "append" p1) [e] [] p2) none pos.line X.env=pure false:=by rfl):
  DSt X fr (.Expr (.Call (.Attribute (.Name x p0) "append" p1) [e] [] p2) pos) (RW i te):=by
 obtain ⟨tt,p,l⟩:=h
 refine ⟨_,wg (jJ PySem.F.plainAttrs_list PySem.F.slot_list_append PySem.F.type_list_append uO (yl hN hv hd hcd) (zI p ym hst) hbase hfew hline hst hpl) hs,fun W0 G ρ σ W D D' at_ s h=>?_⟩
 obtain ⟨ds,ei,h⟩:=h
 obtain ⟨b,xs,e1,e2,e3,e4,e5⟩:=at_.rl.ow i ds ei
 refine ⟨.ref b,e1,.inl ⟨rfl,xs,.of e2⟩,l ρ σ W _ at_.rl h _ fun d v W1 s1 i1 ⟨hl,q1⟩=>?_⟩
 have a1:=at_.step s1
 have hg1:W1.g b=none:=s1.n b (by rw [e2]; intro z; cases z) e3
 refine ⟨b,xs,v,rfl,rfl,s1.h _ _ e2,by rw [← e5.length]; exact Nat.lt_of_le_of_lt hl (by decide),?_⟩
 exact s.nx _ _ _ (a1.put ei e1 hg1 e4 ((e5.mono s1).append (allIs_cons.mpr ⟨v,[],rfl,i1,allIs_nil.mpr rfl⟩))) q1
theorem AllIs.dropLast {G:Hp} {ds:List Dt} {xs:List V} (h:AllIs K G ds xs):AllIs K G ds.dropLast xs.dropLast:=by
 rw [List.dropLast_eq_take,List.dropLast_eq_take,h.length]
 exact h.take _
theorem AllIs.reverse {G:Hp}:∀ {ds:List Dt} {xs:List V},AllIs K G ds xs→AllIs K G ds.reverse xs.reverse
 | [],_,h=>by rw [allIs_nil.mp h]; exact allIs_nil.mpr rfl
 | d::ds,_,h=>by
  obtain ⟨x,r,rfl,h1,h2⟩:=allIs_cons.mp h
  rw [List.reverse_cons,List.reverse_cons]
  exact (AllIs.reverse h2).append (allIs_cons.mpr ⟨x,[],rfl,h1,allIs_nil.mpr rfl⟩)
theorem AllIs.set {G:Hp}:∀ {ds:List Dt} {xs:List V} {d:Dt} {v:V} (j:Nat),AllIs K G ds xs→Is K G d v→AllIs K G (ds.set j d) (xs.set j v)
 | [],_,_,_,_,h,_=>by rw [allIs_nil.mp h]; exact allIs_nil.mpr rfl
 | d::ds,_,_,_,0,h,i=>by
  obtain ⟨x,r,rfl,h1,h2⟩:=allIs_cons.mp h
  exact allIs_cons.mpr ⟨_,_,rfl,i,h2⟩
 | d::ds,_,_,_,j+1,h,i=>by
  obtain ⟨x,r,rfl,h1,h2⟩:=allIs_cons.mp h
  exact allIs_cons.mpr ⟨_,_,rfl,h1,AllIs.set j h2 i⟩
def Uc (i:Nat):DTS:=fun D ρ=>∃ ds,ρ[i]? = some (.own ds)∧ds.isEmpty=false∧D.nx (ρ.set i (.own ds.dropLast))
theorem fu (i:Nat) (hN:X.N[i]? = some x:=by rfl) (hv:Vis X.env.scope x:=by first | exact Or.inl rfl | exact Or.inr (Or.inl rfl) | exact Or.inr (Or.inr rfl)) (hd:(x == ("__debug__":Str))=false:=by decide)
  (hcd:(x == ("__classdict__":Str))=false:=by decide)
  (hbase:attributeBase (.Name x p0) "pop" X.env (eval (.Name x p0) X.env)=eval (.Name x p0) X.env:=by rfl) (hline:(p1.endLine == p2.line)=true:=by rfl)
  (hs:swapsWith (.Call (.Attribute (.Name x p0) "pop" p1) [] [] p2) none pos.line X.env=pure false:=by rfl):
  DSt X fr (.Expr (.Call (.Attribute (.Name x p0) "pop" p1) [] [] p2) pos) (Uc i):=by
 refine ⟨_,wg (jI PySem.F.plainAttrs_list PySem.F.slot_list_pop PySem.F.type_list_pop VJ (yl hN hv hd hcd) hbase hline) hs,fun W0 G ρ σ W D D' at_ s h=>?_⟩
 obtain ⟨ds,ei,hne,q1⟩:=h
 obtain ⟨b,xs,e1,e2,e3,e4,e5⟩:=at_.rl.ow i ds ei
 have hx:xs≠[]:=fun z=>by
  have:=e5.length
  rw [z] at this
  rw [List.length_eq_zero_iff.mp this] at hne
  cases hne
 have hlt:xs.length - 1<xs.length:=by
  have:=List.length_pos_iff.mpr hx
  omega
 exact ⟨.ref b,e1,.inl ⟨rfl,xs,.of e2⟩,b,xs,xs[xs.length - 1],rfl,rfl,e2,List.getElem?_eq_getElem hlt,s.nx _ _ _ (at_.put ei e1 e3 e4 e5.dropLast) q1⟩
def RJ (i:Nat):DTS:=fun D ρ=>∃ ds,ρ[i]? = some (.own ds)∧D.nx (ρ.set i (.own ds.reverse))
theorem fq (i:Nat) (hN:X.N[i]? = some x:=by rfl) (hv:Vis X.env.scope x:=by first | exact Or.inl rfl | exact Or.inr (Or.inl rfl) | exact Or.inr (Or.inr rfl)) (hd:(x == ("__debug__":Str))=false:=by decide)
  (hcd:(x == ("__classdict__":Str))=false:=by decide)
  (hbase:attributeBase (.Name x p0) "reverse" X.env (eval (.Name x p0) X.env)=eval (.Name x p0) X.env:=by rfl) (hline:(p1.endLine == p2.line)=true:=by rfl)
  (hs:swapsWith (.Call (.Attribute (.Name x p0) "reverse" p1) [] [] p2) none pos.line X.env=pure false:=by rfl):
  DSt X fr (.Expr (.Call (.Attribute (.Name x p0) "reverse" p1) [] [] p2) pos) (RJ i):=by
 refine ⟨_,wg (jI PySem.F.plainAttrs_list PySem.F.slot_list_reverse PySem.F.type_list_reverse nP (yl hN hv hd hcd) hbase hline) hs,fun W0 G ρ σ W D D' at_ s h=>?_⟩
 obtain ⟨ds,ei,q1⟩:=h
 obtain ⟨b,xs,e1,e2,e3,e4,e5⟩:=at_.rl.ow i ds ei
 exact ⟨.ref b,e1,.inl ⟨rfl,xs,.of e2⟩,b,xs,rfl,rfl,e2,s.nx _ _ _ (at_.put ei e1 e3 e4 e5.reverse) q1⟩
def RK (i:Nat) (ti te:DTE):DTS:=fun D ρ=>∃ ds,ρ[i]? = some (.own ds)∧te ρ fun d=>ti ρ fun z=>∃ n j,z=.int n∧ixN ds.length n=some j∧D.nx (ρ.set i (.own (ds.set j d)))
theorem V2 (i:Nat) {k:Expr} {ti:DTE} (hk:DE X k ti) (h:DE X e te) (hN:X.N[i]? = some x:=by rfl) (hv:Vis X.env.scope x:=by first | exact Or.inl rfl | exact Or.inr (Or.inl rfl) | exact Or.inr (Or.inr rfl)) (hd:(x == ("__debug__":Str))=false:=by decide)
  (hcd:(x == ("__classdict__":Str))=false:=by decide)
  (ha:∀ v,assign (.Subscript (.Name x p0) k p1) X.env v=(do
   let ov ← holding [v] (eval (.Name x p0) X.env)
   let iv ← holding [v,ov] (eval k X.env)
   standAt p1
   holding [v,ov,iv] (setItem ov iv v)
   release [v,ov,iv] []):=by intro _; rfl)
  (hs:swapsWithSole [.Subscript (.Name x p0) k p1] e pos.line X.env=pure false:=by rfl) (hw:swappedStores [.Subscript (.Name x p0) k p1] e X.env=pure none:=by rfl)
  (h1:(assignEach [.Subscript (.Name x p0) k p1] X.env).map (·.2)=[assign (.Subscript (.Name x p0) k p1) X.env]:=by rfl):
  DSt X fr (.Assign [.Subscript (.Name x p0) k p1] e pos) (RK i ti te):=by
 obtain ⟨tt,p,l⟩:=h
 obtain ⟨tk,pk,lk⟩:=hk
 refine ⟨_,jz p (Yp (yl hN hv hd hcd) pk pS ha) hs hw h1,fun W0 G ρ σ W D D' at_ s h=>?_⟩
 obtain ⟨ds,ei,h⟩:=h
 refine l ρ σ W _ at_.rl h _ fun d v W1 s1 i1 q1=>?_
 have a1:=at_.step s1
 obtain ⟨b,xs,e1,e2,e3,e4,e5⟩:=a1.rl.ow i ds ei
 refine ⟨.ref b,e1,lk ρ σ W1 _ a1.rl q1 _ fun z u W2 s2 i2 ⟨n,j,ez,ej,q2⟩=>?_⟩
 subst ez
 have a2:=a1.step s2
 have hg2:W2.g b=none:=s2.n b (by rw [e2]; intro z; cases z) e3
 refine ⟨b,xs,n,j,rfl,is_int.mp i2,s2.h _ _ e2,by rw [← e5.length]; exact ej,?_⟩
 exact s.nx _ _ _ (a2.put ei e1 hg2 e4 ((e5.mono s2).set j (i1.mono s2))) q2
end
section
variable {P:Program} {w:World} {K:PySem.W.Frag} {mg:Str→Option Value} {base:Heap}
theorem w9 {W:Vw} {N:List Str} {ds:List Dt} {vs:List V} (ia:AllIs K W.g ds vs) (hz:Z=W.h):At K Z W W.g W (yx N.length ds) (start N vs):=⟨Le.refl W,Same.refl _,Rl.start ia (hz ▸ Same.refl _)⟩
theorem okD {x qual:Str} {st:Stmt} {f:Addr} {fd:FuncData} {N ps:List Str} {k:Nat} {S:DSp} (F:Fun K x qual st f fd) (sc:zi N ps (defScope st)) (len:∀ ds Q,S ds Q→ds.length=ps.length)
  (hbody:∀ (cdv:Value) (A:Around) (outer:List Env) (s:Shared) (H:Hp) (E:XK),Room k (A.deeper (envOfC qual (defScope st) s.heap.objs.size f cdv))→∀ (ds:List Dt) (Q:Dt→Prop),S ds Q→
   ∃ t,DSs (yC CX0 P w K mg base N qual (defScope st) f cdv A outer s H E).nox .d (defBody st) t∧t { nx:=fun _=>Q .non,rt:=Q } (yx N.length ds)):FnOk P w K mg base CX0 (k+1) f fd ps (zq K S):=by
 refine F.ok sc (fun vs H Q E h=>?_) (fun cdv A outer s H vs Q E hr h=>?_)
 ·obtain ⟨W,ds,Qd,_,ia,hS,_⟩:=h
  rw [← ia.length]
  exact len ds Qd hS
 obtain ⟨W,ds,Qd,rfl,ia,hS,kk⟩:=h
 obtain ⟨t,⟨ts,p,l⟩,ht⟩:=hbody cdv A outer s W.h E hr ds Qd hS
 refine ⟨ts,p,l W W.g (yx N.length ds) (start N vs) W { nx:=fun _=>Qd .non,rt:=Qd } _ (w9 ia (tY (Nat.succ_ne_self _))) ⟨fun ρ σ W' a q=>kk .non .non W' a.le (is_non.mpr rfl) q,fun d v W' s' i' q=>kk d v W' s' i' q,fun _ _ _ _ q=>q.elim,fun _ _ _ _ q=>q.elim⟩ ht⟩
theorem okF {x qual:Str} {st:Stmt} {f:Addr} {fd:FuncData} {N ps:List Str} {k:Nat} {S:DSp} (F:Fun K x qual st f fd) (sc:zi N ps (defScope st)) (len:∀ ds Q,S ds Q→ds.length=ps.length)
  (hbody:∀ (cdv:Value) (A:Around) (outer:List Env) (s:Shared) (H:Hp) (E:XK),Room k (A.deeper (envOfC qual (defScope st) s.heap.objs.size f cdv))→∀ (ds:List Dt) (Q:Dt→Prop),S ds Q→
   ∃ t,DSs (yC CX0 P w K mg base N qual (defScope st) f cdv A outer s H E).nox .l (defBody st) t∧t { nx:=fun _=>False,rt:=Q } (yx N.length ds)):FnOk P w K mg base CX0 (k+1) f fd ps (yU K S):=by
 refine F.ok sc (fun vs H Q E h=>?_) (fun cdv A outer s H vs Q E hr h=>?_)
 ·obtain ⟨W,ds,Qd,_,ia,hS,_⟩:=h
  rw [← ia.length]
  exact len ds Qd hS
 obtain ⟨W,ds,Qd,rfl,ia,hS,kk⟩:=h
 obtain ⟨t,⟨ts,p,l⟩,ht⟩:=hbody cdv A outer s W.h E hr ds Qd hS
 exact ⟨ts,p,l W W.g (yx N.length ds) (start N vs) W { nx:=fun _=>False,rt:=Qd } _ (w9 ia (tY (Nat.succ_ne_self _))) ⟨fun ρ σ W' a q=>q.elim,fun d v W' s' ⟨es,p,xs,e1,e2,e3,e4,e5,e6⟩ q=>by subst e1; subst e2; exact kk es p xs W' s' e3 e4 e5 e6 q,fun _ _ _ _ q=>q.elim,fun _ _ _ _ q=>q.elim⟩ ht⟩
theorem DOk.mk' {x qual:Str} {st:Stmt} {f:Addr} {fd:FuncData} {ps:List Str} {n:Nat} {S:DSp} (F:Fun K x qual st f fd) (hm:mg x=some (.ref f)) (hb:Binds K fd ps []) (h:FnOk P w K mg base CX0 n f fd ps (zq K S)):DOk P w K mg base n x S:=
 ⟨f,fd,ps,hm,F.kp,hb,h⟩
theorem FOk.mk' {x qual:Str} {st:Stmt} {f:Addr} {fd:FuncData} {ps:List Str} {n:Nat} {S:DSp} (F:Fun K x qual st f fd) (hm:mg x=some (.ref f)) (hb:Binds K fd ps []) (h:FnOk P w K mg base CX0 n f fd ps (yU K S)):FOk P w K mg base n x S:=
 ⟨f,fd,ps,hm,F.kp,hb,h⟩
theorem DOk.mono {x:Str} {m n:Nat} {S:DSp} (h:DOk P w K mg base m x S) (hl:m≤n):DOk P w K mg base n x S:=
 let ⟨f,fd,ps,h1,h2,h3,h4⟩:=h.ex; ⟨f,fd,ps,h1,h2,h3,h4.mono hl⟩
theorem FOk.mono {x:Str} {m n:Nat} {S:DSp} (h:FOk P w K mg base m x S) (hl:m≤n):FOk P w K mg base n x S:=
 let ⟨f,fd,ps,h1,h2,h3,h4⟩:=h.ex; ⟨f,fd,ps,h1,h2,h3,h4.mono hl⟩
theorem MOk.mono {C:Addr} {x:Str} {m n:Nat} {S:DSp} (h:MOk P w K mg base m C x S) (hl:m≤n):MOk P w K mg base n C x S:=
 ⟨h.cl,let ⟨f,fd,ps,h1,h3,h4⟩:=h.ex; ⟨f,fd,ps,h1,h3,h4.mono hl⟩⟩
theorem FMOk.mono {C:Addr} {x:Str} {m n:Nat} {S:DSp} (h:FMOk P w K mg base m C x S) (hl:m≤n):FMOk P w K mg base n C x S:=
 ⟨h.cl,let ⟨f,fd,ps,h1,h3,h4⟩:=h.ex; ⟨f,fd,ps,h1,h3,h4.mono hl⟩⟩
theorem MOk.imp {C:Addr} {x:Str} {n:Nat} {S S':DSp} (h:MOk P w K mg base n C x S) (hi:∀ ds Q,S' ds Q→S ds Q):MOk P w K mg base n C x S':=
 ⟨h.cl,let ⟨f,fd,ps,h1,h3,h4⟩:=h.ex; ⟨f,fd,ps,h1,h3,h4.imp fun vs H Q E ⟨W,ds,Qd,a,b,c,d⟩=>⟨W,ds,Qd,a,b,hi _ _ c,d⟩⟩⟩
theorem FMOk.imp {C:Addr} {x:Str} {n:Nat} {S S':DSp} (h:FMOk P w K mg base n C x S) (hi:∀ ds Q,S' ds Q→S ds Q):FMOk P w K mg base n C x S':=
 ⟨h.cl,let ⟨f,fd,ps,h1,h3,h4⟩:=h.ex; ⟨f,fd,ps,h1,h3,h4.imp fun vs H Q E ⟨W,ds,Qd,a,b,c,d⟩=>⟨W,ds,Qd,a,b,hi _ _ c,d⟩⟩⟩
theorem DOk.imp {x:Str} {n:Nat} {S S':DSp} (h:DOk P w K mg base n x S) (hi:∀ ds Q,S' ds Q→S ds Q):DOk P w K mg base n x S':=
 let ⟨f,fd,ps,h1,h2,h3,h4⟩:=h.ex; ⟨f,fd,ps,h1,h2,h3,h4.imp fun vs H Q E ⟨W,ds,Qd,a,b,c,d⟩=>⟨W,ds,Qd,a,b,hi _ _ c,d⟩⟩
theorem vg {qual:Str} {st:Stmt} {g C:Addr} {fd:FuncData} {y f:Str} {k:Nat} {ok:Int→Prop} (F:Fun K "__init__" qual st g fd) (sc:zi ["self",y] ["self",y] (defScope st)) (cl:Cls K C) (na:NoAttr K C f)
  (hbody:∀ (cdv:Value) (A:Around) (outer:List Env) (s:Shared) (H:Hp) (E:XK),Room k (A.deeper (envOfC qual (defScope st) s.heap.objs.size g cdv))→
   ∃ te t,PSs (yC CX0 P w K mg base ["self",y] qual (defScope st) g cdv A outer s H E).nox (defBody st) (UH K (eU 0) te f)∧LiE K (Zx (yC CX0 P w K mg base ["self",y] qual (defScope st) g cdv A outer s H E)) te t∧∀ i,ok i→t [.none,.some (.int i)] fun d=>d=.int i):
  FnOk P w K mg base CX0 (k+1) g fd ["self",y] (xx C f ok):=by
 refine F.ok sc (fun vs H Q E h=>?_) (fun cdv A outer s H vs Q E hr h=>?_)
 ·obtain ⟨p,dx,i,rfl,_⟩:=h
  rfl
 obtain ⟨p,dx,i,rfl,hp,hok,q⟩:=h
 obtain ⟨te,t,ps,l,ht⟩:=hbody cdv A outer s H E hr
 rw [kS] at l
 refine ⟨_,ps,l (F:=H) [.none,.some (.int i)] _ ⟨H,H,Same.refl H⟩ _ ⟨rfl,fun j d e=>?_,fun j ds e=>?_,fun j j' ds es _ e _=>?_,Same.refl H,Same.refl H,fun j a ds e=>?_⟩ (ht i hok) _ fun d v W1 s1 i1 ed=>?_⟩
 ·match j,e with
  | 0,e=>cases e
  | 1,e=>
   have e':Dt.int i=d:=by cases e; rfl
   subst e'
   exact ⟨.int i,rfl,is_int.mpr rfl⟩
  | j+2,e=>cases e
 ·match j,e with
  | 0,e=>cases e
  | 1,e=>cases e
  | j+2,e=>cases e
 ·match j,e with
  | 0,e=>cases e
  | 1,e=>cases e
  | j+2,e=>cases e
 ·match j,e with
  | 0,e=>cases e
  | 1,e=>cases e
  | j+2,e=>cases e
 ·subst ed
  obtain rfl:=is_int.mp i1
  refine ⟨.ref p,rfl,p,C,dx,[],rfl,s1.h _ _ hp,cl,na,(by show 0<1000; decide),?_⟩
  refine q _ zw fun b o hb hbp=>?_
  rw [zu hbp]
  exact s1.h _ _ hb
end
end OD
namespace OD
open PySem PySem.Spec PyProof.Rows L2
mutual
def eqD:Dt→Dt→Bool
 | .non,.non=>true
 | .bl a,.bl b=>a == b
 | .bl a,.int b=>(if a then (1:Int) else 0) == b
 | .int a,.bl b=>a == (if b then (1:Int) else 0)
 | .int a,.int b=>a == b
 | .str a,.str b=>a == b
 | .tup ds,.tup es=>xR ds es
 | .lst ds,.lst es=>xR ds es
 | _,_=>false
def xR:List Dt→List Dt→Bool
 | [],[]=>true
 | d::ds,e::es=>eqD d e && xR ds es
 | _,_=>false
end
def okE:Nat→Dt→Bool
 | _,.non=>true
 | _,.bl _=>true
 | _,.int _=>true
 | _,.str _=>true
 | n+1,.tup ds=>ds.all (okE n)
 | n+1,.lst ds=>ds.all (okE n)
 | _,_=>false
theorem yS (a b:Int):eqD (.int a) (.int b)=(a == b):=by unfold eqD; rfl
theorem fh (a b:Bool):eqD (.bl a) (.bl b)=(a == b):=by unfold eqD; rfl
theorem lc (a b:Str):eqD (.str a) (.str b)=(a == b):=by unfold eqD; rfl
theorem ub (ds es:List Dt):eqD (.tup ds) (.tup es)=xR ds es:=by rw [eqD]
theorem uc (ds es:List Dt):eqD (.lst ds) (.lst es)=xR ds es:=by rw [eqD]
theorem wY:xR [] []=true:=by unfold xR; rfl
theorem xi (d e:Dt) (ds es:List Dt):xR (d::ds) (e::es)=(eqD d e && xR ds es):=by rw [xR]
theorem vw (e:Dt) (es:List Dt):xR [] (e::es)=false:=by unfold xR; rfl
theorem vx (e:Dt) (es:List Dt):xR (e::es) []=false:=by unfold xR; rfl
theorem xt:∀ ds es:List Dt,(((List.range (min ds.length es.length)).all fun j=>eqD (ds.getD j .non) (es.getD j .non)) && (ds.length == es.length))=xR ds es
 | [],[]=>by rw [wY]; rfl
 | [],e::es=>by
  rw [vw]
  have h:((([]:List Dt).length == (e::es).length))=false:=by simp
  rw [h,Bool.and_false]
 | d::ds,[]=>by
  rw [vx]
  have h:(((d::ds).length == ([]:List Dt).length))=false:=by simp
  rw [h,Bool.and_false]
 | d::ds,e::es=>by
  have ih:=xt ds es
  rw [xi,← ih]
  have hm:min (d::ds).length (e::es).length=min ds.length es.length+1:=by
   rw [List.length_cons,List.length_cons]; omega
  rw [hm,List.range_succ_eq_map,List.all_cons,List.all_map,Bool.and_assoc]
  have hl:((d::ds).length == (e::es).length)=(ds.length == es.length):=by
   rw [List.length_cons,List.length_cons]
   rw [Bool.eq_iff_iff,beq_iff_eq,beq_iff_eq]
   omega
  rw [hl]
  rfl
theorem qc {ds es:List Dt} (h:ds.length≠es.length):xR ds es=false:=by
 rw [← xt ds es]
 have h:(ds.length == es.length)=false:=beq_eq_false_iff_ne.mpr h
 rw [h,Bool.and_false]
theorem oP {ds es:List Dt} (h:ds.length=es.length):((List.range ds.length).all fun j=>eqD (ds.getD j .non) (es.getD j .non))=xR ds es:=by
 rw [← xt ds es]
 have h':(ds.length == es.length)=true:=beq_iff_eq.mpr h
 rw [h',Bool.and_true,← h,Nat.min_self]
theorem uW:∀ {ds:List Dt},(∀ d∈ds,eqD d d=true)→xR ds ds=true
 | [],_=>wY
 | d::ds,h=>by
  rw [xi,h d List.mem_cons_self,uW fun e he=>h e (List.mem_cons_of_mem _ he)]
  rfl
theorem s8:∀ (n:Nat) {d:Dt},okE n d=true→eqD d d=true:=by
 intro n
 induction n with
 | zero=>
  intro d h
  cases d with
  | non=>unfold eqD; rfl
  | bl b=>rw [fh]; exact beq_self_eq_true _
  | int b=>rw [yS]; exact beq_self_eq_true _
  | str b=>rw [lc]; exact beq_self_eq_true _
  | _=>simp [okE] at h
 | succ n ih=>
  intro d h
  cases d with
  | non=>unfold eqD; rfl
  | bl b=>rw [fh]; exact beq_self_eq_true _
  | int b=>rw [yS]; exact beq_self_eq_true _
  | str b=>rw [lc]; exact beq_self_eq_true _
  | tup ds=>
   rw [ub]
   have h':∀ d∈ds,okE n d=true:=by simpa [okE] using h
   exact uW fun d hd=>ih (h' d hd)
  | lst ds=>
   rw [uc]
   have h':∀ d∈ds,okE n d=true:=by simpa [okE] using h
   exact uW fun d hd=>ih (h' d hd)
  | _=>simp [okE] at h
example:eqD (.int ((2:Nat):Int)) (.int 2)=true:=by rfl
section
variable {X:Cx} {pins:List (Addr × Obj)} {σ:St} {K:PySem.W.Frag} {H:Hp} {s:Shared}
theorem n_:∀ {ds es:List Dt} {xs:List V},(∀ d e v,d∈ds→e∈es→Is K H d v→Is K H e v→eqD d e=true)→AllIs K H ds xs→AllIs K H es xs→xR ds es=true
 | [],es,xs,ih,i1,i2=>by
  obtain rfl:=allIs_nil.mp i1
  cases es with
  | nil=>exact wY
  | cons e es=>obtain ⟨_,_,z,_⟩:=allIs_cons.mp i2; cases z
 | d::ds,es,xs,ih,i1,i2=>by
  obtain ⟨x,r,rfl,j1,j2⟩:=allIs_cons.mp i1
  cases es with
  | nil=>cases allIs_nil.mp i2
  | cons e es=>
   obtain ⟨y,r',z,k1,k2⟩:=allIs_cons.mp i2
   cases z
   rw [xi,ih d e x List.mem_cons_self List.mem_cons_self j1 k1,n_ (fun d' e' v' hd he=>ih d' e' v' (List.mem_cons_of_mem _ hd) (List.mem_cons_of_mem _ he)) j2 k2]
   rfl
def wW:Dt→Bool
 | .non=>true
 | .bl _=>true
 | .int _=>true
 | .str _=>true
 | _=>false
def vD:Dt→V
 | .bl b=>.bl b
 | .int i=>.int i
 | .str x=>.str x
 | _=>.non
theorem zT {d:Dt} {v:V} (h:wW d=true) (i:Is K H d v):v=vD d:=by
 cases d <;> first | exact is_non.mp i | exact is_bl.mp i | exact is_int.mp i | exact is_str.mp i | cases h
theorem uV {d:Dt} (h:wW d=true):m8 (vD d)=true:=by cases d <;> first | rfl | cases h
theorem vZ {d:Dt} {a:Addr} (h:wW d=true) (e:vD d=.ref a):False:=by cases d <;> first | cases e | cases h
theorem oO {v:V} (h:m8 v=true):eqV v v=true:=by cases v <;> first | rfl | exact beq_self_eq_true _ | cases h
theorem ud {d e:Dt} (h1:wW d=true) (h2:wW e=true):eqD d e=eqV (vD d) (vD e):=by cases d <;> first | exact absurd h1 Bool.false_ne_true | (cases e <;> first | exact absurd h2 Bool.false_ne_true | rfl)
theorem wZ {d:Dt} {es:List Dt} (h:wW d=true):eqD d (.tup es)=false∧eqD (.tup es) d=false∧eqD d (.lst es)=false∧eqD (.lst es) d=false:=by
 cases d <;> first | exact ⟨rfl,rfl,rfl,rfl⟩ | cases h
theorem xk {n:Nat} {d:Dt} (h:okE n d=true):wW d=true∨∃ m ds,n=m+1∧(d=.tup ds∨d=.lst ds)∧∀ d∈ds,okE m d=true:=by
 cases d with
 | non=>exact .inl rfl
 | bl b=>exact .inl rfl
 | int b=>exact .inl rfl
 | str b=>exact .inl rfl
 | tup ds=>
  cases n with
  | zero=>simp [okE] at h
  | succ m=>exact .inr ⟨m,ds,rfl,.inl rfl,by simpa [okE] using h⟩
 | lst ds=>
  cases n with
  | zero=>simp [okE] at h
  | succ m=>exact .inr ⟨m,ds,rfl,.inr rfl,by simpa [okE] using h⟩
 | _=>cases n <;> simp [okE] at h
theorem m_:∀ (n:Nat) {d e:Dt} {v:V},okE n d=true→okE n e=true→Is K H d v→Is K H e v→eqD d e=true:=by
 intro n
 induction n with
 | zero=>
  intro d e v h1 h2 i1 i2
  rcases xk h1 with f1 | ⟨m,ds,z,_⟩
  ·rcases xk h2 with f2 | ⟨m,ds,z,_⟩
   ·rw [ud f1 f2,← zT f1 i1,← zT f2 i2]
    exact oO (by rw [zT f1 i1]; exact uV f1)
   ·cases z
  ·cases z
 | succ n ih=>
  intro d e v h1 h2 i1 i2
  rcases xk h1 with f1 | ⟨m,ds,z,hk,hd⟩
  ·rcases xk h2 with f2 | ⟨m,es,z,hk,he⟩
   ·rw [ud f1 f2,← zT f1 i1,← zT f2 i2]
    exact oO (by rw [zT f1 i1]; exact uV f1)
   ·obtain rfl:=zT f1 i1
    rcases hk with rfl | rfl
    ·obtain ⟨_,_,e,_⟩:=is_tup.mp i2; exact (vZ f1 e).elim
    ·obtain ⟨_,_,e,_⟩:=is_lst.mp i2; exact (vZ f1 e).elim
  ·cases z
   rcases xk h2 with f2 | ⟨m,es,z,hk2,he⟩
   ·obtain rfl:=zT f2 i2
    rcases hk with rfl | rfl
    ·obtain ⟨_,_,e,_⟩:=is_tup.mp i1; exact (vZ f2 e).elim
    ·obtain ⟨_,_,e,_⟩:=is_lst.mp i1; exact (vZ f2 e).elim
   ·cases z
    rcases hk with rfl | rfl
    ·obtain ⟨a,xs,rfl,hx,ha⟩:=is_tup.mp i1
     rcases hk2 with rfl | rfl
     ·obtain ⟨b,ys,eb,hy,hb⟩:=is_tup.mp i2
      cases eb
      rw [hx] at hy
      cases hy
      rw [ub]
      exact n_ (fun d e v q1 q2=>ih (hd d q1) (he e q2)) ha hb
     ·obtain ⟨b,ys,eb,hy,hb⟩:=is_lst.mp i2
      cases eb
      rw [hx] at hy
      cases hy
    ·obtain ⟨a,xs,rfl,hx,ha⟩:=is_lst.mp i1
     rcases hk2 with rfl | rfl
     ·obtain ⟨b,ys,eb,hy,hb⟩:=is_tup.mp i2
      cases eb
      rw [hx] at hy
      cases hy
     ·obtain ⟨b,ys,eb,hy,hb⟩:=is_lst.mp i2
      cases eb
      rw [hx] at hy
      cases hy
      rw [uc]
      exact n_ (fun d e v q1 q2=>ih (hd d q1) (he e q2)) ha hb
section
variable {A:Around}
open SeqAt
theorem vi {d:Dt} {v:Value} {b:Addr} {its:Array Value} (f:wW d=true) (q:RelV (vD d) v) (t:s.heap.IsTuple b its) (hA:A.units<cLine):
  (EqAt A s v (.ref b) false∧EqAt A s (.ref b) v false)∧(RcAt A s v (.ref b) false∧RcNeAt A s v (.ref b) true)∧RcAt A s (.ref b) v false∧RcNeAt A s (.ref b) v true:=by
 cases d with
 | non=>cases q; exact ⟨⟨.none_tuple t hA,.tuple_none t hA⟩,⟨.none_tuple t hA,.none_tuple t hA⟩,.tuple_none t hA,.tuple_none t hA⟩
 | bl a=>cases q; exact ⟨⟨.bool_tuple a t hA,.tuple_bool a t hA⟩,⟨.bool_tuple a t hA,.bool_tuple a t hA⟩,.tuple_bool a t hA,.tuple_bool a t hA⟩
 | int a=>obtain ⟨u,rfl⟩:=q; exact ⟨⟨.int_tuple a u t hA,.tuple_int a u t hA⟩,⟨.int_tuple a u t hA,.int_tuple a u t hA⟩,.tuple_int a u t hA,.tuple_int a u t hA⟩
 | str a=>obtain ⟨u,rfl⟩:=q; exact ⟨⟨.str_tuple a u t hA,.tuple_str a u t hA⟩,⟨.str_tuple a u t hA,.str_tuple a u t hA⟩,.tuple_str a u t hA,.tuple_str a u t hA⟩
 | _=>cases f
theorem vj {d:Dt} {v:Value} {b:Addr} {its:Array Value} (f:wW d=true) (q:RelV (vD d) v) (t:s.heap.IsList b its) (hA:A.units<cLine):
  (EqAt A s v (.ref b) false∧EqAt A s (.ref b) v false)∧(RcAt A s v (.ref b) false∧RcNeAt A s v (.ref b) true)∧RcAt A s (.ref b) v false∧RcNeAt A s (.ref b) v true:=by
 cases d with
 | non=>cases q; exact ⟨⟨.none_list t hA,.list_none t hA⟩,⟨.none_list t hA,.none_list t hA⟩,.list_none t hA,.list_none t hA⟩
 | bl a=>cases q; exact ⟨⟨.bool_list a t hA,.list_bool a t hA⟩,⟨.bool_list a t hA,.bool_list a t hA⟩,.list_bool a t hA,.list_bool a t hA⟩
 | int a=>obtain ⟨u,rfl⟩:=q; exact ⟨⟨.int_list a u t hA,.list_int a u t hA⟩,⟨.int_list a u t hA,.int_list a u t hA⟩,.list_int a u t hA,.list_int a u t hA⟩
 | str a=>obtain ⟨u,rfl⟩:=q; exact ⟨⟨.str_list a u t hA,.list_str a u t hA⟩,⟨.str_list a u t hA,.str_list a u t hA⟩,.list_str a u t hA,.list_str a u t hA⟩
 | _=>cases f
theorem aQ {d e:Dt} {v u:Value} (f1:wW d=true) (f2:wW e=true) (q1:RelV (vD d) v) (q2:RelV (vD e) u):RcAt A s v u (eqD d e)∧RcNeAt A s v u (!eqD d e):=by
 cases d with
 | non=>
  cases q1
  cases e with
  | non=>cases q2; exact ⟨.none_none,.none_none⟩
  | bl b=>cases q2; exact ⟨.none_bool b,.none_bool b⟩
  | int b=>obtain ⟨t,rfl⟩:=q2; exact ⟨.none_int b t,.none_int b t⟩
  | str b=>obtain ⟨t,rfl⟩:=q2; exact ⟨.none_str b t,.none_str b t⟩
  | _=>cases f2
 | bl a=>
  cases q1
  cases e with
  | non=>cases q2; exact ⟨.bool_none a,.bool_none a⟩
  | bl b=>cases q2; exact ⟨.bool_bool a b,.bool_bool a b⟩
  | int b=>obtain ⟨t,rfl⟩:=q2; exact ⟨.bool_int a b t,.bool_int a b t⟩
  | str b=>obtain ⟨t,rfl⟩:=q2; exact ⟨.bool_str a b t,.bool_str a b t⟩
  | _=>cases f2
 | int a=>
  obtain ⟨ta,rfl⟩:=q1
  cases e with
  | non=>cases q2; exact ⟨.int_none a ta,.int_none a ta⟩
  | bl b=>cases q2; exact ⟨.int_bool a ta b,.int_bool a ta b⟩
  | int b=>obtain ⟨t,rfl⟩:=q2; exact ⟨.int_int a ta b t,.int_int a ta b t⟩
  | str b=>obtain ⟨t,rfl⟩:=q2; exact ⟨.int_str a ta b t,.int_str a ta b t⟩
  | _=>cases f2
 | str a=>
  obtain ⟨ta,rfl⟩:=q1
  cases e with
  | non=>cases q2; exact ⟨.str_none a ta,.str_none a ta⟩
  | bl b=>cases q2; exact ⟨.str_bool a ta b,.str_bool a ta b⟩
  | int b=>obtain ⟨t,rfl⟩:=q2; exact ⟨.str_int a ta b t,.str_int a ta b t⟩
  | str b=>obtain ⟨t,rfl⟩:=q2; exact ⟨.str_str a ta b t,.str_str a ta b t⟩
  | _=>cases f2
 | _=>cases f1
end
theorem vY {n:Nat} {A:Around} {ds es:List Dt} {xs ys:List V} {its its2:List Value}
  (ih:∀ {d e:Dt} {x y:V} {v u:Value},okE n d=true→okE n e=true→Is K H d x→Is K H e y→RelV x v→RelV y u→SeqAt.EqAt A s v u (eqD d e))
  (hd:∀ d∈ds,okE n d=true) (he:∀ d∈es,okE n d=true) (a1:AllIs K H ds xs) (a2:AllIs K H es ys) (r1:Vals xs its) (r2:Vals ys its2):
  ∀ j (h1:j<its.toArray.size) (h2:j<its2.toArray.size),SeqAt.EqAt A s its.toArray[j] its2.toArray[j] (eqD (ds.getD j .non) (es.getD j .non)):=by
 intro j h1 h2
 have l1:=a1.length.trans r1.length
 have l2:=a2.length.trans r2.length
 rw [List.size_toArray] at h1 h2
 have g1:ds[j]? = some ds[j]:=List.getElem?_eq_getElem (by omega)
 have g2:es[j]? = some es[j]:=List.getElem?_eq_getElem (by omega)
 obtain ⟨x,e1,i1⟩:=a1.get g1
 obtain ⟨y,e2,i2⟩:=a2.get g2
 obtain ⟨v,e3,q1⟩:=r1.get e1
 obtain ⟨u,e4,q2⟩:=r2.get e2
 have f1:ds.getD j .non=ds[j]:=by rw [List.getD_eq_getElem?_getD,g1]; rfl
 have f2:es.getD j .non=es[j]:=by rw [List.getD_eq_getElem?_getD,g2]; rfl
 have f3:its.toArray[j]=v:=by
  have z:its[j]? = some its[j]:=List.getElem?_eq_getElem h1
  rw [z] at e3
  simpa using Option.some.inj e3
 have f4:its2.toArray[j]=u:=by
  have z:its2[j]? = some its2[j]:=List.getElem?_eq_getElem h2
  rw [z] at e4
  simpa using Option.some.inj e4
 rw [f1,f2,f3,f4]
 exact ih (hd _ (List.mem_of_getElem? g1)) (he _ (List.mem_of_getElem? g2)) i1 i2 q1 q2
theorem Sc (I:Inv X pins σ H s):∀ (n:Nat) {A:Around} {d e:Dt} {x y:V} {v u:Value},A.units+n<cLine→okE n d=true→okE n e=true→Is X.K H d x→Is X.K H e y→RelV x v→RelV y u→SeqAt.EqAt A s v u (eqD d e):=by
 intro n
 induction n with
 | zero=>
  intro A d e x y v u hu h1 h2 i1 i2 q1 q2
  rcases xk h1 with f1 | ⟨m,ds,z,_⟩
  ·rcases xk h2 with f2 | ⟨m,ds,z,_⟩
   ·rw [ud f1 f2]
    rw [zT f1 i1] at q1
    rw [zT f2 i2] at q2
    exact fj q1 q2 (uV f1) (uV f2)
   ·cases z
  ·cases z
 | succ n ih=>
  intro A d e x y v u hu h1 h2 i1 i2 q1 q2
  have hA:A.units<cLine:=by omega
  have hu':A.in1.units+n<cLine:=by show A.units+1+n<cLine; omega
  rcases xk h1 with f1 | ⟨m,ds,z,hk,hd⟩
  ·rw [zT f1 i1] at q1
   rcases xk h2 with f2 | ⟨m,es,z,rfl | rfl,he⟩
   ·rw [ud f1 f2]
    rw [zT f2 i2] at q2
    exact fj q1 q2 (uV f1) (uV f2)
   ·obtain ⟨b,ys,rfl,hy,hb⟩:=is_tup.mp i2
    obtain ⟨its2,r2,t2,_⟩:=I.tuple (.of hy)
    cases q2
    rw [(wZ f1).1]
    exact (vi f1 q1 t2 hA).1.1
   ·obtain ⟨b,ys,rfl,hy,hb⟩:=is_lst.mp i2
    obtain ⟨its2,r2,t2,_⟩:=I.list (.of hy)
    cases q2
    rw [(wZ f1).2.2.1]
    exact (vj f1 q1 t2.isList hA).1.1
  ·cases z
   rcases hk with rfl | rfl
   ·obtain ⟨a,xs,rfl,hx,ha⟩:=is_tup.mp i1
    obtain ⟨its,r1,t1,_⟩:=I.tuple (.of hx)
    cases q1
    rcases xk h2 with f2 | ⟨m,es,z,rfl | rfl,he⟩
    ·rw [zT f2 i2] at q2
     rw [(wZ f2).2.1]
     exact (vi f2 q2 t1 hA).1.2
    ·cases z
     have i2':=i2
     obtain ⟨b,ys,rfl,hy,hb⟩:=is_tup.mp i2
     obtain ⟨its2,r2,t2,_⟩:=I.tuple (.of hy)
     cases q2
     by_cases hab:a=b
     ·subst hab
      rw [m_ _ h1 h2 i1 i2']
      exact SeqAt.EqAt.same _
     ·have q:=SeqAt.RcAt.tuples t1 t2 hA (vY (fun {d e x y v u}=>ih (A:=A.in1) hu') hd he ha hb r1 r2)
      rw [List.size_toArray,List.size_toArray,← r1.length,← r2.length,← ha.length,← hb.length,xt] at q
      rw [ub]
      exact .of_refs hab q
    ·obtain ⟨b,ys,rfl,hy,hb⟩:=is_lst.mp i2
     obtain ⟨its2,r2,t2,_⟩:=I.list (.of hy)
     cases q2
     exact SeqAt.EqAt.tuple_list t1 t2.isList hA
   ·obtain ⟨a,xs,rfl,hx,ha⟩:=is_lst.mp i1
    obtain ⟨its,r1,t1,_⟩:=I.list (.of hx)
    cases q1
    rcases xk h2 with f2 | ⟨m,es,z,rfl | rfl,he⟩
    ·rw [zT f2 i2] at q2
     rw [(wZ f2).2.2.2]
     exact (vj f2 q2 t1.isList hA).1.2
    ·obtain ⟨b,ys,rfl,hy,hb⟩:=is_tup.mp i2
     obtain ⟨its2,r2,t2,_⟩:=I.tuple (.of hy)
     cases q2
     exact SeqAt.EqAt.list_tuple t1.isList t2 hA
    ·cases z
     have i2':=i2
     obtain ⟨b,ys,rfl,hy,hb⟩:=is_lst.mp i2
     obtain ⟨its2,r2,t2,_⟩:=I.list (.of hy)
     cases q2
     by_cases hab:a=b
     ·subst hab
      rw [m_ _ h1 h2 i1 i2']
      exact SeqAt.EqAt.same _
     ·rw [uc]
      have l1:=ha.length.trans r1.length
      have l2:=hb.length.trans r2.length
      by_cases hl:ds.length=es.length
      ·have q:=SeqAt.RcAt.lists t1.isList t2.isList (by rw [List.size_toArray,List.size_toArray]; omega) hA (vY (fun {d e x y v u}=>ih (A:=A.in1) hu') hd he ha hb r1 r2)
       rw [List.size_toArray,← l1,oP hl] at q
       exact .of_refs hab q
      ·have q:=SeqAt.RcAt.lists_lengths t1.isList t2.isList (by rw [List.size_toArray,List.size_toArray,bne_iff_ne]; omega) hA
       rw [qc hl]
       exact .of_refs hab q
theorem Zy (I:Inv X pins σ H s) {n:Nat} {A:Around} {d e:Dt} {x y:V} {v u:Value} (hu:A.units+(n+1)<cLine) (h1:okE (n+1) d=true) (h2:okE (n+1) e=true) (i1:Is X.K H d x) (i2:Is X.K H e y) (q1:RelV x v) (q2:RelV y u):
  SeqAt.RcAt A s v u (eqD d e)∧SeqAt.RcNeAt A s v u (!eqD d e):=by
 have hA:A.units<cLine:=by omega
 have hu':A.in1.units+n<cLine:=by show A.units+1+n<cLine; omega
 have ih:=fun {d e:Dt} {x y:V} {v u:Value}=>Sc I n (A:=A.in1) (d:=d) (e:=e) (x:=x) (y:=y) (v:=v) (u:=u) hu'
 rcases xk h1 with f1 | ⟨m,ds,z,hk,hd⟩
 ·rw [zT f1 i1] at q1
  rcases xk h2 with f2 | ⟨m,es,z,rfl | rfl,he⟩
  ·rw [zT f2 i2] at q2
   exact aQ f1 f2 q1 q2
  ·obtain ⟨b,ys,rfl,hy,hb⟩:=is_tup.mp i2
   obtain ⟨its2,r2,t2,_⟩:=I.tuple (.of hy)
   cases q2
   rw [(wZ f1).1]
   exact (vi f1 q1 t2 hA).2.1
  ·obtain ⟨b,ys,rfl,hy,hb⟩:=is_lst.mp i2
   obtain ⟨its2,r2,t2,_⟩:=I.list (.of hy)
   cases q2
   rw [(wZ f1).2.2.1]
   exact (vj f1 q1 t2.isList hA).2.1
 ·cases z
  rcases hk with rfl | rfl
  ·obtain ⟨a,xs,rfl,hx,ha⟩:=is_tup.mp i1
   obtain ⟨its,r1,t1,_⟩:=I.tuple (.of hx)
   cases q1
   rcases xk h2 with f2 | ⟨m,es,z,rfl | rfl,he⟩
   ·rw [zT f2 i2] at q2
    rw [(wZ f2).2.1]
    exact (vi f2 q2 t1 hA).2.2
   ·cases z
    obtain ⟨b,ys,rfl,hy,hb⟩:=is_tup.mp i2
    obtain ⟨its2,r2,t2,_⟩:=I.tuple (.of hy)
    cases q2
    have it:=vY (A:=A.in1) ih hd he ha hb r1 r2
    have q:=SeqAt.RcAt.tuples t1 t2 hA it
    have q':=SeqAt.RcNeAt.tuples t1 t2 hA it
    rw [List.size_toArray,List.size_toArray,← r1.length,← r2.length,← ha.length,← hb.length,xt] at q q'
    rw [ub]
    exact ⟨q,q'⟩
   ·obtain ⟨b,ys,rfl,hy,hb⟩:=is_lst.mp i2
    obtain ⟨its2,r2,t2,_⟩:=I.list (.of hy)
    cases q2
    exact ⟨SeqAt.RcAt.tuple_list t1 t2.isList hA,SeqAt.RcNeAt.tuple_list t1 t2.isList hA⟩
  ·obtain ⟨a,xs,rfl,hx,ha⟩:=is_lst.mp i1
   obtain ⟨its,r1,t1,_⟩:=I.list (.of hx)
   cases q1
   rcases xk h2 with f2 | ⟨m,es,z,rfl | rfl,he⟩
   ·rw [zT f2 i2] at q2
    rw [(wZ f2).2.2.2]
    exact (vj f2 q2 t1.isList hA).2.2
   ·obtain ⟨b,ys,rfl,hy,hb⟩:=is_tup.mp i2
    obtain ⟨its2,r2,t2,_⟩:=I.tuple (.of hy)
    cases q2
    exact ⟨SeqAt.RcAt.list_tuple t1.isList t2 hA,SeqAt.RcNeAt.list_tuple t1.isList t2 hA⟩
   ·cases z
    obtain ⟨b,ys,rfl,hy,hb⟩:=is_lst.mp i2
    obtain ⟨its2,r2,t2,_⟩:=I.list (.of hy)
    cases q2
    rw [uc]
    have l1:=ha.length.trans r1.length
    have l2:=hb.length.trans r2.length
    by_cases hl:ds.length=es.length
    ·have it:=vY (A:=A.in1) ih hd he ha hb r1 r2
     have q:=SeqAt.RcAt.lists t1.isList t2.isList (by rw [List.size_toArray,List.size_toArray]; omega) hA it
     have q':=SeqAt.RcNeAt.lists t1.isList t2.isList (by rw [List.size_toArray,List.size_toArray]; omega) hA it
     rw [List.size_toArray,← l1,oP hl] at q q'
     exact ⟨q,q'⟩
    ·have q:=SeqAt.RcAt.lists_lengths t1.isList t2.isList (by rw [List.size_toArray,List.size_toArray,bne_iff_ne]; omega) hA
     have q':=SeqAt.RcNeAt.lists_lengths t1.isList t2.isList (by rw [List.size_toArray,List.size_toArray,bne_iff_ne]; omega) hA
     rw [qc hl]
     exact ⟨q,q'⟩
def gEq:Dt→Dt→(Dt→Prop)→Prop:=fun d e Q=>okE 40 d=true∧okE 40 e=true∧Q (.bl (eqD d e))
def gNe:Dt→Dt→(Dt→Prop)→Prop:=fun d e Q=>okE 40 d=true∧okE 40 e=true∧Q (.bl (!eqD d e))
theorem yL {k:Nat} (hr:Room k X.A):DOp X (compareOp .Eq) gEq:=by
 refine ⟨fun x y H Q=>∃ d e,Is X.K H d x∧Is X.K H e y∧okE 40 d=true∧okE 40 e=true∧Q (.bl (eqD d e)) H,fun pins s σ H x y v u Q I rx ry h=>?_,fun H x y d e Q i1 i2 q R k=>⟨d,e,Is.mono0 H.sub i1,Is.mono0 H.sub i2,q.1,q.2.1,k _ _ H (Le.refl H) (is_bl.mpr rfl) q.2.2⟩⟩
 obtain ⟨d,e,i1,i2,h1,h2,q⟩:=h
 have hu:=hr.units
 exact (Zy (n:=39) I (A:=X.A) (by omega) h1 h2 i1 i2 rx ry).1 _ _ _ _ ⟨.bl _,H,I,rfl,q⟩
theorem kb {k:Nat} (hr:Room k X.A):DOp X (compareOp .NotEq) gNe:=by
 refine ⟨fun x y H Q=>∃ d e,Is X.K H d x∧Is X.K H e y∧okE 40 d=true∧okE 40 e=true∧Q (.bl (!eqD d e)) H,fun pins s σ H x y v u Q I rx ry h=>?_,fun H x y d e Q i1 i2 q R k=>⟨d,e,Is.mono0 H.sub i1,Is.mono0 H.sub i2,q.1,q.2.1,k _ _ H (Le.refl H) (is_bl.mpr rfl) q.2.2⟩⟩
 obtain ⟨d,e,i1,i2,h1,h2,q⟩:=h
 have hu:=hr.units
 exact (Zy (n:=39) I (A:=X.A) (by omega) h1 h2 i1 i2 rx ry).2 _ _ _ _ ⟨.bl _,H,I,rfl,q⟩
end
end OD
namespace OD
open PySem PySem.Spec PyProof.Rows L2
section
variable {X:Cx} {pins:List (Addr × Obj)} {σ:St} {H:Hp} {s:Shared} {scope:Scope} {x:Str} {fp:List Addr}
end
end OD
namespace OD
variable {Z:Hp}
open PySem PySem.Spec PyProof.Rows L2
section
variable {X:Cx} {pins:List (Addr × Obj)} {σ:St} {H:Hp} {s:Shared} {h':Heap}
theorem ZJ {ch:List Addr} (hn:∀ b∈ch,vt X pins H b):∀ b∈ch,(b∈X.ex∨X.s₀.heap.objs.size≤b)∧b≠X.env.locals∧(∀ x c,X.env.cells.lookup x=some c→c≠b)∧∀ p∈X.pn++pins,p.1≠b:=fun b hb=>by
 obtain ⟨_,h2,_,h4,h5,h6⟩:=hn b hb
 exact ⟨h4,h2,h5,h6⟩
theorem nX {ch:List Addr} {t':Nat} (I:Inv X pins σ H s) (hn:∀ b∈ch,vt X pins H b) (k:∀ b o,b∉ch→s.heap.get? b=some o→h'.get? b=some o):Inv X pins σ H { s with heap:=h',toks:=t' }:=by
 have nit:∀ b u,H b=some u→b∉ch:=fun b u e z=>by rw [(hn b z).1] at e; cases e
 refine I.step (g':=s.gens) (d':=s.drawn) (ch:=ch) (ZJ hn) (fun b o _ _ hc e _=>k b o hc e) (fun b o _ _ hc e _=>⟨o.slots,k b o hc e⟩) (fun _ _ _ _ n=>n)
  (fun b o hc e=>⟨o,k b o hc e⟩) (fun _ _ e=>e) (fun _ _ _ e=>e) (fun b ps e=>⟨#[],by rw [e]; simp⟩) (fun m hm=>?_) (fun b u e=>?_) I.bare
 ·obtain ⟨o,es,ep,ho,r⟩:=hm
  exact ⟨o,es,ep,k _ o (fun z=>(hn _ z).2.1 rfl) ho,r⟩
 ·refine (I.hok b u e).stay (fun c v hc q=>k c v ?_ q) (fun _ q=>q) fun _ _ q=>q
  rcases hc with z | z
  ·rw [z]; exact nit b u e
  ·exact nit c _ z
theorem oC {ch:List Addr} {t':Nat} {T:Addr} {xs:List V} (I:Inv X pins σ H s) (hn:∀ b∈ch,vt X pins H b) (k:∀ b o,b∉ch→s.heap.get? b=some o→h'.get? b=some o) (hT:s.heap.objs.size≤T)
  (new:ObjOk X.prog X.w (upd H T (.tup xs)) h' T (.tup xs)):Inv X pins σ (upd H T (.tup xs)) { s with heap:=h',toks:=t' }:=by
 have nit:∀ b u,H b=some u→b∉ch:=fun b u e z=>by rw [(hn b z).1] at e; cases e
 have fT:H T=none:=I.hok.fresh hT
 have old:∀ b o,s.heap.get? b=some o→b≠T:=fun b o e=>Nat.ne_of_lt (Nat.lt_of_lt_of_le (Heap.lt_size e) hT)
 have up:∀ b u,H b=some u→upd H T (.tup xs) b=some u:=fun b u e=>(zu (zW e fT)).trans e
 refine I.step (g':=s.gens) (d':=s.drawn) (ch:=ch) (ZJ hn) (fun b o _ _ hc e _=>k b o hc e) (fun b o _ _ hc e _=>⟨o.slots,k b o hc e⟩) (fun b o _ e n=>(zu (old b o e)).trans n)
  (fun b o hc e=>⟨o,k b o hc e⟩) (fun b xs e=>up b _ e) (fun b o u e=>up b _ e) (fun b ps e=>⟨#[],by rw [up b _ e]; simp⟩) (fun m hm=>?_) (fun b u e=>?_) I.bare
 ·obtain ⟨o,es,ep,ho,r⟩:=hm
  exact ⟨o,es,ep,k _ o (fun z=>(hn _ z).2.1 rfl) ho,r⟩
 ·by_cases hb:b=T
  ·subst hb
   rw [zw] at e
   cases e
   exact new
  ·rw [zu hb] at e
   refine (I.hok b u e).stay (fun c v hc q=>k c v ?_ q) (fun c q=>up c _ q) fun c ys q=>up c _ q
   rcases hc with z | z
   ·rw [z]; exact nit b u e
   ·exact nit c _ z
end
section
variable {X:Cx}
end
section
variable {X:Cx} {fr:Fr} {ta:DTA} {tb:DTS} {pos:Pos}
theorem nU {K:PySem.W.Frag} {W1:Vw} {d:Dt} {v:V} {ds:List Dt} (i1:Is K W1.g d v) (el:wm d=some ds):∃ a xs,v=.ref a∧(∀ W2:Vw,Same W1.g W2.g→SqL K W2.h a xs)∧AllIs K W1.g ds xs:=by
 cases d with
 | lst es=>
  obtain rfl:es=ds:=Option.some.inj el
  obtain ⟨a,xs,rfl,h1,h2⟩:=is_lst.mp i1
  exact ⟨a,xs,rfl,fun W2 s2=>.of (W2.sub _ _ (s2 _ _ h1)),h2⟩
 | scr ns=>
  obtain rfl:ns.map Dt.int=ds:=Option.some.inj el
  obtain ⟨a,rfl,h1⟩:=is_scr.mp i1
  exact ⟨a,_,rfl,fun W2 s2=>W2.sub.seq (s2.seq h1),AllIs.ints⟩
 | _=>cases el
def ZF (K:PySem.W.Frag) (t:DTE):TE:=fun σ H R=>∃ (F:Hp) (ρ:DS) (W:Vw) (Q:Dt→Prop),W.h=H∧Rl K (fun _=>none) F W ρ σ∧t ρ Q∧∀ d v W',Le W W'→Is K W'.g d v→Q d→R v W'.h
theorem DE.up {e:Expr} {t:DTE} (h:DE X e t) (hz:X.stack.length=X.outer.length:=by rfl):PE X e (ZF X.K t):=by
 obtain ⟨te,p,l⟩:=h
 intro pins s σ H R I q
 obtain ⟨F,ρ,W,Q,rfl,r,h,k⟩:=q
 have r':Rl X.K (Zx X) F W ρ σ:=by unfold Zx; rw [if_pos (Or.inl hz)]; exact r
 exact p pins s σ W.h R I (l ρ σ W Q r' h R k)
theorem aI {K:PySem.W.Frag} {t:DTE}:LiE K (fun _=>none) (ZF K t) t:=fun ρ σ H Q r h R k=>⟨_,ρ,H,Q,rfl,r,h,k⟩
theorem LiF.le {K:PySem.W.Frag} {te:TE} {t:DTE} (l:LiF K Z te t):LiE K Z te t:=fun ρ σ H Q r h R k=>l ρ σ H Q r h R fun es q xs H' s h0 h1 h2 i z=>k (.lst es) (.ref q) (H'.frz q _ h1) (uQ s h0 h1 h2) (is_lst.mpr ⟨q,xs,rfl,zw,AllIs.mono0 (zN h2 _) i⟩) z
variable {scope:Scope} {x:Str} {elt iter:Expr} {px:Pos} {tl te:DTE}
end
end OD
namespace OD
variable {Z:Hp}
open PySem PySem.Spec PyProof.Rows L2
def Ite (K:PySem.W.Frag) (l:Addr):It:=
 ⟨fun i H=>∃ xs x,SqL K H l xs∧xs[i]? = some x,
  fun i H v H'=>∃ T x,v=.ref T∧H T=none∧H'=upd H T (.tup [.int i,x])∧∀ xs,SqL K H l xs→xs[i]? = some x,
  fun i H=>∃ xs,SqL K H l xs∧xs.length≤i⟩
def Z4 (l e it:Addr) (i:Nat) (h:Heap):Prop:=(∃ old,IsEnum h e it (i:Int) old)∧h.IsListIter it l i
theorem lP {P:Program} {w:World} {K:PySem.W.Frag} {elts:List Expr} {x1} {tpos:Pos} (l e it:Addr) (hne:e≠it):mv P w K (.Tuple elts x1 tpos) (Ite K l) [e,it] e (Z4 l e it) where
 mem:=by simp
 obj:=fun i h ⟨⟨old,h1⟩,⟨o4,e4,c4,d4⟩⟩ b hb=>by
  simp only [List.mem_cons,List.not_mem_nil,or_false] at hb
  rcases hb with rfl | rfl
  ·exact ⟨_,h1,fun v z=>by cases z⟩
  ·exact ⟨_,e4,fun v z=>by rw [d4] at z; cases z⟩
 keep:=fun i h h' ⟨⟨old,h1⟩,⟨o4,e4,c4⟩⟩ k=>⟨⟨old,k e (by simp) _ h1⟩,⟨o4,k it (by simp) _ e4,c4⟩⟩
 item:=fun X hP hw hK hc i pins s σ H E I hfp ⟨⟨old,h1⟩,h4⟩ ⟨xs,x,q1,e1⟩=>by
  subst hP hw hK
  obtain ⟨its1,r1,p1,z1⟩:=I.list q1
  obtain ⟨u,eu,ru⟩:=r1.get e1
  refine wpAny_pyNext_enum_item h1 h4 p1.isList (x:=u) (by simpa using eu) hne fun h' a1 a2 a3 a4 a5=>?_
  refine ⟨_,rfl,wpAny_letOwnedTupleGo_enum a1 fun h'' b1 b2=>?_⟩
  have ne:∀ b∈[e,it],b≠s.heap.objs.size:=fun b hb=>by
   simp only [List.mem_cons,List.not_mem_nil,or_false] at hb
   obtain ⟨o4,e4,_⟩:=id h4
   rcases hb with rfl | rfl
   ·exact Nat.ne_of_lt (Heap.lt_size h1)
   ·exact Nat.ne_of_lt (Heap.lt_size e4)
  have en:e≠s.heap.objs.size:=ne e (by simp)
  have aT:=b2.extBut _ _ (Ne.symm en) a3
  have I':Inv X pins σ (upd H s.heap.objs.size (.tup [.int i,x])) { s with heap:=h'',toks:=s.toks+1 }:=oC (ch:=[e,it]) (t':=s.toks+1) I hfp (fun b o hb q=>by
    simp only [List.mem_cons,List.not_mem_nil,or_false,not_or] at hb
    exact b2.extBut b o hb.1 (a5 b o hb.1 hb.2 q)) (Nat.le_refl _) ⟨by show 2≤sizeLine; rw [sizeLine_eq]; decide,[.int i s.toks,u],.cons ⟨_,rfl⟩ (.cons ru .nil),_,aT,rfl,_,rfl⟩
  refine ⟨.ref s.heap.objs.size,_,I',rfl,⟨_,x,rfl,I.fresh,rfl,fun xs' q=>?_⟩,⟨⟨u,?_⟩,a2.extBut b2.extBut (Ne.symm hne)⟩,fun b hb=>?_⟩
  ·rw [I.list_inj q q1]; exact e1
  ·have:((i+1:Nat):Int)=(i:Int)+1:=by omega
   show IsEnum h'' e it ((i+1:Nat):Int) u
   rw [this]
   exact b1
  ·exact (zu (ne b hb)).trans (hfp b hb).1
 done:=fun X hP hw hK hc i pins s σ H E I hfp ⟨⟨old,h1⟩,h4⟩ ⟨xs,q1,e1⟩=>by
  subst hP hw hK
  obtain ⟨its1,r1,p1,z1⟩:=I.list q1
  refine wpAny_pyNext_enum_end (I.ok.hd hc) h1 h4 p1.isList ?_ fun h' hk=>⟨rfl,?_⟩
  ·have:=r1.length
   simp; omega
  ·exact nX (ch:=[e,it]) (t':=s.toks) I hfp fun b o hb q=>by
    simp only [List.mem_cons,List.not_mem_nil,or_false,not_or] at hb
    exact hk b o hb.2 q
 self:=fun A i s Q E ⟨⟨old,h1⟩,_⟩ q=>wpAny_pyIter_enum h1 q
def T8 (K:PySem.W.Frag) (ta:TA):TI:=fun σ H R=>ta σ H fun vs H1=>∃ l xs,vs=[.ref l]∧SqL K H1 l xs∧R (Ite K l) H1
section
variable {X:Cx}
theorem kR:bootBuiltins "enumerate"=some (.type "enumerate"):=by decide +kernel
theorem dE {a:Expr} {ta:TA} {p pos:Pos} {elts:List Expr} {x1} {tpos:Pos} (hg:Gl X "enumerate") (hm:X.mg "enumerate"=none) (ha:PA X [a] ta) (hs:starEach [a] X.env=(false,eval a X.env)::starEach [] X.env:=by rfl)
  (hpl:(backTo pos (starEach [] X.env)).any (·.1)=false:=by rfl):PI X (.Tuple elts x1 tpos) (.Call (.Name "enumerate" p) [a] [] pos) (T8 X.K ta):=by
 intro pins s σ H R I h
 refine Call_ (wV I hg hm kR (PyProof.Rows.callWith_type1 (thn (ha pos pins s σ H _ I h) fun us s1 ⟨vs,H1,I1,r1,q1⟩=>?_) hs hpl))
 obtain ⟨l,xs,e,q1,q⟩:=q1
 subst e
 obtain ⟨u,rfl,ru⟩:=r1.one
 cases ru
 obtain ⟨its1,r1,p1,z1⟩:=I1.list q1
 refine call_enumerate_list p1.isList fun h' b1 b2 b3 b4=>?_
 have I2:Inv X pins σ H1 { s1 with heap:=h' }:=I1.kept (t':=s1.toks) b4
 refine wpAny_pyIter_enum b1 ⟨s1.heap.objs.size+1,[s1.heap.objs.size+1,s1.heap.objs.size],_,_,H1,rfl,I2,lP l (s1.heap.objs.size+1) s1.heap.objs.size (Nat.succ_ne_self _),⟨⟨_,b1⟩,b2⟩,fun b hb=>?_,q⟩
 have hb':s1.heap.objs.size≤b:=by
  simp only [List.mem_cons,List.not_mem_nil,or_false] at hb
  rcases hb with rfl | rfl
  ·exact Nat.le_add_right _ _
  ·exact Nat.le_refl _
 have f:=I1.fpOk hb' (I1.hok.fresh hb')
 exact f
theorem g9 {K:PySem.W.Frag} {l:Addr} {xs:List V} {g:TG} {tb:TS} {D:Ends} {σ:St} {H:Hp} (Pv:Nat→St→Hp→Prop) (h0:Pv 0 σ H) (hl:∀ i σ H,Pv i σ H→SqL K H l xs)
  (hs:∀ (i:Nat) x T σ H,xs[i]? = some x→H T=none→Pv i σ H→g (.ref T) σ (upd H T (.tup [.int i,x])) fun σ2 H2=>tb { D with nx:=Pv (i+1),ct:=Pv (i+1),bk:=D.nx } σ2 H2) (hd:∀ σ H,Pv xs.length σ H→D.nx σ H):
  ∃ W:Nat→Nat→St→Hp→Prop,(∃ m,W 0 m σ H)∧∀ i m σ H,W i m σ H→
   ((Ite K l).stop i H∧D.nx σ H)∨((Ite K l).go i H∧∃ N:St→Hp→Prop,(∀ σ' H',N σ' H'→∃ m',m'<m∧W (i+1) m' σ' H')∧∀ x H',(Ite K l).yld i H x H'→g x σ H' fun σ2 H2=>tb { D with nx:=N,ct:=N,bk:=D.nx } σ2 H2):=by
 refine ⟨fun i m σ H=>m=xs.length - i∧i≤xs.length∧Pv i σ H,⟨_,rfl,Nat.zero_le _,h0⟩,?_⟩
 rintro i m σ H ⟨rfl,hi,p⟩
 have q1:=hl i σ H p
 by_cases hlt:i<xs.length
 ·have g1:xs[i]? = some xs[i]:=List.getElem?_eq_getElem hlt
  refine .inr ⟨⟨xs,xs[i],q1,g1⟩,Pv (i+1),fun σ' H' p'=>⟨xs.length - (i+1),by omega,rfl,hlt,p'⟩,fun v H' y=>?_⟩
  obtain ⟨T,x,rfl,hT,rfl,e1⟩:=y
  exact hs i x T σ H (e1 xs q1) hT p
 ·have e:i=xs.length:=by omega
  subst e
  exact .inl ⟨⟨xs,q1,Nat.le_refl _⟩,hd σ H p⟩
end
section
variable {X:Cx} {fr:Fr} {ta:DTA} {tb:DTS} {pos p0 p1 p2:Pos}
def Sz (i j:Nat) (ta:DTA) (tb:DTS):DTS:=fun D ρ=>ta ρ fun ds=>∃ (d:Dt) (xs:List Dt) (Pv:Nat→DS→Prop),ds=[d]∧wm d=some xs∧Pv 0 ρ∧
 (∀ (n:Nat) x ρ',xs[n]? = some x→Pv n ρ'→tb { D with nx:=Pv (n+1),ct:=Pv (n+1),bk:=D.nx } ((ρ'.set i (.some (.int n))).set j (.some x)))∧∀ ρ',Pv xs.length ρ'→D.nx ρ'
theorem uX {i j:Nat} {x y:Str} {a:Expr} {body:List Stmt} {px py pt p0 pos1:Pos} {kt:Nat} (hc:X.calm=true) (hN:X.N.Nodup) (hi:X.N[i]? = some x) (hj:X.N[j]? = some y) (hx:Loc X.env.scope x) (hy:Loc X.env.scope y) (hp:PassesOwn (model X.prog X.w) X.A X.env X.xe)
  (hg:Gl X "enumerate") (hm:X.mg "enumerate"=none) (ha:DA X [a] ta) (hb:DSs X fr body tb) (hs:∀ z,foldedSetIterable (.Call (.Name "enumerate" p0) [a] [] pos1) X.env z=pure z:=by intro _; rfl)
  (hst:starEach [a] X.env=(false,eval a X.env)::starEach [] X.env:=by rfl) (hpl:(backTo pos1 (starEach [] X.env)).any (·.1)=false:=by rfl)
  (hf:X.fn x=true∨X.env.scope.names.lookup x=some .local:=by first | exact .inl rfl | exact .inr rfl | assumption) (hf2:X.fn y=true∨X.env.scope.names.lookup y=some .local:=by first | exact .inl rfl | exact .inr rfl | assumption):
  DSt X fr (.For (.Tuple [.Name x px,.Name y py] kt pt) (.Call (.Name "enumerate" p0) [a] [] pos1) body [] pos) (Sz i j ta tb):=by
 obtain ⟨tt,p,l⟩:=ha
 obtain ⟨tbs,p2,l2⟩:=hb
 refine ⟨_,uG hp hc (dE hg hm p hst hpl) (qJ hc (yY (ya hN hi hx hf) (yY (ya hN hj hy hf2) tR))) p2 hs,fun W0 G ρ σ W D D' at_ s h=>l ρ σ W _ at_.rl h _ fun ds vs W1 s1 i1 ⟨d,xs,Pv,ed,el1,h0,ht,hd⟩=>?_⟩
 subst ed
 obtain ⟨v1,rfl,j1⟩:=i1.one
 have hg1:Same G W1.g:=at_.gs.trans s1.g
 obtain ⟨l1,us,rfl,hq1,ha1⟩:=nU j1 el1
 refine ⟨l1,us,rfl,hq1 W1 (Same.refl _),g9 (K:=X.K) (xs:=us) (fun n=>InL X.K (Zx X) W0 W1 (Pv n)) ⟨ρ,W1,rfl,(at_.step s1).now,h0⟩ (fun n σ' H' ⟨_,W2,e2,a2,_⟩=>e2 ▸ hq1 W2 a2.gs) ?_ ?_⟩
 ·rintro n u T σ' _ hu hT ⟨ρ',W2,rfl,a2,hp2⟩
  obtain ⟨x',ex,ix⟩:=ha1.get' hu
  have s3:=vK hT (.tup [.int n,u])
  have a3:=a2.step s3
  refine ⟨T,_,rfl,.of zw,rfl,.int n,[u],rfl,u,[],rfl,rfl,?_⟩
  exact l2 W0 W1.g _ _ (W2.new T (.tup [.int n,u])) { D with nx:=Pv (n+1),ct:=Pv (n+1),bk:=D.nx } _ ((a3.set i (is_int.mpr rfl)).set j (Is.mono0 a3.gs ix)) (xj s hg1) (ht n x' ρ' ex hp2)
 ·rintro σ' _ ⟨ρ',W2,rfl,a2,hp2⟩
  exact s.nx ρ' σ' W2 (a2.weak hg1) (hd ρ' (by rw [ha1.length]; exact hp2))
theorem fv {j:Nat} {x:Str} {a b:Expr} {body:List Stmt} {px p0 pos1:Pos} (hc:X.calm=true) (hN:X.N.Nodup) (hi:X.N[j]? = some x) (hx:Loc X.env.scope x) (hp:PassesOwn (model X.prog X.w) X.A X.env X.xe)
  (hg:Gl X "range") (hm:X.mg "range"=none) (h:DA X [a,b] ta) (hb:DSs X fr body tb) (hs:∀ x,foldedSetIterable (.Call (.Name "range" p0) [a,b] [] pos1) X.env x=pure x:=by intro _; rfl)
  (hst:starEach [a,b] X.env=[(false,eval a X.env),(false,eval b X.env)]:=by rfl) (hst2:starEach [b] X.env=[(false,eval b X.env)]:=by rfl)
  (hf:X.fn x=true∨X.env.scope.names.lookup x=some .local:=by first | exact .inl rfl | exact .inr rfl | assumption):DSt X fr (.For (.Name x px) (.Call (.Name "range" p0) [a,b] [] pos1) body [] pos) (Ui j ta tb):=by
 obtain ⟨tt,p,l⟩:=h
 obtain ⟨tbs,p2,l2⟩:=hb
 refine ⟨_,uG hp hc (l6 hg hm p hst hst2) (ya hN hi hx hf) p2 hs,fun W0 G ρ σ W D D' at_ s h=>l ρ σ W _ at_.rl h _ fun ds vs W1 s1 i1 ⟨m,n,Pv,ed,m1,m2,n1,n2,h0,ht,hd⟩=>?_⟩
 subst ed
 obtain ⟨v1,v2,rfl,j1,j2⟩:=i1.two
 have hg1:Same G W1.g:=at_.gs.trans s1.g
 refine ⟨m,n,by rw [is_int.mp j1,is_int.mp j2],⟨m1,m2,n1,n2⟩,rY (lo:=m) (n:=(n - m).toNat) (fun i=>InL X.K (Zx X) W0 W1 (Pv i)) ⟨ρ,W1,rfl,(at_.step s1).now,h0⟩ ?_ ?_⟩
 ·rintro i σ' _ hi ⟨ρ',W2,rfl,a2,hp2⟩
  exact l2 W0 W1.g _ _ W2 { D with nx:=Pv (i+1),ct:=Pv (i+1),bk:=D.nx } _ (a2.set j (is_int.mpr rfl)) (xj s hg1) (ht i ρ' hi hp2)
 ·rintro σ' _ ⟨ρ',W2,rfl,a2,hp2⟩
  exact s.nx ρ' σ' W2 (a2.weak hg1) (hd ρ' hp2)
def RN (ta:DTA):DTE:=fun ρ Q=>ta ρ fun ds=>∃ i j,ds=[.int i,.int j]∧Q (.int (if j<i then j else i))
theorem fI {a b:Expr} (hc:X.calm=true) (hg:Gl X "min") (hm:X.mg "min"=none) (ha:DA X [a,b] ta) (hs:starEach [a,b] X.env=(false,eval a X.env)::starEach [b] X.env:=by rfl) (hpl:(backTo pos (starEach [b] X.env)).any (·.1)=false:=by rfl):
  DE X (.Call (.Name "min" p0) [a,b] [] pos) (RN ta):=by
 obtain ⟨te,p1,l1⟩:=ha
 refine ⟨_,yG (kO hc) hg hm (by decide +kernel) p1 (by decide) (by decide) hs hpl,fun ρ σ H Q r h R k=>l1 ρ σ H _ r h _ fun ds vs H1 s1 i1 ⟨i,j,ed,q⟩=>?_⟩
 subst ed
 obtain ⟨v1,v2,rfl,j1,j2⟩:=i1.two
 exact ⟨i,j,by rw [is_int.mp j1,is_int.mp j2],k _ _ H1 s1 (is_int.mpr rfl) q⟩
structure tj (K:PySem.W.Frag) (C:Addr):Prop where
 cl:Cls K C
 ha:PySem.W.findIn K (.ref C) "__class__"=some (some (.builtin "object.__class__"))
 hn:PySem.W.specialIn K (.builtin "object.__class__") "__get__"=some (some (.builtin "getset_descriptor.__get__"))
 htk:PySem.W.takesIn K (.builtin "object.__class__")=some true
 hm:PySem.W.mroIn K C (.type "object")=some true
theorem kQ:CallR X (.builtin "isinstance") (fun xs H Q=>∃ v D tv b,xs=[v,.ref D]∧vO X.K H v tv∧PySem.W.kitOne X.K tv (.ref D)=some b∧Q (.bl b) H):=by
 intro pins s σ H xs us Q I r h
 obtain ⟨v,D,tv,b,rfl,hty,hk,q⟩:=h
 cases r with
 | cons r1 r2=>
  cases r2 with
  | cons r3 r4=>
   cases r4
   cases r3
   exact rW I r1 hty hk fun tk=>⟨.bl b,H,I.tok _,rfl,q⟩
def Sw (K:PySem.W.Frag) (D:Addr) (ta:DTE):DTE:=fun ρ Q=>ta ρ fun d=>∃ C f n b,d=.way C f n∧tj K C∧PySem.W.kitOne K (.ref C) (.ref D)=some b∧Q (.bl b)
theorem xC {a:Expr} {t:DTE} {y:Str} {p':Pos} {D:Addr} (hm:X.mg "isinstance"=none) (hmc:X.mg y=some (.ref D)) (ha:DE X a t)
  (hg:Gl X "isinstance":=by rfl) (hgc:Gl X y:=by rfl) (hdy:(y == ("__debug__":Str))=false:=by decide)
  (hs:starEach [a,.Name y p'] X.env=(false,eval a X.env)::starEach [.Name y p'] X.env:=by rfl) (hs2:starEach [.Name y p'] X.env=(false,eval (.Name y p') X.env)::starEach [] X.env:=by rfl)
  (hpl:(backTo pos (starEach [.Name y p'] X.env)).any (·.1)=false:=by rfl):
  DE X (.Call (.Name "isinstance" p0) [a,.Name y p'] [] pos) (Sw X.K D t):=by
 obtain ⟨te,p1,l1⟩:=ha
 have pc:PE X (.Name y p') (tC (.ref D)):=mT hgc hmc rfl hdy
 refine ⟨_,yG kQ hg hm boot_isinstance (zI p1 (zI pc ym hs2) hs) (by decide) (by decide) hs hpl,fun ρ σ H Q r h R k=>l1 ρ σ H _ r h _ fun d v H1 s1 i1 ⟨C,f,n,b,ed,ok,e,q⟩=>?_⟩
 subst ed
 obtain ⟨p,dx,rfl,hp⟩:=is_way.mp i1
 exact ⟨_,D,_,b,rfl,.ins (H1.sub _ _ hp) ok.cl ok.ha ok.hn ok.htk ok.hm,e,k _ _ H1 s1 (is_bl.mpr rfl) q⟩
def SF (i:Nat) (g:Int→Int→Int) (te:DTE):DTS:=fun D ρ=>∃ d,ρ[i]? = some (.some d)∧te ρ fun e=>∃ m n,d=.int m∧e=.int n∧D.nx (ρ.set i (.some (.int (g m n))))
theorem lj {i:Nat} {x:Str} {e:Expr} {te:DTE} {op:Operator} {g:Int→Int→Int} {pos':Pos} (ho:PIp X op (ipI g)) (hN:X.N.Nodup) (hi:X.N[i]? = some x) (hx:Loc X.env.scope x) (h:DE X e te)
  (hf:X.fn x=true∨X.env.scope.names.lookup x=some .local:=by first | exact .inl rfl | exact .inr rfl | assumption):DSt X fr (.AugAssign (.Name x pos') op e pos) (SF i g te):=by
 obtain ⟨tt,p,l⟩:=h
 refine ⟨_,Ym hN hi hx p ho hf,fun W0 G ρ σ W D D' a s h=>?_⟩
 obtain ⟨d,ed,h⟩:=h
 obtain ⟨v,ev,iv⟩:=a.rl.at_ i d ed
 refine ⟨v,ev,l ρ σ W _ a.rl h _ fun z u W1 s1 i1 ⟨m,n,em,en,q⟩=>?_⟩
 subst em
 subst en
 exact ⟨m,n,is_int.mp iv,is_int.mp i1,s.nx _ _ W1 ((a.step s1).set i (is_int.mpr rfl)) q⟩
end
end OD
namespace OD
variable {Z:Hp}
open PySem PySem.Spec PyProof.Rows L2
def Itd (lo:Int) (n:Nat):It:=⟨fun i _=>i<n,fun i H x H'=>H'=H∧x=.int (lo - i),fun i _=>n≤i⟩
theorem lQ {P:Program} {w:World} {K:PySem.W.Frag} {tg:Expr} (it:Addr) (lo:Int) (n:Nat):mv P w K tg (Itd lo n) [it] it (fun i h=>IsRangeIter h it (lo+(i:Nat)*(-1)) ((n:Int) - (i:Nat)) (-1)) where
 mem:=by simp
 obj:=fun i h st b hb=>by
  have e:b=it:=by simpa using hb
  subst e
  exact ⟨_,st,fun v z=>by
   have z':Data.fields _=Data.cell v:=z
   cases z'⟩
 keep:=fun i h h' st k=>k it (by simp) _ st
 item:=by
  intro X hP hw hK hc i pins s σ H E I hf st hg
  subst hP hw hK
  obtain ⟨f0,f1,f2,f3,f4,f5⟩:=hf it (by simp)
  have W:=Walks.range (prog:=X.prog) (w:=X.w) (I.ok.hd hc) it lo (-1) n
  refine W.item i s _ _ hg st fun v h' tk hv st' kk=>?_
  obtain ⟨t,rfl⟩:=hv
  have I1:Inv X pins σ H { s with heap:=h',toks:=tk }:=I.turned (fun b o hb e=>kk b o (by simpa using hb) e) f0 f1 f3 f4 f5
  refine ⟨_,rfl,gY (s:={ s with heap:=h',toks:=tk }) (n:="range_iterator") st' rfl rfl (by decide) ⟨.int (lo - i),H,I1,⟨t,?_⟩,⟨rfl,rfl⟩,st',fun b hb=>(hf b hb).1⟩⟩
  rw [show lo+(i:Int)*(-1)=lo - i by omega]
 done:=by
  intro X hP hw hK hc i pins s σ H E I hf st hg
  subst hP hw hK
  obtain ⟨f0,f1,f2,f3,f4,f5⟩:=hf it (by simp)
  exact wpAny_pyNext_range_end (I.ok.hd hc) st (by have:n≤i:=hg; omega) fun h' eb=>⟨rfl,I.turned (t':=s.toks) (fun b o hb e=>eb b o hb e) f0 f1 f3 f4 f5⟩
 self:=fun _ _ _ _ _ st h=>wpAny_pyIter_rangeiter st h
theorem wP (a b:Int):Builtin.Range.rangeSize a b (-1)=if b<a then a - b else 0:=by
 unfold Builtin.Range.rangeSize
 rw [if_neg (by decide)]
 split
 ·rename_i h
  have:(a - b - 1) / (- -1)=a - b - 1:=by rw [show (- -1:Int)=1 by decide,Int.ediv_one]
  omega
 ·rfl
theorem nh {a b:Int} (ha:-(2 ^ 62)≤a) (ha':a<2 ^ 62) (hb:-(2 ^ 62)≤b) (hb':b<2 ^ 62):Builtin.Range.small a b (-1)=true:=by
 unfold Builtin.Range.small
 rw [wP]
 simp only [Builtin.Range.rangeFitsLong,Bool.and_eq_true,Bool.or_eq_true,decide_eq_true_eq,beq_iff_eq,show ¬ (-1:Int)>0 by decide,if_false]
 split <;> omega
section
variable {X:Cx} {tg:Expr}
def T9 (ta:TA):TI:=fun σ H R=>ta σ H fun vs H1=>∃ i j:Int,vs=[.int i,.int j,.int (-1)]∧(-(2 ^ 30)≤i∧i<2 ^ 30∧-(2 ^ 30)≤j∧j<2 ^ 30)∧R (Itd i (i - j).toNat) H1
theorem dF {a b c:Expr} {ta:TA} {p pos:Pos} (hg:Gl X "range") (hm:X.mg "range"=none) (ha:PA X [a,b,c] ta) (hs:starEach [a,b,c] X.env=(false,eval a X.env)::starEach [b,c] X.env:=by rfl)
  (hpl:(backTo pos (starEach [b,c] X.env)).any (·.1)=false:=by rfl):PI X tg (.Call (.Name "range" p) [a,b,c] [] pos) (T9 ta):=by
 intro pins s σ H R I h
 refine Call_ (wV I hg hm boot_range (PyProof.Rows.callWith_type1 (thn (ha pos pins s σ H _ I h) fun us s1 ⟨vs,H1,I1,r1,q1⟩=>?_) hs hpl))
 obtain ⟨i,j,e,⟨q1,q2,q3,q4⟩,q⟩:=q1
 subst e
 cases r1 with
 | cons r rr=>
 cases rr with
 | cons r' rr=>
 cases rr with
 | cons r'' rr=>
  cases rr
  obtain ⟨t,rfl⟩:=r
  obtain ⟨t',rfl⟩:=r'
  obtain ⟨t'',rfl⟩:=r''
  refine call_range_3 (by decide) ?_ (Or.inl (PyProof.noPylong_small (by omega)))
  refine wpAny_pyIter_range (IsRange.new ..) (nh (by omega) (by omega) (by omega) (by omega)) ?_
  have I2:Inv X pins σ H1 { s1 with heap:=s1.heap.push { cls:=.type "range",data:=.fields #[.int i t,.int j t',.int (-1) t''] },toks:=s1.toks }:=I1.kept fun b o e=>Heap.get?_push_of_some _ e
  refine ⟨(s1.heap.push { cls:=.type "range",data:=.fields #[.int i t,.int j t',.int (-1) t''] }).objs.size,[(s1.heap.push { cls:=.type "range",data:=.fields #[.int i t,.int j t',.int (-1) t''] }).objs.size],_,_,H1,rfl,
   I2.kept (t':=s1.toks) fun b o e=>Heap.get?_push_of_some _ e,lQ _ i (i - j).toNat,?_,fun b hb=>?_,q⟩
  ·have e1:i+((0:Nat):Int)*(-1)=i:=by simp
   have e2:(((i - j).toNat:Nat):Int) - ((0:Nat):Int)=Builtin.Range.rangeSize i j (-1):=by rw [wP]; split <;> omega
   show IsRangeIter _ _ (i+((0:Nat):Int)*(-1)) ((((i - j).toNat:Nat):Int) - ((0:Nat):Int)) (-1)
   rw [e1,e2]
   exact Heap.get?_push_size _ rfl
  ·have e:b=(s1.heap.push { cls:=.type "range",data:=.fields #[.int i t,.int j t',.int (-1) t''] }).objs.size:=by simpa using hb
   subst e
   exact I2.fpOk (Nat.le_refl _) (I2.hok.fresh (Nat.le_refl _))
theorem fb {lo:Int} {n:Nat} {g:TG} {tb:TS} {D:Ends} {σ:St} {H:Hp} (Pv:Nat→St→Hp→Prop) (h0:Pv 0 σ H)
  (hs:∀ i σ H,i<n→Pv i σ H→g (.int (lo - i)) σ H fun σ2 H2=>tb { D with nx:=Pv (i+1),ct:=Pv (i+1),bk:=D.nx } σ2 H2) (hd:∀ σ H,Pv n σ H→D.nx σ H):
  ∃ W:Nat→Nat→St→Hp→Prop,(∃ m,W 0 m σ H)∧∀ i m σ H,W i m σ H→
   ((Itd lo n).stop i H∧D.nx σ H)∨((Itd lo n).go i H∧∃ N:St→Hp→Prop,(∀ σ' H',N σ' H'→∃ m',m'<m∧W (i+1) m' σ' H')∧∀ x H',(Itd lo n).yld i H x H'→g x σ H' fun σ2 H2=>tb { D with nx:=N,ct:=N,bk:=D.nx } σ2 H2):=by
 refine ⟨fun i m σ H=>m=n - i∧i≤n∧Pv i σ H,⟨n,by simp,Nat.zero_le _,h0⟩,?_⟩
 rintro i m σ H ⟨rfl,hi,p⟩
 by_cases hlt:i<n
 ·refine .inr ⟨hlt,Pv (i+1),fun σ' H' p'=>⟨n - (i+1),by omega,rfl,hlt,p'⟩,fun x H' y=>?_⟩
  obtain ⟨e,y⟩:=y
  subst e y
  exact hs i σ _ hlt p
 ·have e:i=n:=by omega
  subst e
  exact .inl ⟨Nat.le_refl _,hd σ H p⟩
variable {fr:Fr} {ta:DTA} {tb:DTS} {te:DTE} {pos p0 p1 p2:Pos}
def SA (j:Nat) (ta:DTA) (tb:DTS):DTS:=fun D ρ=>ta ρ fun ds=>∃ (m n:Int) (Pv:Nat→DS→Prop),ds=[.int m,.int n,.int (-1)]∧-(2 ^ 30)≤m∧m<2 ^ 30∧-(2 ^ 30)≤n∧n<2 ^ 30∧Pv 0 ρ∧
 (∀ (i:Nat) ρ',i<(m - n).toNat→Pv i ρ'→tb { D with nx:=Pv (i+1),ct:=Pv (i+1),bk:=D.nx } (ρ'.set j (.some (.int (m - i)))))∧∀ ρ',Pv (m - n).toNat ρ'→D.nx ρ'
theorem AllIs.three {K:PySem.W.Frag} {H:Hp} {d e f:Dt} {xs:List V} (h:AllIs K H [d,e,f] xs):∃ v u w,xs=[v,u,w]∧Is K H d v∧Is K H e u∧Is K H f w:=by
 obtain ⟨x,r,rfl,h1,h2⟩:=allIs_cons.mp h
 obtain ⟨u,w,rfl,h3,h4⟩:=h2.two
 exact ⟨x,u,w,rfl,h1,h3,h4⟩
theorem vk {j:Nat} {x:Str} {a b c:Expr} {body:List Stmt} {px p0 pos1:Pos} (hc:X.calm=true) (hN:X.N.Nodup) (hi:X.N[j]? = some x) (hx:Loc X.env.scope x) (hp:PassesOwn (model X.prog X.w) X.A X.env X.xe)
  (hg:Gl X "range") (hm:X.mg "range"=none) (h:DA X [a,b,c] ta) (hb:DSs X fr body tb) (hs:∀ x,foldedSetIterable (.Call (.Name "range" p0) [a,b,c] [] pos1) X.env x=pure x:=by intro _; rfl)
  (hst:starEach [a,b,c] X.env=(false,eval a X.env)::starEach [b,c] X.env:=by rfl) (hpl:(backTo pos1 (starEach [b,c] X.env)).any (·.1)=false:=by rfl)
  (hf:X.fn x=true∨X.env.scope.names.lookup x=some .local:=by first | exact .inl rfl | exact .inr rfl | assumption):DSt X fr (.For (.Name x px) (.Call (.Name "range" p0) [a,b,c] [] pos1) body [] pos) (SA j ta tb):=by
 obtain ⟨tt,p,l⟩:=h
 obtain ⟨tbs,p2,l2⟩:=hb
 refine ⟨_,uG hp hc (dF hg hm p hst hpl) (ya hN hi hx hf) p2 hs,fun W0 G ρ σ W D D' at_ s h=>l ρ σ W _ at_.rl h _ fun ds vs W1 s1 i1 ⟨m,n,Pv,ed,m1,m2,n1,n2,h0,ht,hd⟩=>?_⟩
 subst ed
 obtain ⟨v1,v2,v3,rfl,j1,j2,j3⟩:=i1.three
 have hg1:Same G W1.g:=at_.gs.trans s1.g
 refine ⟨m,n,by rw [is_int.mp j1,is_int.mp j2,is_int.mp j3],⟨m1,m2,n1,n2⟩,fb (lo:=m) (n:=(m - n).toNat) (fun i=>InL X.K (Zx X) W0 W1 (Pv i)) ⟨ρ,W1,rfl,(at_.step s1).now,h0⟩ ?_ ?_⟩
 ·rintro i σ' _ hi ⟨ρ',W2,rfl,a2,hp2⟩
  exact l2 W0 W1.g _ _ W2 { D with nx:=Pv (i+1),ct:=Pv (i+1),bk:=D.nx } _ (a2.set j (is_int.mpr rfl)) (xj s hg1) (ht i ρ' hi hp2)
 ·rintro σ' _ ⟨ρ',W2,rfl,a2,hp2⟩
  exact s.nx ρ' σ' W2 (a2.weak hg1) (hd ρ' hp2)
def RO (ta:DTA):DTE:=fun ρ Q=>ta ρ fun ds=>∃ i j,ds=[.int i,.int j]∧Q (.int (if j>i then j else i))
theorem V7 {a b:Expr} (hc:X.calm=true) (hg:Gl X "max") (hm:X.mg "max"=none) (ha:DA X [a,b] ta) (hs:starEach [a,b] X.env=(false,eval a X.env)::starEach [b] X.env:=by rfl) (hpl:(backTo pos (starEach [b] X.env)).any (·.1)=false:=by rfl):
  DE X (.Call (.Name "max" p0) [a,b] [] pos) (RO ta):=by
 obtain ⟨te,p1,l1⟩:=ha
 refine ⟨_,yG (kP hc) hg hm (by decide +kernel) p1 (by decide) (by decide) hs hpl,fun ρ σ H Q r h R k=>l1 ρ σ H _ r h _ fun ds vs H1 s1 i1 ⟨i,j,ed,q⟩=>?_⟩
 subst ed
 obtain ⟨v1,v2,rfl,j1,j2⟩:=i1.two
 exact ⟨i,j,by rw [is_int.mp j1,is_int.mp j2],k _ _ H1 s1 (is_int.mpr rfl) q⟩
def gU:Dt→Bool
 | .non=>true
 | _=>false
theorem kB {K:PySem.W.Frag} {H:Hp} {d:Dt} {v:V} (h:Is K H d v):decide (v=.non)=gU d:=by
 cases d with
 | non=>rw [is_non.mp h]; rfl
 | bl b=>rw [is_bl.mp h]; rfl
 | int b=>rw [is_int.mp h]; rfl
 | str b=>rw [is_str.mp h]; rfl
 | tup b=>obtain ⟨a,xs,rfl,_⟩:=is_tup.mp h; rfl
 | lst b=>obtain ⟨a,xs,rfl,_⟩:=is_lst.mp h; rfl
 | scr b=>obtain ⟨a,rfl,_⟩:=is_scr.mp h; rfl
 | way b _ _=>obtain ⟨a,xs,rfl,_⟩:=is_way.mp h; rfl
 | exc b=>obtain ⟨a,rfl,_⟩:=is_exc.mp h; rfl
def ZQ (ta:DTE):DTE:=fun ρ Q=>ta ρ fun d=>Q (.bl (gU d))
theorem fm {a:Expr} {j pos'} (ha:DE X a te):DT X (.Compare a [.Is] [.Constant .none j pos'] pos) (u9 (ZQ te)):=by
 obtain ⟨t1,p1,l1⟩:=ha
 refine ⟨_,Yl (Yy p1),nV (te:=UA t1) (t:=ZQ te) fun ρ σ H Q r h R k=>l1 ρ σ H _ r h _ fun d v H1 s1 i1 q=>k (.bl (gU d)) (.bl (decide (v=.non))) H1 s1 (is_bl.mpr (by rw [kB i1])) q⟩
end
end OD
namespace OD
variable {Z:Hp}
open PySem PySem.Spec PyProof.Rows L2
section
variable {X:Cx} {a:Expr} {te:TE} {tl th ts:TO} {lo hi:Option Expr} {st:Expr} {pos p2:Pos} {ta:DTE} {dl dh dt:DTO}
variable {fr:Fr} {tA:DTA} {tb:DTS} {p0 p1:Pos}
def eQ (i j:Int):Prop:=j≠0∧Builtin.divisionGoesByPylong i j=false
theorem mW:DOp X (binaryOp .FloorDiv) (gIC eQ fun i j=>.int (i.fdiv j)):=pe (C:=eQ) (opI fun _ _ _ _ _ _ _ hc q=>floordiv_int hc.1 q (.inl hc.2))
theorem ZS {c n:Int} (h0:n≠0) (h:n.natAbs<2 ^ 9000):eQ c n:=⟨h0,PyProof.noPylong_of_log2 ((Nat.log2_lt (by omega)).mpr h)⟩
def Sh (t u:DTS):DTS:=fun D ρ=>∃ P:DS→Prop,t { D with nx:=P } ρ∧∀ ρ',P ρ'→u D ρ'
theorem z5 {sst:Stmt} {yX:List Stmt} {t u:DTS} (h1:DSt X fr sst t) (h2:DSs X fr yX u):DSs X fr (sst::yX) (Sh t u):=by
 obtain ⟨ts,p1,l1⟩:=h1
 obtain ⟨us,p2,l2⟩:=h2
 refine ⟨_,p9 p1 p2,fun W0 G ρ σ W D D' a s h=>?_⟩
 obtain ⟨P,h,k⟩:=h
 exact l1 W0 G ρ σ W { D with nx:=P } { D' with nx:=us D' } a ⟨fun ρ' σ' W' a' q=>l2 W0 G ρ' σ' W' D D' a' s (k ρ' q),s.tl,s.bk,s.ct⟩ h
end
end OD
namespace OD
open PySem PySem.Spec PyProof.Rows L2
section
variable {X:Cx} {ta:DTE} {pos p0:Pos}
end
end OD
namespace OD
variable {Z:Hp}
open PySem PySem.Spec PyProof.Rows L2
section
variable {X:Cx} {K:PySem.W.Frag} {H:Hp}
def gS (f:Str→Str→Dt):Dt→Dt→(Dt→Prop)→Prop:=fun d e Q=>∃ x y,d=.str x∧e=.str y∧Q (f x y)
theorem fF {x y:Str}:decide (V.str x=V.str y)=(x == y):=by
 rw [Bool.eq_iff_iff]
 simp
theorem ZC:DOp X (compareOp .Eq) (gS fun x y=>.bl (x == y)):=by
 refine ⟨_,UU,fun H x y d e Q i1 i2 ⟨a,b,ed,ee,q⟩ R k=>?_⟩
 subst ed
 subst ee
 obtain rfl:=is_str.mp i1
 obtain rfl:=is_str.mp i2
 refine ⟨rfl,?_⟩
 rw [fF]
 exact k _ _ H (Le.refl H) (is_bl.mpr rfl) q
end
section
variable {X:Cx} {fr:Fr} {te:DTE} {tb:DTS} {pos p0 p1 p2:Pos}
def SB (i j:Nat) (te:DTE) (tb:DTS):DTS:=fun D ρ=>te ρ fun d=>∃ (xs:List Dt) (Pv:Nat→DS→Prop),wm d=some xs∧Pv 0 ρ∧
 (∀ (n:Nat) x ρ',xs[n]? = some x→Pv n ρ'→∃ a b,x=.tup [a,b]∧tb { D with nx:=Pv (n+1),ct:=Pv (n+1),bk:=D.nx } ((ρ'.set i (.some a)).set j (.some b)))∧∀ ρ',Pv xs.length ρ'→D.nx ρ'
theorem lh {i j:Nat} {x y:Str} {iter:Expr} {body:List Stmt} {px py pt:Pos} {kt:Nat} (hc:X.calm=true) (hN:X.N.Nodup) (hi:X.N[i]? = some x) (hj:X.N[j]? = some y) (hx:Loc X.env.scope x) (hy:Loc X.env.scope y) (hp:PassesOwn (model X.prog X.w) X.A X.env X.xe)
  (h:DE X iter te) (hb:DSs X fr body tb) (hs:∀ z,foldedSetIterable iter X.env z=pure z:=by intro _; rfl)
  (hf:X.fn x=true∨X.env.scope.names.lookup x=some .local:=by first | exact .inl rfl | exact .inr rfl | assumption) (hf2:X.fn y=true∨X.env.scope.names.lookup y=some .local:=by first | exact .inl rfl | exact .inr rfl | assumption):
  DSt X fr (.For (.Tuple [.Name x px,.Name y py] kt pt) iter body [] pos) (SB i j te tb):=by
 obtain ⟨tt,p,l⟩:=h
 obtain ⟨tbs,p2,l2⟩:=hb
 refine ⟨_,uG hp hc (qI p) (qJ hc (yY (ya hN hi hx hf) (yY (ya hN hj hy hf2) tR))) p2 hs,fun W0 G ρ σ W D D' at_ s h=>l ρ σ W _ at_.rl h _ fun d v W1 s1 i1 ⟨ds,Pv,el,h0,ht,hd⟩=>?_⟩
 have hg:Same G W1.g:=at_.gs.trans s1.g
 obtain ⟨a,xs,rfl,hq,ha⟩:=nU i1 el
 refine ⟨a,rfl,⟨xs,hq W1 (Same.refl _)⟩,oK (K:=X.K) (a:=a) (xs:=xs) (fun i=>InL X.K (Zx X) W0 W1 (Pv i)) ⟨ρ,W1,rfl,(at_.step s1).now,h0⟩ (fun i σ' H' _ ⟨_,W2,e2,a2,_⟩=>e2 ▸ hq W2 a2.gs) ?_ ?_⟩
 ·rintro n x σ' _ hi ⟨ρ',W2,rfl,a2,hp2⟩
  obtain ⟨e,he,ie⟩:=ha.get' hi
  obtain ⟨a1,b1,rfl,q⟩:=ht n e ρ' he hp2
  obtain ⟨T,us,rfl,hT,hu⟩:=is_tup.mp (Is.mono0 a2.gs ie)
  obtain ⟨v1,v2,rfl,k1,k2⟩:=hu.two
  refine ⟨T,_,rfl,.of (W2.sub _ _ hT),rfl,v1,[v2],rfl,v2,[],rfl,rfl,?_⟩
  exact l2 W0 W1.g _ _ W2 { D with nx:=Pv (n+1),ct:=Pv (n+1),bk:=D.nx } _ ((a2.set i k1).set j k2) (xj s hg) q
 ·rintro σ' _ ⟨ρ',W2,rfl,a2,hp2⟩
  exact s.nx ρ' σ' W2 (a2.weak hg) (hd ρ' (by rw [ha.length]; exact hp2))
end
end OD
namespace OD
variable {Z:Hp}
open PySem PySem.Spec PyProof.Rows L2
def tP (σ:St) (js:List Nat):St:=js.map fun j=>(σ[j]?).getD none
section
variable {X:Cx} {pins:List (Addr × Obj)} {σ:St} {H:Hp} {s:Shared} {scope:Scope} {cl:List (Str × Addr)} {x:Str} {caps:List Str} {js:List Nat} {fp:List Addr}
end
def vN (cells:List (Str × Addr)) (names:List (Str × NameKind)):List (Str × Addr):=(names.filterMap fun y=>if y.2 == .free then (cells.lookup y.1).map (y.1,·) else none).reverse
theorem sS {α:Type} {y:Str} {c:α}:∀ {l:List (Str × α)},(y,c)∈l→∃ c',l.lookup y=some c'
 | [],h=>nomatch h
 | (z,d)::r,h=>by
  rw [List.lookup_cons]
  cases q:y == z with
  | true=>exact ⟨d,rfl⟩
  | false=>
   rcases List.mem_cons.mp h with e | e
   ·cases e
    rw [beq_self_eq_true] at q
    cases q
   ·exact sS e
theorem mem_clOf {cells:List (Str × Addr)} {names:List (Str × NameKind)} {y:Str} {c:Addr}:(y,c)∈vN cells names↔(y,NameKind.free)∈names∧cells.lookup y=some c:=by
 unfold vN
 rw [List.mem_reverse,List.mem_filterMap]
 constructor
 ·rintro ⟨⟨z,k⟩,hz,e⟩
  split at e
  ·rename_i hk
   obtain rfl:=eq_of_beq hk
   obtain ⟨d,hd,e⟩:=Option.map_eq_some_iff.mp e
   cases e
   exact ⟨hz,hd⟩
  ·cases e
 ·rintro ⟨h1,h2⟩
  exact ⟨(y,.free),h1,by show Option.map _ (List.lookup y cells)=_; rw [h2]; rfl⟩
theorem Zg {scope:Scope} {env:Env} (h:∀ y,(y,NameKind.free)∈scope.names→∃ c,env.cells.lookup y=some c):closureFor scope env=pure (vN env.cells scope.names):=by
 have key:∀ (names:List (Str × NameKind)) (acc:List (Str × Addr)),(∀ y,(y,NameKind.free)∈names→∃ c,env.cells.lookup y=some c)→
   (forIn names acc fun x r=>(if x.2 == NameKind.free then do let c ← cellOf env x.1; pure (ForInStep.yield ((x.1,c)::r)) else pure (ForInStep.yield r):Sem (ForInStep (List (Str × Addr)))))=(pure (vN env.cells names++acc):Sem (List (Str × Addr))):=by
  intro names
  induction names with
  | nil=>intro acc _; rfl
  | cons a r ih=>
   intro acc ha
   obtain ⟨n,k⟩:=a
   rw [List.forIn_cons]
   cases hk:k == NameKind.free with
   | true=>
    obtain rfl:=eq_of_beq hk
    obtain ⟨c,hc⟩:=ha n List.mem_cons_self
    have e1:cellOf env n=pure c:=by unfold cellOf; rw [hc]
    have e2:vN env.cells ((n,NameKind.free)::r)=vN env.cells r++[(n,c)]:=by
     unfold vN
     rw [List.filterMap_cons_some (b:=(n,c)) (by show Option.map _ (List.lookup n env.cells)=_; rw [hc]; rfl),List.reverse_cons]
    show (do let c ← cellOf env n; pure (ForInStep.yield ((n,c)::acc)):Sem _) >>= _=_
    rw [e1,pure_bind,pure_bind,e2,List.append_assoc]
    exact ih ((n,c)::acc) fun y hy=>ha y (List.mem_cons_of_mem _ hy)
   | false=>
    have e2:vN env.cells ((n,k)::r)=vN env.cells r:=by
     unfold vN
     rw [List.filterMap_cons_none (by show (if (k == NameKind.free)=true then _ else none)=none; rw [hk]; rfl)]
    show (pure (ForInStep.yield acc):Sem _) >>= _=_
    rw [pure_bind,e2]
    exact ih acc fun y hy=>ha y (List.mem_cons_of_mem _ hy)
 have:=key scope.names [] h
 rw [List.append_nil] at this
 unfold closureFor
 rw [← this]
 exact (bind_pure _).trans rfl
theorem y6 {env:Env} (hk:env.scope.kind=.function):∀ {names:List (Str × NameKind)} {x:Str},names.lookup x=some .free→env.scope.names.lookup x=some .cell→
  (names.map fun (n,k)=>if (k == NameKind.free && env.scope.kind == .function && env.kindOf n == some .cell) then (n,NameKind.cell) else (n,k)).lookup x=some .cell
 | [],_,h,_=>by simp at h
 | (n,k)::r,x,h,he=>by
  have ih:=@y6 env hk r x
  show List.lookup x ((if (k == NameKind.free && env.scope.kind == .function && env.kindOf n == some .cell)=true then (n,NameKind.cell) else (n,k))::_)=_
  cases hx:x == n with
  | true=>
   obtain rfl:=eq_of_beq hx
   simp only [List.lookup_cons,hx] at h
   cases h
   have e:env.kindOf x=some .cell:=he
   rw [hk,e]
   simp [List.lookup_cons]
  | false=>
   simp only [List.lookup_cons,hx] at h
   by_cases hc:(k == NameKind.free && env.scope.kind == .function && env.kindOf n == some .cell)=true
   ·rw [if_pos hc]; simp only [List.lookup_cons,hx]; exact ih h he
   ·rw [if_neg hc]; simp only [List.lookup_cons,hx]; exact ih h he
def uZ (ρ:DS) (js:List Nat):DS:=js.map fun j=>match (ρ[j]?:Option Sl) with
 | Option.some (Sl.some d)=>Sl.some d
 | _=>Sl.none
def fN (js:List Nat) (ta te:DTE):DTE:=fun ρ Q=>ta ρ fun d=>∃ (m:Int) (Pv:Nat→List Dt→Prop),d=.int m∧-(2 ^ 62)≤m∧m≤100000∧Pv 0 []∧
 (∀ (i:Nat) es,i<m.toNat→Pv i es→te (.some (.int i)::uZ ρ js) fun y=>Pv (i+1) (es++[y]))∧∀ es,Pv m.toNat es→Q (.lst es)
def T4 (t:TE):TI:=fun σ H R=>t σ H fun v H1=>∃ j:Int,v=.int j∧-(2 ^ 62)≤j∧j<2 ^ 62∧R (Itr 0 j.toNat) H1
section
variable {X:Cx} {fr:Fr} {osc scope:Scope} {x:Str} {caps:List Str} {js:List Nat} {N0:List Str} {L:Addr} {a elt:Expr} {ta te:DTE} {px p0 pos pos1:Pos}
theorem l5 {t:TE} {tg:Expr} (hg:Gl X "range") (hm:X.mg "range"=none) (p:PE X a t) (hst:starEach [a] X.env=[(false,eval a X.env)]) (hst2:starEach [a] X.env=(false,eval a X.env)::starEach [] X.env):PI X tg (.Call (.Name "range" p0) [a] [] pos1) (T4 t):=by
 intro pins s σ H R I h
 refine rS hg hm (zI p ym hst2) hst pins s σ H R I ?_
 refine (?_:t σ H fun v H1=>∃ j:Int,[v]=[V.int j]∧-(2 ^ 62)≤j∧j<2 ^ 62∧R (Itr 0 j.toNat) H1)
 have e:(fun (v:V) (H1:Hp)=>∃ j:Int,v=V.int j∧-(2 ^ 62)≤j∧j<2 ^ 62∧R (Itr 0 j.toNat) H1)=fun v H1=>∃ j:Int,[v]=[V.int j]∧-(2 ^ 62)≤j∧j<2 ^ 62∧R (Itr 0 j.toNat) H1:=by
  funext v H1
  refine propext ⟨fun ⟨j,q,z⟩=>⟨j,by rw [q],z⟩,fun ⟨j,q,z⟩=>⟨j,(List.cons.inj q).1,z⟩⟩
 rw [← e]
 exact h
end
section
variable {X:Cx} {a:Expr} {p0 pos:Pos}
end
end OD
namespace OD
variable {Z:Hp}
open PySem PySem.Spec PyProof.Rows L2
def lx (js:List Nat) (ta te:DTE):DTE:=fun ρ Q=>ta ρ fun d=>∃ (ds:List Dt) (Pv:Nat→List Dt→Prop),wm d=some ds∧ds.length≤100000∧Pv 0 []∧
 (∀ (i:Nat) e es,ds[i]? = some e→Pv i es→te (.some e::uZ ρ js) fun y=>Pv (i+1) (es++[y]))∧∀ es,Pv ds.length es→Q (.lst es)
section
variable {X:Cx} {fr:Fr} {osc scope:Scope} {x:Str} {caps:List Str} {js:List Nat} {N0:List Str} {L:Addr} {iter elt:Expr} {ta te:DTE} {px pos:Pos}
end
end OD
namespace L2
open PySem PySem.Spec PyProof.Rows
section
variable {P:Program} {w:World} {H H':Hp} {h B:Heap}
theorem HOk.part (x:HOk P w H h) (k:∀ b u,H b≠none→h.get? b=some u→B.get? b=some u):HOk P w H B:=fun a o e=>
 (x a o e).stay (fun b u hb q=>k b u (fun z=>by rcases hb with rfl | y; (rw [e] at z; cases z); (rw [y] at z; cases z)) q) (fun _ q=>q) fun _ _ q=>q
theorem ObjOk.there {a:Addr} {o:HO} (x:ObjOk P w H h a o):∃ u,h.get? a=some u:=by
 cases o with
 | lst xs=>obtain ⟨_,_,_,_,e⟩:=x; exact ⟨_,e⟩
 | tup xs=>obtain ⟨_,_,_,o,e,_⟩:=x; exact ⟨_,e⟩
 | dK kvs=>obtain ⟨_,_,_,_,o,_,_,e,_⟩:=x; exact ⟨_,e⟩
 | dT kvs=>obtain ⟨_,_,_,_,o,_,_,e,_⟩:=x; exact ⟨_,e⟩
 | set S n=>obtain ⟨o,_,_,_,e,_⟩:=x; exact ⟨_,e⟩
 | ins C dx fs=>obtain ⟨_,_,_,e,_⟩:=x; exact ⟨_,e⟩
 | own y=>exact x
 | xd fs=>obtain ⟨_,⟨_,_,_,e,_⟩,_⟩:=x; exact ⟨_,e⟩
 | rng lo hi=>obtain ⟨_,_,_,e⟩:=x; exact ⟨_,e⟩
 | frz ob u=>obtain ⟨e,_⟩:=x; exact ⟨_,e⟩
 | tbl ps=>exact ⟨_,(show h.get? a=some _ from x)⟩
 | met f y=>exact ⟨_,(show h.get? a=some _ from x)⟩
 | ext φ=>obtain ⟨_,e,_⟩:=x; exact e
end
structure Flies (P:Program) (w:World) (stack:List Env) (H:Hp) (h0:Heap) (H':Hp) (e:Addr) (cls:Value) (h:Heap):Prop where
 ex:∃ B a0,Heap.FlyingW B stack e cls a0 h∧(∀ b o,h0.get? b=some o→H b=none→b∉frs stack→B.get? b=some o)∧(∀ b o,h0.get? b=some o→b∉frs stack→∃ o',B.get? b=some o')∧HOk P w H' B
 slot:∀ b o,h0.get? b=some o→b∈frs stack→∃ sl,h.get? b=some { o with slots:=sl }
 free:∀ b o,h0.get? b=some o→H b=none→H' b=none
 tups:∀ b xs,H b=some (.tup xs)→H' b=some (.tup xs)
 frzs:∀ b o u,H b=some (.frz o u)→H' b=some (.frz o u)
 tbls:∀ b ps,H b=some (.tbl ps)→∃ more,H' b=some (.tbl (ps++more))
 new:h0.get? e=none
section
variable {P:Program} {w:World} {stack:List Env} {H H':Hp} {h0 h:Heap} {e:Addr} {cls:Value}
theorem Flies.un (f:Flies P w stack H h0 H' e cls h):Un (frs stack) [] H H' h0 h:=by
 obtain ⟨B,a0,⟨st,_,_,_⟩,k1,k2,_⟩:=f.ex
 refine ⟨fun b o q n hb _=>st b o (k1 b o q n hb),fun b o q _ hb _=>f.slot b o q hb,fun b o q n _=>f.free b o q n,fun b o q _=>?_,f.tups,f.frzs,f.tbls⟩
 by_cases hb:b∈frs stack
 ·obtain ⟨sl,z⟩:=f.slot b o q hb
  exact ⟨_,z⟩
 ·obtain ⟨o',z⟩:=k2 b o q hb
  exact ⟨o',st b o' z⟩
theorem Flies.hok (f:Flies P w stack H h0 H' e cls h):HOk P w H' h:=by
 obtain ⟨B,a0,⟨st,_,_,_⟩,_,_,k3⟩:=f.ex
 exact k3.kept st
theorem Flies.out (f:Flies P w stack H h0 H' e cls h):H' e=none:=by
 obtain ⟨B,a0,⟨st,n,_,_⟩,_,_,k3⟩:=f.ex
 cases q:H' e with
 | none=>rfl
 | some o=>
  obtain ⟨u,z⟩:=(k3 e o q).there
  rw [n] at z; cases z
theorem Flies.go (f:Flies P w stack H h0 H' e cls h):∃ B a0,Heap.FlyingW B stack e cls a0 h∧∀ h',Heap.FlyingW B stack e cls a0 h'→h.UpToSlots h'→Flies P w stack H h0 H' e cls h':=by
 obtain ⟨B,a0,fl,k1,k2,k3⟩:=f.ex
 refine ⟨B,a0,fl,fun h' fl' up=>⟨⟨B,a0,fl',k1,k2,k3⟩,fun b o q hb=>?_,f.free,f.tups,f.frzs,f.tbls,f.new⟩⟩
 obtain ⟨sl,z⟩:=f.slot b o q hb
 obtain ⟨_,ob,ho,hd⟩:=fl.2.2.1.mem hb
 rw [z] at ho
 cases ho
 obtain ⟨sl',z'⟩:=up b _ z hd
 exact ⟨sl',z'⟩
end
section
variable {X:Cx} {pins:List (Addr × Obj)} {σ:St} {H H':Hp} {s s':Shared} {M:Model} {E:Value→Shared→Prop} {e:Addr} {cls:Value}
theorem Inv.neL (I:Inv X pins σ H s) {b:Addr} {o:Obj} (q:X.s₀.heap.get? b=some o):b≠X.env.locals:=Nat.ne_of_lt (Nat.lt_of_lt_of_le (Heap.lt_size q) I.ok.above)
theorem fc {vs:List Value} {h1:Heap} {Q:Unit→Shared→Prop} (I:Inv X pins σ H s) (hstk:X.stack=X.env::X.outer) (hf:X.env.frame=some X.env.locals) (hex:X.ex=[]) (hx:Heap.MadeExcOf s.heap h1 e cls vs)
  (hQ:∀ h',Flies X.prog X.w X.outer X.H₀ X.s₀.heap H e cls h'→Q () { s with heap:=h' }):wpAny M X.A (leaving X.env (.ref e)) Q E { s with heap:=h1 }:=by
 have hfr:X.A.frames=some (X.env::X.outer):=by rw [← hstk]; exact I.ok.frames
 have hfs:frs X.stack=X.env.locals::frs X.outer:=by rw [hstk]; unfold frs; rw [List.filterMap_cons,hf]
 have hl:s.heap.FunFrames (PySem.W.hideAll s.heap (frs X.stack)) (X.env::X.outer):=by
  have z:=I.stack
  rw [hstk] at z
  refine PySem.W.funFrames_hide z fun env he a ha=>?_
  rw [hstk]
  exact List.mem_filterMap.mpr ⟨env,he,ha⟩
 have nx:∀ b,b∉X.ex:=fun b z=>by rw [hex] at z; cases z
 have nst:∀ b o,X.s₀.heap.get? b=some o→b∉frs X.outer→b∉frs X.stack:=fun b o q nb z=>by
  rw [hfs] at z
  rcases List.mem_cons.mp z with z | z
  ·exact I.neL q z
  ·exact nb z
 refine PySem.wpAny_leaves_madeW (s:={ s with heap:=h1 }) (h:=s.heap) (base:=PySem.W.hideAll s.heap (frs X.stack)) hfr hf (fun b o q=>PySem.W.of_hideAll _ q) hl hx fun h' t x1 x2 x3 x4=>hQ h' ⟨⟨_,_,x1,fun b o q n nb=>?_,fun b o q nb=>?_,?_⟩,fun b o q hb=>?_,fun b o q n=>I.base.free b o q n (nx b),I.base.tups,I.base.frzs,I.base.tbls,?_⟩
 ·exact PySem.W.hideAll_get _ (I.base.keep b o q n nb (nx b)) (nst b o q nb)
 ·obtain ⟨o',z⟩:=I.base.there b o q (nx b)
  exact ⟨o',PySem.W.hideAll_get _ z (nst b o q nb)⟩
 ·exact I.hok.part fun b u hb q=>PySem.W.hideAll_get _ q fun z=>hb (I.stkFree b z)
 ·obtain ⟨sl,z⟩:=I.base.slot b o q (I.ok.frf b hb) hb (nx b)
  obtain ⟨_,ob,ho,hd⟩:=I.funs.mem hb
  rw [z] at ho
  cases ho
  obtain ⟨sl',z'⟩:=x4 b _ (hx.keeps b _ z) hd
  exact ⟨sl',z'⟩
 ·cases q:X.s₀.heap.get? e with
  | none=>rfl
  | some o=>
   obtain ⟨o',z⟩:=I.base.there e o q (nx e)
   rw [hx.new] at z; cases z
theorem VY {Q:Unit→Shared→Prop} (I:Inv X pins σ H s) (hstk:X.stack=X.env::X.outer) (hf:X.env.frame=some X.env.locals) (hex:X.ex=[]) (f:Flies X.prog X.w X.stack H s.heap H' e cls s'.heap)
  (hQ:∀ h',Flies X.prog X.w X.outer X.H₀ X.s₀.heap H' e cls h'→Q () { s' with heap:=h' }):wpAny M X.A (leaving X.env (.ref e)) Q E s':=by
 have hfr:X.A.frames=some (X.env::X.outer):=by rw [← hstk]; exact I.ok.frames
 have hfs:frs X.stack=X.env.locals::frs X.outer:=by rw [hstk]; unfold frs; rw [List.filterMap_cons,hf]
 have nx:∀ b,b∉X.ex:=fun b z=>by rw [hex] at z; cases z
 have nst:∀ b o,X.s₀.heap.get? b=some o→b∉frs X.outer→b∉frs X.stack:=fun b o q nb z=>by
  rw [hfs] at z
  rcases List.mem_cons.mp z with z | z
  ·exact I.neL q z
  ·exact nb z
 obtain ⟨B,a0,fl,k1,k2,k3⟩:=f.ex
 have fl':=fl
 rw [hstk] at fl'
 refine PySem.wpAny_leaves_onW hfr hf fl' fun h' x1 x2=>hQ h' ⟨⟨B,a0,x1,fun b o q n nb=>?_,fun b o q nb=>?_,k3⟩,fun b o q hb=>?_,fun b o q n=>?_,fun b xs q=>f.tups b xs (I.base.tups b xs q),fun b o u q=>f.frzs b o u (I.base.frzs b o u q),fun b ps q=>?_,?_⟩
 ·exact k1 b o (I.base.keep b o q n nb (nx b)) (I.base.free b o q n (nx b)) (nst b o q nb)
 ·obtain ⟨o',z⟩:=I.base.there b o q (nx b)
  exact k2 b o' z (nst b o q nb)
 ·obtain ⟨sl,z⟩:=I.base.slot b o q (I.ok.frf b hb) hb (nx b)
  have hb':b∈frs X.stack:=by rw [hfs]; exact List.mem_cons_of_mem _ hb
  obtain ⟨sl',z'⟩:=f.slot b _ z hb'
  obtain ⟨_,ob,ho,hd⟩:=fl.2.2.1.mem hb'
  rw [z'] at ho
  cases ho
  obtain ⟨sl2,z2⟩:=x2 b _ z' hd
  exact ⟨sl2,z2⟩
 ·obtain ⟨o',z⟩:=I.base.there b o q (nx b)
  exact f.free b o' z (I.base.free b o q n (nx b))
 ·obtain ⟨m1,e1⟩:=I.base.tbls b ps q
  obtain ⟨m2,e2⟩:=f.tbls b _ e1
  exact ⟨m1++m2,by rw [e2,Array.append_assoc]⟩
 ·cases q:X.s₀.heap.get? e with
  | none=>rfl
  | some o=>
   obtain ⟨o',z⟩:=I.base.there e o q (nx e)
   rw [f.new] at z; cases z
end
def ExcK (K:PySem.W.Frag) (C:Addr):Prop:=PySem.W.excIn K C [.type "ValueError",.type "Exception",.type "BaseException",.type "object"] "ValueError.__new__"=true
theorem aU {K:PySem.W.Frag} {h:Heap} {C:Addr} (X:K.In h) (q:ExcK K C):∃ bm N nm qn bs hdct sn sub ab col dd k0 k1 k2 k3 k5 mN,h.get? C=some (excClassObj nm qn C N bs bm hdct sn sub ab col dd k0 k1 k2 k3 k5 "ValueError.__new__")∧h.Ns N mN∧mN "__init__"=none∧OwnTail h [.type "ValueError",.type "Exception",.type "BaseException",.type "object"] bm:=by
 unfold ExcK PySem.W.excIn at q
 split at q
 ·rename_i d1 cl s1 look
  split at q
  ·rename_i C1 tl w0 w1 w2 w3 nid w5 em es
   simp only [Bool.and_eq_true,Bool.not_eq_true',beq_iff_eq] at q
   obtain ⟨⟨⟨⟨⟨rfl,rfl⟩,q1⟩,q2⟩,q3⟩,q4⟩:=q
   obtain ⟨a1,a2,a3,a4,a5,a6,a7,a8,a9,b1,b2⟩:=cl
   dsimp only at em q1 q3 q4
   subst em q1
   obtain rfl:s1=#[w0,w1,w2,w3,some (.builtin "ValueError.__new__"),w5]:=by
    obtain ⟨l⟩:=s1
    simp only at es; rw [es]
   exact ⟨tl,a4,a1,a5,a2,a6,a7,a8,a9,b1,d1,w0,w1,w2,w3,w5,_,X _ _ look,.of_isNs (PySem.W.isNs_of_in X q3),PySem.W.nsMap_none_of_in X q3 q4,PySem.W.tail_of_in X q2⟩
  ·cases q
 ·cases q
def XOk (X:Cx) (C:Addr) (H:Hp):Prop:=∀ (pins:List (Addr × Obj)) (σ:St) (s:Shared) (h1:Heap) (e:Addr) (vs:List Value),Inv X pins σ H s→Heap.MadeExcOf s.heap h1 e (.ref C) vs→X.xe (.ref e) { s with heap:=h1 }
def Yc (X:Cx) (C:Addr) (te:TE):TS:=fun _ σ H=>te σ H fun _ H1=>XOk X C H1
theorem jx {X:Cx} {C:Addr} {x:Str} {a:Expr} {te:TE} {np cpos pos:Pos} (hc:X.calm=true) (hg:Gl X x) (hm:X.mg x=some (.ref C)) (hC:ExcK X.K C) (ha:PE X a te)
  (hdb:(x == ("__debug__":Str))=false:=by decide) (he:starEach [a] X.env=(false,eval a X.env)::starEach [] X.env:=by rfl):PS X (.Raise (some (.Call (.Name x np) [a] [] cpos)) none pos) (Yc X C te):=by
 intro pins s σ H D I h
 obtain ⟨bm,N,nm,qn,bs,hdct,sn,sub,ab,col,dd,k0,k1,k2,k3,k5,mN,hO,hN,hni,T⟩:=aU I.ok.mod.kin hC
 refine PySem.wpAny_Raise_call_subU (C:=C) (nm:=nm) (q:=qn) (N:=N) (bs:=bs) (bm:=bm) (hdct:=hdct) (sn:=sn) (sub:=sub) (ab:=ab) (col:=col) (dd:=dd) (k0:=k0) (k1:=k1) (k2:=k2) (k3:=k3) (k5:=k5)
  PySem.F.excBase_ValueError (by decide) PySem.F.excBase_ValueError (mN:=mN) (T.hasType PySem.F.excBase_ValueError.hasBase) (I.ok.hd hc) (by rw [he]; rfl) hni (wn I hg hm ⟨rfl,?_⟩ hdb)
 have z:=zI ha ym he cpos pins s σ H (fun us H1=>us.length=1∧XOk X C H1) I (show te σ H (fun x H1=>[x].length=1∧XOk X C H1) from by
  have h:te σ H (fun _ H1=>XOk X C H1):=h
  simpa using h)
 rw [he] at z ⊢
 refine Calls.evalArgs_plain (thn z fun vs s1 ⟨us,H1,I1,r,hl,q⟩=>⟨rfl,?_,I1.bk _ _ hO,hN.keeps I1.bk,T.keeps I1.bk,fun h' e hx=>q pins σ s1 h' e vs I1 hx⟩)
 show vs.length≤_
 rw [← r.length,hl]
 decide
def CX1 (P:Program) (w:World):CXT:=fun outer H s E e s'=>∃ a C H',e=.ref a∧s'.os=s.os∧AllBare s'.gens∧Flies P w outer H s.heap H' a (.ref C) s'.heap∧E (.ref C) none H'
section
variable {P:Program} {w:World} {K:PySem.W.Frag} {mg:Str→Option Value} {base:Heap} {N:List Str} {qual:Str} {scope:Scope} {f C:Addr} {cd:Value} {A:Around} {outer:List Env} {s:Shared} {H H1:Hp} {E:XK}
theorem Z0 (h:E (.ref C) none H1):XOk (yC (CX1 P w) P w K mg base N qual scope f cd A outer s H E) C H1:=fun pins σ s' h1 e vs I hx=>
 fc (X:=yC (CX1 P w) P w K mg base N qual scope f cd A outer s H E) I rfl rfl rfl hx fun h' fl=>⟨e,C,H1,rfl,I.os,I.bare,fl,h⟩
theorem Yz:PassesOwn (model P w) (A.deeper (envOfC qual scope s.heap.objs.size f cd)) (envOfC qual scope s.heap.objs.size f cd) (yC (CX1 P w) P w K mg base N qual scope f cd A outer s H E).xe:=PassesOwn.leaving
end
section
variable {X:Cx} {CX:CXT} {k:Nat} {f C:Addr} {fd:FuncData} {ps:List Str} {sp:Sp} {dvs:List V} {ds:List Value} {x y:Str} {p pos:Pos} {e:Expr} {es:List Expr} {t:TA}
def XPx (X:Cx) (pins:List (Addr × Obj)) (σ:St) (E:XK) (e:Value) (s':Shared):Prop:=∃ a C H' H1 s1,e=.ref a∧Inv X pins σ H1 s1∧s'.os=s1.os∧AllBare s'.gens∧Flies X.prog X.w X.stack H1 s1.heap H' a (.ref C) s'.heap∧E (.ref C) none H'
theorem Um (F:FnOk X.prog X.w X.K X.mg X.base (CX1 X.prog X.w) k f fd ps sp) (hr:Room k X.A) (hg:Gl X x) (hm:X.mg x=some (.ref f)) (hk:PySem.W.keepIn X.K (.ref f)=true) (hb:Binds X.K fd ps [])
  (ha:PA X.nox (e::es) t) {pins:List (Addr × Obj)} {s:Shared} {σ:St} {H:Hp} {Q:VK} {E:XK} (I:Inv X pins σ H s) (h:t σ H fun vs H1=>sp vs H1 Q E)
  (hdb:(x == ("__debug__":Str))=false:=by decide) (he:starEach (e::es) X.env=(false,eval e X.env)::starEach es X.env:=by rfl) (hpl:(backTo pos (starEach es X.env)).any (·.1)=false:=by rfl):
  wpAny (model X.prog X.w) X.A (eval (.Call (.Name x p) (e::es) [] pos) X.env) (EP X pins σ Q) (XPx X pins σ E) s:=by
 refine wpAny_Call_Name_kw (wn I hg hm ?_ hdb)
 refine PySem.W.callWith_K (h₀:=X.base) I.ok.mod.kin hk (wpAny_mono (ha pos pins s σ H _ (I.wish _) h) (fun us s1 ⟨vs,H1,I1,r,q⟩=>⟨I1.unwish.kIn,?_⟩) fun _ _ z=>z.elim) he hpl
 have I1:=I1.unwish
 have hl:us.length=ps.length:=by rw [← r.length]; exact F.len _ _ _ _ q
 refine wpAny_call (codeAny_mono (F.run X.A X.stack s1 H1 ⟨us,[]⟩ us vs Q E hr I1.env0 ?_ r q) fun rr s' hq=>?_)
 ·have z:=hb s1 us I1.kIn (by rw [List.append_nil]; exact hl)
  rw [List.append_nil] at z
  exact z
 cases rr with
 | error e=>
  obtain ⟨a,C,H',ee,os,bare,fl,z⟩:=hq
  exact ⟨a,C,H',H1,s1,ee,I1,os,bare,fl,z⟩
 | ok fl=>
  cases fl with
  | ret u=>exact I1.after hq
  | next=>exact False.elim hq
  | brk=>exact False.elim hq
  | cont=>exact False.elim hq
end
abbrev TB:=(St→Hp→Prop)→XK→St→Hp→Prop
def PB (X:Cx) (body:List Stmt) (t:TB):Prop:=∀ (pins:List (Addr × Obj)) (s:Shared) (σ:St) (H:Hp) (nx:St→Hp→Prop) (E:XK),Inv X pins σ H s→t nx E σ H→
 wpAny (model X.prog X.w) X.A (execs body X.env) (fun f s'=>f=.next∧∃ σ' H',Inv X pins σ' H' s'∧nx σ' H') (XPx X pins σ E) s
def Cx.inH (X:Cx) (a:Addr):Cx:={ X with A:=X.A.mark (some (.ref a)),calm:=false,xe:=fun _ _=>False }
section
variable {X:Cx} {pins:List (Addr × Obj)} {σ:St} {H:Hp} {s:Shared} {a:Addr}
theorem Inv.inH (I:Inv X pins σ H s) (a:Addr):Inv (X.inH a) pins σ H s:=
 ⟨⟨I.ok.mod,I.ok.kind,I.ok.glob,I.ok.blt,I.ok.above,I.ok.inj,I.ok.has,I.ok.cab,fun z=>Bool.noConfusion z,I.ok.frames,I.ok.stk,I.ok.exf,I.ok.bs,I.ok.bsz,I.ok.noex,I.ok.exfs,I.ok.funs,I.ok.frf⟩,I.os,I.bare,I.base,I.loc,I.cell,I.free,I.freeC,I.pin,I.hok,I.len⟩
theorem Inv.outH (ok:X.Ok) (I:Inv (X.inH a) pins σ H s):Inv X pins σ H s:=⟨ok,I.os,I.bare,I.base,I.loc,I.cell,I.free,I.freeC,I.pin,I.hok,I.len⟩
theorem SP.outH {D:Ends} {f:Flow} {s':Shared} (ok:X.Ok) (h:SP (X.inH a) pins D f s'):SP X pins D f s':=by
 cases f with
 | next=>obtain ⟨σ',H',I,q⟩:=h; exact ⟨σ',H',I.outH ok,q⟩
 | brk=>obtain ⟨σ',H',I,q⟩:=h; exact ⟨σ',H',I.outH ok,q⟩
 | cont=>obtain ⟨σ',H',I,q⟩:=h; exact ⟨σ',H',I.outH ok,q⟩
 | ret u=>obtain ⟨v,σ',H',I,r,q⟩:=h; exact ⟨v,σ',H',I.outH ok,r,q⟩
end
section
variable {X:Cx} {t:TB} {th:TS} {y:Str} {c:Value} {py hpos pos:Pos} {body:List Stmt} {b₀:Stmt} {suite:List Stmt}
def Rf (K:PySem.W.Frag) (c:Value) (t:TB) (th:TS):TS:=fun D σ H=>t D.nx (fun cls _ H'=>PySem.W.exmOne K cls c=some true∧th D σ H') σ H
theorem Rk (hstk:X.stack=X.env::X.outer) (hf:X.env.frame=some X.env.locals) (hb:PB X body t) (hh:∀ a,PSs (X.inH a) (b₀::suite) th) (hg:Gl X y) (hm:X.mg y=some c) (hd:(y == ("__debug__":Str))=false:=by decide):
  PS X (.Try body [.ExceptHandler (some (.Name y py)) none (b₀::suite) hpos] [] [] pos) (Rf X.K c t th):=by
 intro pins s σ H D I h
 have hfr:X.A.frames=some (X.env::X.outer):=by rw [← hstk]; exact I.ok.frames
 refine wpAny_Try_except (wpAny_mono (hb pins s σ H _ _ I h) (fun f s1 ⟨ef,σ',H',I',q⟩=>?_) fun e s1 hx=>?_)
 ·subst ef
  exact wpAny_execs_nil ⟨σ',H',I',q⟩
 ·obtain ⟨a,C,H',H1,s2,rfl,I1,os,bare,fl,hex,hth⟩:=hx
  obtain ⟨B,a0,fl0,go⟩:=fl.go
  have inv:∀ h',Heap.FlyingW B X.stack a (.ref C) a0 h'→s1.heap.UpToSlots h'→Inv X pins σ H' { s1 with heap:=h' }:=fun h' x1 x2=>
   have f':=go h' x1 x2
   I1.call' (s':={ s1 with heap:=h' }) os f'.un f'.hok bare (fun _ z=>nomatch z)
  rw [hstk] at fl0
  refine wpAny_looks_onW hfr hf fl0 fun h4 held4 up4=>?_
  refine wpAny_landsW held4 fun h5 fl5 up5=>?_
  have I5:=inv h5 (by rw [hstk]; exact fl5) (up4.trans up5)
  obtain ⟨ob,hob,hoc⟩:=fl5.there
  have ty:PySem.W.Looks (model X.prog X.w) h5 (typeOf (.ref a)) (.ref C):=by rw [← hoc]; exact (PySem.W.Looks.ld hob).andThen .now
  refine wpAny_handleBy_cons (codeAny_handlers_test (wn (X:=X.inH a) (I5.inH a) hg hm ((PySem.W.exm_one I5.kIn ty hex).here ?_) hd)) (by intro q; cases q)
  refine codeAny_handlers_suite ?_
  refine lands_againW fl5 fun h6 fl6 up6=>?_
  have I6:=inv h6 (by rw [hstk]; exact fl6) ((up4.trans up5).trans up6)
  exact wpAny_mono (hh a pins _ σ H' D (I6.inH a) hth) (fun f s3 q=>SP.outH I.ok q) fun _ _ z=>z.elim
end
section
variable {X:Cx} {pins:List (Addr × Obj)} {σ:St} {H:Hp} {s:Shared}
theorem vb {M:Model} {A:Around} {E:Value→Shared→Prop} {i:Nat} {x:Str} {pos:Pos} {Q:Unit→Shared→Prop} (I:Inv X pins σ H s) (hN:X.N.Nodup) (hi:X.N[i]? = some x) (hx:X.env.scope.names.lookup x=some .local)
  (h:∀ s',Inv X pins (σ.set i none) H s'→Q () s'):wpAny M A (do bindName X.env x .none; unbindBehindTheSuite X.env x pos) Q E s:=by
 have hcls:(X.env.scope.kind == .class || (X.env.scope.kind == .module && X.env.locals != X.env.globals))=false:=by rw [I.ok.kind]; rfl
 have hiσ:i<σ.length:=by rw [I.len]; exact (List.getElem?_eq_some_iff.mp hi).1
 refine wpAny_bind (wpAny_bindName (wH I hN hi (.inl hx) (v:=V.non) (u:=Value.none) rfl (fun s1 I1=>?_) (.inr hx)))
 obtain ⟨m,hn,hl⟩:=id I1.loc
 have hv:∃ v,m x=some v:=by
  obtain ⟨u,_,q⟩:=hl i x V.non hi (List.getElem?_set_self hiσ) (.inl hx)
  rcases q with ⟨_,z⟩ | ⟨k,_⟩
  ·exact ⟨u,z⟩
  ·have k:X.env.scope.names.lookup x=some .cell∨X.env.scope.names.lookup x=some .free:=k
   rw [hx] at k
   rcases k with k | k <;> cases k
 obtain ⟨v,hv⟩:=hv
 unfold unbindBehindTheSuite
 refine wpAny_onRaise (wpAny_unbindName_local hx hn hv hcls fun h' u hn' hs=>h _ ?_)
 obtain ⟨oL,_,_,hoL,_⟩:=id hn
 have cne:=I1.cne
 refine ⟨I1.ok,I1.os,I1.bare,⟨fun b o e n hb hx=>?_,fun b o e n hb hx=>?_,I1.base.free,fun b o e hx=>?_,I1.base.tups,I1.base.frzs,I1.base.tbls⟩,⟨_,hn',fun j y v' e1 e2 e3=>?_⟩,fun y c e=>?_,I1.free,I1.freeC,fun p hp=>?_,fun b ob e=>?_,by rw [List.length_set]; exact I.len⟩
 ·exact (hs.2 b (Nat.ne_of_lt (Nat.lt_of_lt_of_le (Heap.lt_size e) I1.ok.above))).trans (I1.base.keep b o e n hb hx)
 ·obtain ⟨sl,e1⟩:=I1.base.slot b o e n hb hx
  exact ⟨sl,(hs.2 b (Nat.ne_of_lt (Nat.lt_of_lt_of_le (Heap.lt_size e) I1.ok.above))).trans e1⟩
 ·obtain ⟨o',e1⟩:=I1.base.there b o e hx
  exact ⟨o',(hs.2 b (Nat.ne_of_lt (Nat.lt_of_lt_of_le (Heap.lt_size e) I1.ok.above))).trans e1⟩
 ·by_cases hj:j=i
  ·subst hj
   rw [List.getElem?_set_self hiσ] at e2
   cases e2
  ·rw [List.getElem?_set_ne (Ne.symm hj)] at e2
   obtain ⟨u',r',q⟩:=hl j y v' e1 (by rw [List.getElem?_set_ne (Ne.symm hj)]; exact e2) e3
   refine ⟨u',r',?_⟩
   rcases q with ⟨k,e⟩ | ⟨k,c,e,z⟩
   ·refine .inl ⟨k,?_⟩
    have:y≠x:=fun e=>hj (sR hN e1 (e ▸ hi))
    simp [this,e]
   ·exact .inr ⟨k,c,e,z.sameBut hs (cne y c e)⟩
 ·obtain ⟨w',z⟩:=I1.cell y c e
  exact ⟨w',z.sameBut hs (cne y c e)⟩
 ·obtain ⟨e,n,ne,nf,d⟩:=I1.pin p hp
  exact ⟨(hs.2 p.1 ne).trans e,n,ne,nf,d⟩
 ·refine (I1.hok b ob e).stay (fun c w' hc q=>(hs.2 c ?_).trans q) (fun _ q=>q) fun _ _ q=>q
  rintro rfl
  have fr:=I1.free
  rcases hc with rfl | hc
  ·rw [fr] at e; cases e
  ·rw [fr] at hc; cases hc
theorem Flies.track {P:Program} {w:World} {stack:List Env} {H':Hp} {h0 h:Heap} {e C:Addr} (f:Flies P w stack H h0 H' e (.ref C) h):Un (frs stack) [] H (upd H' e (.ext (OD.excAt e C))) h0 h∧HOk P w (upd H' e (.ext (OD.excAt e C))) h:=by
 have u:=f.un
 have out:=f.out
 obtain ⟨B,a0,fl,_⟩:=f.ex
 obtain ⟨ob,hob,hoc⟩:=fl.there
 have ne0:∀ b o,h0.get? b=some o→b≠e:=fun b o q z=>by rw [z,f.new] at q; cases q
 have ne1:∀ b o,H' b=some o→b≠e:=fun b o q z=>by rw [z,out] at q; cases q
 refine ⟨⟨u.keep,u.slot,fun b o q n hx=>by rw [zu (ne0 b o q)]; exact u.free b o q n hx,u.there,fun b xs q=>by rw [zu (ne1 b _ (u.tups b xs q))]; exact u.tups b xs q,fun b o v q=>by rw [zu (ne1 b _ (u.frzs b o v q))]; exact u.frzs b o v q,fun b ps q=>?_⟩,fun b o q=>?_⟩
 ·obtain ⟨m,z⟩:=u.tbls b ps q
  exact ⟨m,by rw [zu (ne1 b _ z)]; exact z⟩
 ·by_cases hb:b=e
  ·subst hb
   rw [zw] at q
   cases q
   exact ⟨⟨ob,hob,hoc⟩,⟨ob,hob⟩,fun h1 h2 ⟨o,ho,hc⟩ k=>⟨o,k o ho,hc⟩⟩
  ·rw [zu hb] at q
   exact (f.hok b o q).stay (fun _ _ _ z=>z) (fun c z=>by rw [zu (ne1 c _ z)]; exact z) fun c xs z=>by rw [zu (ne1 c _ z)]; exact z
end
section
variable {X:Cx} {t:TB} {th:TS} {y n:Str} {j:Nat} {c:Value} {py hpos pos:Pos} {body:List Stmt} {b₀:Stmt} {suite:List Stmt}
def Ends.off (D:Ends) (j:Nat):Ends:=⟨fun σ H=>D.nx (σ.set j none) H,D.rt,fun σ H=>D.bk (σ.set j none) H,fun σ H=>D.ct (σ.set j none) H⟩
def Yb (K:PySem.W.Frag) (c:Value) (j:Nat) (t:TB) (th:TS):TS:=fun D σ H=>t D.nx (fun cls _ H'=>PySem.W.exmOne K cls c=some true∧∀ a C,cls=.ref C→H' a=none→th (D.off j) (σ.set j (some (.ref a))) (upd H' a (.ext (OD.excAt a C)))) σ H
theorem jv (hstk:X.stack=X.env::X.outer) (hf:X.env.frame=some X.env.locals) (hN:X.N.Nodup) (hj:X.N[j]? = some n) (hn:X.env.scope.names.lookup n=some .local) (hb:PB X body t) (hh:∀ a,PSs (X.inH a) (b₀::suite) th) (hg:Gl X y) (hm:X.mg y=some c)
  (hd:(y == ("__debug__":Str))=false:=by decide):PS X (.Try body [.ExceptHandler (some (.Name y py)) (some n) (b₀::suite) hpos] [] [] pos) (Yb X.K c j t th):=by
 intro pins s σ H D I h
 have hfr:X.A.frames=some (X.env::X.outer):=by rw [← hstk]; exact I.ok.frames
 refine wpAny_Try_except (wpAny_mono (hb pins s σ H _ _ I h) (fun f s1 ⟨ef,σ',H',I',q⟩=>?_) fun e s1 hx=>?_)
 ·subst ef
  exact wpAny_execs_nil ⟨σ',H',I',q⟩
 ·obtain ⟨a,C,H',H1,s2,rfl,I1,os,bare,fl,hex,hth⟩:=hx
  obtain ⟨B,a0,fl0,go⟩:=fl.go
  have inv:∀ h',Heap.FlyingW B X.stack a (.ref C) a0 h'→s1.heap.UpToSlots h'→Inv X pins σ H' { s1 with heap:=h' }:=fun h' x1 x2=>
   have f':=go h' x1 x2
   I1.call' (s':={ s1 with heap:=h' }) os f'.un f'.hok bare (fun _ z=>nomatch z)
  rw [hstk] at fl0
  refine wpAny_looks_onW hfr hf fl0 fun h4 held4 up4=>?_
  refine wpAny_landsW held4 fun h5 fl5 up5=>?_
  have I5:=inv h5 (by rw [hstk]; exact fl5) (up4.trans up5)
  obtain ⟨ob,hob,hoc⟩:=fl5.there
  have ty:PySem.W.Looks (model X.prog X.w) h5 (typeOf (.ref a)) (.ref C):=by rw [← hoc]; exact (PySem.W.Looks.ld hob).andThen .now
  refine wpAny_handleBy_cons (codeAny_handlers_test (wn (X:=X.inH a) (I5.inH a) hg hm ((PySem.W.exm_one I5.kIn ty hex).here ?_) hd)) (by intro q; cases q)
  refine codeAny_handlers_suite_as ?_
  refine lands_againW fl5 fun h6 fl6 up6=>?_
  have f6:=go h6 (by rw [hstk]; exact fl6) ((up4.trans up5).trans up6)
  have I6:Inv X pins σ (upd H' a (.ext (OD.excAt a C))) { s1 with heap:=h6 }:=I1.call' (s':={ s1 with heap:=h6 }) os f6.track.1 f6.track.2 bare (fun _ z=>nomatch z)
  refine wH (X:=X.inH a) (v:=V.ref a) (I6.inH a) hN hj (.inl hn) rfl (fun s7 I7=>?_) (.inr hn)
  refine wpAny_mono (hh a pins s7 _ _ (D.off j) I7 (hth a C rfl f6.out)) (fun f s3 q=>?_) fun _ _ z=>z.elim
  have q:=SP.outH I.ok q
  cases f with
  | next=>obtain ⟨σ',H',I',q⟩:=q; exact vb I' hN hj hn fun s' I''=>⟨_,H',I'',q⟩
  | brk=>obtain ⟨σ',H',I',q⟩:=q; exact vb I' hN hj hn fun s' I''=>⟨_,H',I'',q⟩
  | cont=>obtain ⟨σ',H',I',q⟩:=q; exact vb I' hN hj hn fun s' I''=>⟨_,H',I'',q⟩
  | ret u=>obtain ⟨v,σ',H',I',r,q⟩:=q; exact vb I' hN hj hn fun s' I''=>⟨v,_,H',I'',r,q⟩
end
end L2
namespace L2
open PySem PySem.Spec PyProof.Rows PySem.W PySem.Builtin PySem.Builtin.ObjectAttr PySem.Builtin.Getset_descriptor
structure wz (K:PySem.W.Frag) (C:Addr):Prop where
 ga:PySem.W.findIn K (.ref C) "__getattribute__"=some (some (.builtin "BaseException.__getattribute__"))
 gn:PySem.W.findIn K (.ref C) "__getattr__"=some none
 ha:PySem.W.findIn K (.ref C) "__class__"=some (some (.builtin "object.__class__"))
 hn:PySem.W.specialIn K (.builtin "object.__class__") "__get__"=some (some (.builtin "getset_descriptor.__get__"))
 htk:PySem.W.takesIn K (.builtin "object.__class__")=some true
 hm:PySem.W.mroIn K C (.type "object")=some true
 hb:PySem.W.mroIn K C (.type "BaseException")=some true
section
variable {prog:Program} {w:World} {A:Around} {E:Value→Shared→Prop} {s:Shared} {K:PySem.W.Frag} {a C:Addr} {oa:Obj}
theorem aV {R:Result→Shared→Prop} {tp:Value} (X:K.In s.heap) (e1:s.heap.get? a=some oa) (e2:oa.cls=.ref C) (hm:mroIn K C (.type "object")=some true) (h:R (.ok (.ret (.ref C))) s):
  codeAny (model prog w) A (.call (.builtin "getset_descriptor.__get__") ⟨[.builtin "object.__class__",.ref a,tp],[]⟩) R s:=by
 obtain ⟨h0,gs,dn,tn,oo⟩:=s
 have e1:h0.get? a=some oa:=e1
 have Lt:Looks (model prog w) h0 (typeOf (.ref a)) (.ref C):=e2 ▸ (Looks.ld e1).andThen .now
 have Lm:=looks_mroIn (M:=model prog w) X hm
 refine codeAny_call_builtin KF.slot_gs.plain KF.entry_gs (KF.slot_gs.check (model prog w) _ _ _ _ _ _ _ KF.type_class (KF.args_gs _ _ _) ?_)
 unfold Builtin.«getset_descriptor.__get__» descrGet; rw [dga_obj]
 refine wpAny_bind (wpAny_pure ?_); unfold descrGetter descrCheckInstance descrNameAndClass isInstance
 simp only [KF.owner_class]
 repeat lk
 refine ⟨Code.quiet_builtin _ (by decide +kernel),codeAny_builtin KF.entry_class (by
  unfold Builtin.«object.__class__» shownTypeOf
  repeat lk
  exact h)⟩
theorem kL {Q:Option Value→Shared→Prop} (O:wz K C) (X:K.In s.heap) (e1:s.heap.get? a=some oa) (e2:oa.cls=.ref C)
  (h:Q (some (.ref C)) { s with toks:=s.toks+1 }):wpAny (model prog w) A (getAttr? (.ref a) "__class__") Q E s:=by
 obtain ⟨h0,gs,dn,tn,oo⟩:=s
 have Lt:Looks (model prog w) h0 (typeOf (.ref a)) (.ref C):=e2 ▸ (Looks.ld e1).andThen .now
 have La:=looks_findIn (M:=model prog w) X O.ga
 have Ln:=looks_findIn (M:=model prog w) X O.gn
 have Lf:Looks (model prog w) h0 (Builtin.ObjectAttr.find (.ref a) (.ref C) "__class__") (.bind (.builtin "getset_descriptor.__get__") (.builtin "object.__class__")):=
  (looks_findIn X O.ha).andThen ((looks_specialIn X O.hn).andThen ((show Looks _ h0 (Builtin.ObjectAttr.dataDescriptor? (some (.builtin "object.__class__")) (some (.builtin "getset_descriptor.__get__"))) (some (.builtin "getset_descriptor.__get__",.builtin "object.__class__")) from (looks_takesIn X O.htk).andThen .now).andThen (Looks.tag .now)))
 unfold getAttr? getAttrBy? getAttrBy
 refine wpAny_bind (wpAny_mkText (wpAny_bind (wpAny_attempt (wpAny_holding (wpAny_bind (Lt.at (wpAny_bind (La.at ?_))))))))
 show wpAny _ _ (getAttrByItsOwn _ _ _ _ _ _) _ _ _
 unfold getAttrByItsOwn hookBefore
 refine wpAny_bind (show wpAny _ _ (typeLookup _ _) _ _ _ from Ln.at (wpAny_bind (wpAny_attempt (wpAny_holding (show wpAny _ _ (boundAndCalled _ _ _) _ _ _ from ?_)))))
 unfold boundAndCalled
 refine wpAny_bind (wpAny_of_eq (PySem.F.attrBase_ValueError.ga.bind (.ref a)) ?_)
 have Lb:=looks_mroIn (M:=model prog w) X O.hb
 refine wpAny_call (codeAny_call_builtin PySem.F.attrBase_ValueError.ga.plain PySem.F.entry_bexc_ga ?_)
 have hk1:builtinKind "BaseException.__getattribute__"=some .slot:=by decide +kernel
 have hk2:splitId "BaseException.__getattribute__"=some ("BaseException","__getattribute__"):=by decide +kernel
 have hk3:=PySem.F.args_bexc_ga (.ref a) (.str "__class__" tn)
 simp only [checkBuiltinCall,hk1,hk2]
 unfold isInstance
 refine wpAny_bind (wpAny_bind (Lt.at (Lb.at ?_)))
 have hid:∃ z,z=oa∧h0.get? a=some z:=⟨oa,rfl,e1⟩
 clear e1
 repeat (any_goals (first | assumption | wp_step))
 obtain ⟨z,rfl,e1⟩:=hid
 refine wpAny_loadPart_at e1 ?_
 refine wpAny_pure ?_
 rw [e2]
 refine wpAny_bind (Lf.at ?_)
 show wpAny _ _ (holding [Value.builtin "object.__class__"] (call (Value.builtin "getset_descriptor.__get__") [Value.builtin "object.__class__",Value.ref a,Value.ref C]) >>= ret) _ _ _
 exact wpAny_bind (wpAny_holding (wpAny_call (aV (s:=⟨h0,gs,dn,tn+1,oo⟩) X e1 e2 O.hm (wpAny_pure (handed_on rfl (wpAny_pure h))))))
end
theorem qg {K:PySem.W.Frag} {C:Addr} {b:Value} {r:Bool} (e:mroIn K C b=some r):∃ c d cd sl,K.lookup C=some ⟨c,d,.cls cd,sl⟩:=by
 unfold mroIn clsIn at e
 revert e
 cases q:K.lookup C with
 | none=>intro e; simp at e
 | some o=>
  obtain ⟨c,d,dt,sl⟩:=o
  cases dt <;> intro e <;> first | exact ⟨_,_,_,_,rfl⟩ | simp at e
theorem gP {K:PySem.W.Frag} {a C:Addr} (O:wz K C):KitX K (.ref a) (.ref C) (OD.excAt a C) where
 ty:=fun _ _ _ ⟨_,e1,e2⟩=>e2 ▸ (Looks.ld e1).andThen .now
 it:=fun _ _ X _=>by
  obtain ⟨c,d,cd,sl,hl⟩:=qg O.hm
  intro A1 Q1 E1 s1 k1 q1
  unfold isType loadHead
  exact wpAny_bind (wpAny_loadPart (k1 _ _ (X _ _ hl)) (wpAny_pure q1))
 ne:=fun h tp dd its n sl X htp=>by
  obtain ⟨c,d,cd,sl1,hl⟩:=qg O.hm
  refine Bool.eq_false_iff.mpr fun q=>?_
  have e:C=tp:=Value.ref.inj (eq_of_beq q)
  rw [e] at hl
  have z:=(X _ _ hl).symm.trans htp; cases z
 ca:=fun X ⟨_,e1,e2⟩ k=>kL O X e1 e2 k
end L2
namespace OD
open PySem PySem.Spec PyProof.Rows L2
variable {Z:Hp}
def XOn (X:Cx) (C:Addr) (H':Hp):Prop:=∀ (pins:List (Addr × Obj)) (σ:L2.St) (H:Hp) (s:Shared) (a:Addr) (s':Shared),Inv X pins σ H s→s'.os=s.os→AllBare s'.gens→Flies X.prog X.w X.stack H s.heap H' a (.ref C) s'.heap→X.xe (.ref a) s'
def R1 (X:Cx):XK:=fun cls _ H'=>∃ C,cls=.ref C∧XOn X C H'
theorem sH {X:Cx}:u5 (CX1 X.prog X.w) X (R1 X):=fun pins σ H s e s' I ⟨a,C,H',ee,os,bare,fl,C',ec,h⟩=>by
 cases ec
 subst ee
 exact h pins σ H s a s' I os bare fl
def Rz (X:Cx) (C:Addr):Prop:=∀ H',Same (Zx X) H'→XOk X C H'∧XOn X C H'
section
variable {P:Program} {w:World} {K:PySem.W.Frag} {mg:Str→Option Value} {base:Heap} {N:List Str} {qual:Str} {scope:Scope} {f C:Addr} {cd:Value} {A:Around} {outer:List Env} {s:Shared} {H H1:Hp} {E:XK}
theorem jh (h:∀ H',Same H H'→E (.ref C) none H'):Rz (yC (CX1 P w) P w K mg base N qual scope f cd A outer s H E) C:=fun H' z=>by
 rw [kS] at z
 refine ⟨Z0 (h H' z),fun pins σ H2 s2 a s' I os bare fl=>?_⟩
 exact VY (X:=yC (CX1 P w) P w K mg base N qual scope f cd A outer s H E) I rfl rfl rfl fl fun h' fl'=>⟨a,C,H',rfl,os.trans I.os,bare,fl',h H' z⟩
end
abbrev yp:=List Dt→(Dt→Prop)→(Addr→Prop)→Prop
def xD (K:PySem.W.Frag) (S:yp):Sp:=fun vs H Q E=>∃ (W:Vw) (ds:List Dt) (Qd:Dt→Prop) (Ed:Addr→Prop),W.h=H∧AllIs K W.g ds vs∧S ds Qd Ed∧(∀ d v W',Le W W'→Is K W'.g d v→Qd d→Q v W'.h)∧∀ C H',Same W.h H'→Ed C→E (.ref C) none H'
def xw (K:PySem.W.Frag) (S:yp):Sp:=fun vs H Q E=>∃ (W:Vw) (ds:List Dt) (Qd:Dt→Prop) (Ed:Addr→Prop),W.h=H∧AllIs K W.g ds vs∧S ds Qd Ed∧
 (∀ es p xs W',Le W W'→W.h p=none→W'.h p=some (.lst xs)→W'.g p=none→AllIs K W'.g es xs→Qd (.lst es)→Q (.ref p) W'.h)∧∀ C H',Same W.h H'→Ed C→E (.ref C) none H'
structure DOkX (P:Program) (w:World) (K:PySem.W.Frag) (mg:Str→Option Value) (base:Heap) (n:Nat) (x:Str) (S:yp):Prop where
 ex:∃ f fd ps,mg x=some (.ref f)∧PySem.W.keepIn K (.ref f)=true∧Binds K fd ps []∧FnOk P w K mg base (CX1 P w) n f fd ps (xD K S)
structure FOkX (P:Program) (w:World) (K:PySem.W.Frag) (mg:Str→Option Value) (base:Heap) (n:Nat) (x:Str) (S:yp):Prop where
 ex:∃ f fd ps,mg x=some (.ref f)∧PySem.W.keepIn K (.ref f)=true∧Binds K fd ps []∧FnOk P w K mg base (CX1 P w) n f fd ps (xw K S)
section
variable {P:Program} {w:World} {K:PySem.W.Frag} {mg:Str→Option Value} {base:Heap}
theorem Fun.okX {CX:CXT} {x qual:Str} {st:Stmt} {f:Addr} {fd:FuncData} {N ps:List Str} {k:Nat} {sp:Sp} (F:Fun K x qual st f fd) (S:zi N ps (defScope st)) (len:∀ vs H Q E,sp vs H Q E→vs.length=ps.length)
  (hbody:∀ (cdv:Value) (A:Around) (outer:List Env) (s:Shared) (H:Hp) (vs:List V) (Q:VK) (E:XK),Room k (A.deeper (envOfC qual (defScope st) s.heap.objs.size f cdv))→sp vs H Q E→
   ∃ t,PSs (yC CX P w K mg base N qual (defScope st) f cdv A outer s H E) (defBody st) t∧t { nx:=fun _ H'=>Q .non H',rt:=Q } (start N vs) H):FnOk P w K mg base CX (k+1) f fd ps sp:=by
 obtain ⟨oc,od,kV,doc,pm,an,cdv,ct,osl,rfl,lk,hcd⟩:=F.ex
 exact ZK lk hcd S len fun A outer s H vs Q E hr h=>hbody cdv A outer s H vs Q E hr h
theorem dP {x qual:Str} {st:Stmt} {f:Addr} {fd:FuncData} {N ps:List Str} {k:Nat} {S:yp} (F:Fun K x qual st f fd) (sc:zi N ps (defScope st)) (len:∀ ds Q R,S ds Q R→ds.length=ps.length)
  (hbody:∀ (cdv:Value) (A:Around) (outer:List Env) (s:Shared) (H:Hp) (E:XK),Room k (A.deeper (envOfC qual (defScope st) s.heap.objs.size f cdv))→∀ (ds:List Dt) (Q:Dt→Prop) (R:Addr→Prop),S ds Q R→
   (∀ C,R C→Rz (yC (CX1 P w) P w K mg base N qual (defScope st) f cdv A outer s H E) C)→
   ∃ t,DSs (yC (CX1 P w) P w K mg base N qual (defScope st) f cdv A outer s H E) .d (defBody st) t∧t { nx:=fun _=>Q .non,rt:=Q } (yx N.length ds)):FnOk P w K mg base (CX1 P w) (k+1) f fd ps (xD K S):=by
 refine Fun.okX F sc (fun vs H Q E h=>?_) (fun cdv A outer s H vs Q E hr h=>?_)
 ·obtain ⟨W,ds,Qd,Ed,_,ia,hS,_⟩:=h
  rw [← ia.length]
  exact len ds Qd Ed hS
 obtain ⟨W,ds,Qd,Ed,rfl,ia,hS,kk,ke⟩:=h
 obtain ⟨t,⟨ts,p,l⟩,ht⟩:=hbody cdv A outer s W.h E hr ds Qd Ed hS fun C hC=>jh fun H' z=>ke C H' z hC
 refine ⟨ts,p,l W W.g (yx N.length ds) (start N vs) W { nx:=fun _=>Qd .non,rt:=Qd } _ (w9 ia (tY (Nat.succ_ne_self _))) ⟨fun ρ σ W' a q=>kk .non .non W' a.le (is_non.mpr rfl) q,fun d v W' s' i' q=>kk d v W' s' i' q,fun _ _ _ _ q=>q.elim,fun _ _ _ _ q=>q.elim⟩ ht⟩
theorem dO {x qual:Str} {st:Stmt} {f:Addr} {fd:FuncData} {N ps:List Str} {k:Nat} {S:yp} (F:Fun K x qual st f fd) (sc:zi N ps (defScope st)) (len:∀ ds Q R,S ds Q R→ds.length=ps.length)
  (hbody:∀ (cdv:Value) (A:Around) (outer:List Env) (s:Shared) (H:Hp) (E:XK),Room k (A.deeper (envOfC qual (defScope st) s.heap.objs.size f cdv))→∀ (ds:List Dt) (Q:Dt→Prop) (R:Addr→Prop),S ds Q R→
   (∀ C,R C→Rz (yC (CX1 P w) P w K mg base N qual (defScope st) f cdv A outer s H E) C)→
   ∃ t,DSs (yC (CX1 P w) P w K mg base N qual (defScope st) f cdv A outer s H E) .l (defBody st) t∧t { nx:=fun _=>False,rt:=Q } (yx N.length ds)):FnOk P w K mg base (CX1 P w) (k+1) f fd ps (xw K S):=by
 refine Fun.okX F sc (fun vs H Q E h=>?_) (fun cdv A outer s H vs Q E hr h=>?_)
 ·obtain ⟨W,ds,Qd,Ed,_,ia,hS,_⟩:=h
  rw [← ia.length]
  exact len ds Qd Ed hS
 obtain ⟨W,ds,Qd,Ed,rfl,ia,hS,kk,ke⟩:=h
 obtain ⟨t,⟨ts,p,l⟩,ht⟩:=hbody cdv A outer s W.h E hr ds Qd Ed hS fun C hC=>jh fun H' z=>ke C H' z hC
 exact ⟨ts,p,l W W.g (yx N.length ds) (start N vs) W { nx:=fun _=>False,rt:=Qd } _ (w9 ia (tY (Nat.succ_ne_self _))) ⟨fun ρ σ W' a q=>q.elim,fun d v W' s' ⟨es,p,xs,e1,e2,e3,e4,e5,e6⟩ q=>by subst e1; subst e2; exact kk es p xs W' s' e3 e4 e5 e6 q,fun _ _ _ _ q=>q.elim,fun _ _ _ _ q=>q.elim⟩ ht⟩
theorem DOkX.mk' {x qual:Str} {st:Stmt} {f:Addr} {fd:FuncData} {ps:List Str} {n:Nat} {S:yp} (F:Fun K x qual st f fd) (hm:mg x=some (.ref f)) (hb:Binds K fd ps []) (h:FnOk P w K mg base (CX1 P w) n f fd ps (xD K S)):DOkX P w K mg base n x S:=
 ⟨f,fd,ps,hm,F.kp,hb,h⟩
theorem FOkX.mk' {x qual:Str} {st:Stmt} {f:Addr} {fd:FuncData} {ps:List Str} {n:Nat} {S:yp} (F:Fun K x qual st f fd) (hm:mg x=some (.ref f)) (hb:Binds K fd ps []) (h:FnOk P w K mg base (CX1 P w) n f fd ps (xw K S)):FOkX P w K mg base n x S:=
 ⟨f,fd,ps,hm,F.kp,hb,h⟩
theorem DOkX.mono {x:Str} {m n:Nat} {S:yp} (h:DOkX P w K mg base m x S) (hl:m≤n):DOkX P w K mg base n x S:=
 let ⟨f,fd,ps,h1,h2,h3,h4⟩:=h.ex; ⟨f,fd,ps,h1,h2,h3,h4.mono hl⟩
theorem FOkX.mono {x:Str} {m n:Nat} {S:yp} (h:FOkX P w K mg base m x S) (hl:m≤n):FOkX P w K mg base n x S:=
 let ⟨f,fd,ps,h1,h2,h3,h4⟩:=h.ex; ⟨f,fd,ps,h1,h2,h3,h4.mono hl⟩
end
section
variable {X:Cx} {e a:Expr} {es:List Expr} {t:DTA} {ta:DTE} {n:Nat} {x y:Str} {S:yp} {p pos np cpos:Pos} {fr:Fr} {C:Addr}
theorem mQ {F:Hp} {W:Vw} {ρ:DS} {σ:L2.St} {K:PySem.W.Frag} (r:Rl K Z F W ρ σ):Same Z W.h:=r.z.trans r.fr
def ml (X:Cx) (S:yp) (t:DTA):DTE:=fun ρ Q=>t ρ fun ds=>S ds Q (Rz X)
theorem xT (G:DOkX X.prog X.w X.K X.mg X.base n x S) (hr:Room n X.A) (hg:Gl X x) (ha:DA X (e::es) t) (hdb:(x == ("__debug__":Str))=false:=by decide)
  (he:starEach (e::es) X.env=(false,eval e X.env)::starEach es X.env:=by rfl) (hpl:(backTo pos (starEach es X.env)).any (·.1)=false:=by rfl):DE X (.Call (.Name x p) (e::es) [] pos) (ml X S t):=by
 obtain ⟨f,fd,ps,hm,hk,hb,F⟩:=G.ex
 obtain ⟨te,p1,l1⟩:=ha
 refine ⟨_,ve F hr hg hm hk hb .nil sH p1 hdb he hpl,fun ρ σ H Q r h R k=>l1 ρ σ H _ r h _ fun ds vs H1 s1 i1 q1=>?_⟩
 rw [List.append_nil]
 exact ⟨H1,ds,Q,Rz X,rfl,i1,q1,fun d v H2 s2 i2 q2=>k d v H2 (s1.trans s2) i2 q2,fun C H' s' hC=>⟨C,rfl,(hC H' (((mQ r).trans s1.h).trans s')).2⟩⟩
theorem ui (G:FOkX X.prog X.w X.K X.mg X.base n x S) (hr:Room n X.A) (hg:Gl X x) (ha:DA X (e::es) t) (hdb:(x == ("__debug__":Str))=false:=by decide)
  (he:starEach (e::es) X.env=(false,eval e X.env)::starEach es X.env:=by rfl) (hpl:(backTo pos (starEach es X.env)).any (·.1)=false:=by rfl):DF X (.Call (.Name x p) (e::es) [] pos) (ml X S t):=by
 obtain ⟨f,fd,ps,hm,hk,hb,F⟩:=G.ex
 obtain ⟨te,p1,l1⟩:=ha
 refine ⟨_,ve F hr hg hm hk hb .nil sH p1 hdb he hpl,fun ρ σ H Q r h R k=>l1 ρ σ H _ r h _ fun ds vs H1 s1 i1 q1=>?_⟩
 rw [List.append_nil]
 exact ⟨H1,ds,Q,Rz X,rfl,i1,q1,fun es p xs H2 s2 h0 h1 h2 i2 q2=>k es p xs H2 (s1.trans s2) (s1.h.free h0) h1 h2 i2 q2,fun C H' s' hC=>⟨C,rfl,(hC H' (((mQ r).trans s1.h).trans s')).2⟩⟩
def Ub (X:Cx) (C:Addr) (ta:DTE):DTS:=fun _ ρ=>ta ρ fun _=>Rz X C
theorem uf (hc:X.calm=true) (hg:Gl X x) (hm:X.mg x=some (.ref C)) (hC:ExcK X.K C) (ha:DE X a ta) (hdb:(x == ("__debug__":Str))=false:=by decide)
  (he:starEach [a] X.env=(false,eval a X.env)::starEach [] X.env:=by rfl):DSt X fr (.Raise (some (.Call (.Name x np) [a] [] cpos)) none pos) (Ub X C ta):=by
 obtain ⟨te,p1,l1⟩:=ha
 exact ⟨_,jx hc hg hm hC p1 hdb he,fun W0 G ρ σ W D D' at_ s h=>l1 ρ σ W _ at_.rl h _ fun d v W1 s1 i1 q1=>(q1 W1.h ((mQ at_.rl).trans s1.h)).1⟩
def ZE (K:PySem.W.Frag) (Z:Hp) (fr:Fr) (t:DTS):TS:=fun D' σ H=>∃ (W0:Vw) (G:Hp) (ρ:DS) (W:Vw) (D:DEnds),W.h=H∧At K Z W0 G W ρ σ∧Sim K Z fr W0 G D D'∧t D ρ
theorem DSs.up {sts:List Stmt} {t:DTS} (h:DSs X fr sts t):PSs X sts (ZE X.K (Zx X) fr t):=by
 obtain ⟨ts,p,l⟩:=h
 intro pins s σ H D' I q
 obtain ⟨W0,G,ρ,W,D,rfl,a,sm,ht⟩:=q
 exact p pins s σ W.h D' I (l W0 G ρ σ W D D' a sm ht)
def Vw.at (W:Vw) (H':Hp) (s:Same W.h H'):Vw:=⟨W.g,H',W.sub.trans s⟩
theorem TY {W:Vw} {H':Hp} (s:Same W.h H'):Le W (W.at H' s):=⟨Same.refl _,s,fun _ _ h=>h⟩
variable {b₀:Stmt} {suite:List Stmt} {th:DTS} {c:Value} {py hpos epos tpos:Pos}
theorem dJ {f:Addr} {fd:FuncData} {ps:List Str} {sp:Sp} {te:TA} (F:FnOk X.prog X.w X.K X.mg X.base (CX1 X.prog X.w) n f fd ps sp) (hr:Room n X.A) (hg:Gl X x) (hm:X.mg x=some (.ref f)) (hk:PySem.W.keepIn X.K (.ref f)=true) (hb:Binds X.K fd ps []) (ha:PA X.nox (e::es) te)
  (hs:swapsWith (.Call (.Name x p) (e::es) [] pos) none epos.line X.env=pure false:=by rfl) (hdb:(x == ("__debug__":Str))=false:=by decide)
  (he:starEach (e::es) X.env=(false,eval e X.env)::starEach es X.env:=by rfl) (hpl:(backTo pos (starEach es X.env)).any (·.1)=false:=by rfl):
  PB X [.Expr (.Call (.Name x p) (e::es) [] pos) epos] (fun nx E σ H=>te σ H fun vs H1=>sp vs H1 (fun _ H2=>nx σ H2) E):=by
 intro pins s σ H nx E I h
 refine wpAny_execs_cons (wpAny_Expr_any (thn (Um F hr hg hm hk hb ha I h hdb he hpl) fun v s1 ⟨x,H1,I1,r1,q1⟩=>?_) I.quiet hs)
 exact wpAny_execs_nil ⟨rfl,σ,H1,I1,q1⟩
end
theorem Rl.unset {K:PySem.W.Frag} {F:Hp} {W:Vw} {ρ:DS} {σ:L2.St} (r:Rl K Z F W ρ σ) (j:Nat):Rl K Z F W (ρ.set j .none) (σ.set j none):=by
 refine ⟨by rw [List.length_set,List.length_set]; exact r.len,fun i d q=>?_,fun i ds q=>?_,fun i k ds es hik q1 q2=>?_,r.fr,r.z,fun i c ds q=>?_⟩
 ·rcases zm q with ⟨_,_,e1⟩ | ⟨hij,q⟩
  ·cases e1
  ·rw [List.getElem?_set_ne hij]; exact r.at_ i d q
 ·rcases zm q with ⟨_,_,e1⟩ | ⟨hij,q⟩
  ·cases e1
  ·rw [List.getElem?_set_ne hij]; exact r.ow i ds q
 ·rcases zm q1 with ⟨_,_,e1⟩ | ⟨h1,q1⟩
  ·cases e1
  rcases zm q2 with ⟨_,_,e1⟩ | ⟨h2,q2⟩
  ·cases e1
  rw [List.getElem?_set_ne h1,List.getElem?_set_ne h2]; exact r.ne i k ds es hik q1 q2
 ·rcases zm q with ⟨_,_,e1⟩ | ⟨hij,q⟩
  ·cases e1
  obtain ⟨⟨ys',g1,g2⟩,k1,k2⟩:=r.ar i c ds q
  refine ⟨⟨ys',by rw [List.getElem?_set_ne hij]; exact g1,g2⟩,fun k es' q'=>?_,fun k c' es' q'=>?_⟩
  ·rcases zm q' with ⟨_,_,e1⟩ | ⟨hik,q'⟩
   ·cases e1
   ·rw [List.getElem?_set_ne hik]; exact k1 k es' q'
  ·rcases zm q' with ⟨_,_,e1⟩ | ⟨hik,q'⟩
   ·cases e1
   exact k2 k c' es' q'
theorem At.unset {K:PySem.W.Frag} {W0 W:Vw} {G:Hp} {ρ:DS} {σ:L2.St} (a:At K Z W0 G W ρ σ) (j:Nat):At K Z W0 G W (ρ.set j .none) (σ.set j none):=⟨a.le,a.gs,a.rl.unset j⟩
abbrev DEnds.off (D:DEnds) (j:Nat):DEnds:=⟨fun ρ=>D.nx (ρ.set j .none),D.rt,fun ρ=>D.bk (ρ.set j .none),fun ρ=>D.ct (ρ.set j .none)⟩
theorem Sim.off {K:PySem.W.Frag} {fr:Fr} {W0:Vw} {G:Hp} {D:DEnds} {D':Ends} (s:Sim K Z fr W0 G D D') (j:Nat):Sim K Z fr W0 G (D.off j) (D'.off j):=
 ⟨fun ρ σ W' a q=>s.nx _ _ W' (a.unset j) q,s.tl,fun ρ σ W' a q=>s.bk _ _ W' (a.unset j) q,fun ρ σ W' a q=>s.ct _ _ W' (a.unset j) q⟩
section
variable {X:Cx} {e:Expr} {es:List Expr} {t:DTA} {n:Nat} {x y m:Str} {i j:Nat} {S:yp} {p pos py hpos epos tpos:Pos} {fr:Fr} {b₀:Stmt} {suite:List Stmt} {th:DTS} {c:Value}
def V_ (K:PySem.W.Frag) (c:Value) (j:Nat) (S:yp) (t:DTA) (th:DTS):DTS:=fun D ρ=>t ρ fun ds=>S ds (fun _=>D.nx ρ) fun C=>PySem.W.exmOne K (.ref C) c=some true∧th (D.off j) (ρ.set j (.some (.exc C)))
theorem Up {K:PySem.W.Frag} {W0 W1:Vw} {G H':Hp} {ρ:DS} {σ:L2.St} {C a:Addr} (at_:At K Z W0 G W1 ρ σ) (s':Same W1.h H') (hn:H' a=none) (j:Nat):
  At K Z W0 G ((W1.at H' s').new a (.ext (excAt a C))) (ρ.set j (.some (.exc C))) (σ.set j (some (.ref a))):=
 ((at_.step (TY s')).step (vK (W:=W1.at H' s') hn _)).set j (is_exc.mpr ⟨a,rfl,zw⟩)
theorem fo (hstk:X.stack=X.env::X.outer) (hf:X.env.frame=some X.env.locals) (hN:X.N.Nodup) (hj:X.N[j]? = some m) (hmj:X.env.scope.names.lookup m=some .local) (G:DOkX X.prog X.w X.K X.mg X.base n x S) (hr:Room n X.A) (hg:Gl X x) (ha:DA X.nox (e::es) t) (hh:∀ a,DSs (X.inH a) fr (b₀::suite) th) (hgy:Gl X y) (hmy:X.mg y=some c)
  (hs:swapsWith (.Call (.Name x p) (e::es) [] pos) none epos.line X.env=pure false:=by rfl) (hdb:(x == ("__debug__":Str))=false:=by decide) (hdy:(y == ("__debug__":Str))=false:=by decide)
  (he:starEach (e::es) X.env=(false,eval e X.env)::starEach es X.env:=by rfl) (hpl:(backTo pos (starEach es X.env)).any (·.1)=false:=by rfl):
  DSt X fr (.Try [.Expr (.Call (.Name x p) (e::es) [] pos) epos] [.ExceptHandler (some (.Name y py)) (some m) (b₀::suite) hpos] [] [] tpos) (V_ X.K c j S t th):=by
 obtain ⟨f,fd,ps,hm,hk,hb,F⟩:=G.ex
 obtain ⟨te,p1,l1⟩:=ha
 refine ⟨_,jv (th:=ZE X.K (Zx X) fr th) hstk hf hN hj hmj (dJ F hr hg hm hk hb p1 hs hdb he hpl) (fun a=>(hh a).up) hgy hmy hdy,fun W0 G ρ σ W D D' at_ s h=>?_⟩
 refine l1 ρ σ W _ at_.rl h _ fun ds vs W1 s1 i1 q1=>⟨W1,ds,_,_,rfl,i1,q1,fun d v W2 s2 i2 q2=>s.nx ρ σ W2 ((at_.step s1).step s2) q2,fun C H' s' ⟨e1,e2⟩=>⟨e1,fun a C' ec hn=>?_⟩⟩
 cases ec
 exact ⟨W0,G,_,_,_,rfl,Up (at_.step s1) s' hn j,s.off j,e2⟩
theorem qh:CallR X (.builtin "isinstance") (fun xs H Q=>∃ a C vc c b,xs=[.ref a,vc]∧(∀ u,RelV vc u→u=c)∧H a=some (.ext (excAt a C))∧wz X.K C∧PySem.W.kitOne X.K (.ref C) c=some b∧Q (.bl b) H):=by
 intro pins s σ H xs us Q I r h
 obtain ⟨a,C,vc,c,b,rfl,hvc,ha,O,hk,q⟩:=h
 cases r with
 | cons r1 r2=>
  cases r2 with
  | cons r3 r4=>
   cases r4
   cases r1
   cases hvc _ r3
   exact PySem.W.kia_one (gP O) I.kIn (I.hok a _ ha).1 hk (fun z=>nomatch z) fun tk=>⟨.bl b,H,I.tok _,rfl,q⟩
def ZP (K:PySem.W.Frag) (c:Value) (ta:DTE):DTE:=fun ρ Q=>ta ρ fun d=>∃ C b,d=.exc C∧wz K C∧PySem.W.kitOne K (.ref C) c=some b∧Q (.bl b)
theorem yr {a:Expr} {ta:DTE} {p0 p':Pos} {D:Addr} (hm:X.mg "isinstance"=none) (hmc:X.mg y=some (.ref D)) (ha:DE X a ta)
  (hg:Gl X "isinstance":=by rfl) (hgc:Gl X y:=by rfl) (hdy:(y == ("__debug__":Str))=false:=by decide)
  (hs:starEach [a,.Name y p'] X.env=(false,eval a X.env)::starEach [.Name y p'] X.env:=by rfl) (hs2:starEach [.Name y p'] X.env=(false,eval (.Name y p') X.env)::starEach [] X.env:=by rfl)
  (hpl:(backTo pos (starEach [.Name y p'] X.env)).any (·.1)=false:=by rfl):
  DE X (.Call (.Name "isinstance" p0) [a,.Name y p'] [] pos) (ZP X.K (.ref D) ta):=by
 obtain ⟨te,p1,l1⟩:=ha
 have pc:PE X (.Name y p') (tC (.ref D)):=mT hgc hmc rfl hdy
 refine ⟨_,yG qh hg hm boot_isinstance (zI p1 (zI pc ym hs2) hs) (by decide) (by decide) hs hpl,fun ρ σ H Q r h R k=>l1 ρ σ H _ r h _ fun d v H1 s1 i1 ⟨C,b,ed,ok,e,q⟩=>?_⟩
 subst ed
 obtain ⟨z,rfl,hz⟩:=is_exc.mp i1
 exact ⟨z,C,_,_,b,rfl,fun u hu=>hu,H1.sub _ _ hz,ok,e,k _ _ H1 s1 (is_bl.mpr rfl) q⟩
theorem fJ {a:Expr} {ta:DTE} {p0 p':Pos} (hm:X.mg "isinstance"=none) (hmc:X.mg "ValueError"=none) (ha:DE X a ta)
  (hg:Gl X "isinstance":=by rfl) (hgc:Gl X "ValueError":=by rfl)
  (hs:starEach [a,.Name "ValueError" p'] X.env=(false,eval a X.env)::starEach [.Name "ValueError" p'] X.env:=by rfl) (hs2:starEach [.Name "ValueError" p'] X.env=(false,eval (.Name "ValueError" p') X.env)::starEach [] X.env:=by rfl)
  (hpl:(backTo pos (starEach [.Name "ValueError" p'] X.env)).any (·.1)=false:=by rfl):
  DE X (.Call (.Name "isinstance" p0) [a,.Name "ValueError" p'] [] pos) (ZP X.K (.type "ValueError") ta):=by
 obtain ⟨te,p1,l1⟩:=ha
 have pc:PE X (.Name "ValueError" p') (tC (.ty "ValueError")):=fun pins s σ H Q I h=>wV I hgc hmc (by decide +kernel) ⟨.ty "ValueError",H,I,rfl,h⟩
 refine ⟨_,yG qh hg hm boot_isinstance (zI p1 (zI pc ym hs2) hs) (by decide) (by decide) hs hpl,fun ρ σ H Q r h R k=>l1 ρ σ H _ r h _ fun d v H1 s1 i1 ⟨C,b,ed,ok,e,q⟩=>?_⟩
 subst ed
 obtain ⟨z,rfl,hz⟩:=is_exc.mp i1
 exact ⟨z,C,_,_,b,rfl,fun u hu=>hu,H1.sub _ _ hz,ok,e,k _ _ H1 s1 (is_bl.mpr rfl) q⟩
end
end OD
namespace OD
variable {Z:Hp}
open PySem PySem.Spec PyProof.Rows L2
def zH (X:Cx) (scope:Scope) (cl:List (Str × Addr)) (bs caps:List Str) (C:Addr) (s:Shared) (H:Hp) (fp:List Addr) (pins:List (Addr × Obj)):Cx where
 prog:=X.prog
 w:=X.w
 K:=X.K
 mg:=X.mg
 base:=X.base
 A:=X.A
 N:=bs++caps
 s₀:=s
 H₀:=H
 env:=compEnvC scope cl C X.env
 outer:=X.stack
 stack:=X.stack
 ex:=fp
 fn:=fun y=>bs.contains y
 calm:=X.calm
 pn:=X.pn++pins
 xe:=fun _ _=>False
structure tX (X:Cx) (scope:Scope) (cl:List (Str × Addr)) (bs caps:List Str) (js:List Nat):Prop where
 clos:closureFor scope X.env=pure cl
 sub:∀ y c,cl.lookup y=some c→X.env.cells.lookup y=some c
 has:∀ y,((relabel scope X.env).names.lookup y=some .cell∨(relabel scope X.env).names.lookup y=some .free)→∃ c,cl.lookup y=some c
 nox:∀ x∈bs,cl.lookup x=none
 cell:∀ y∈scope.names,y.2≠.cell
 kind:scope.kind=.function
 names:∀ y∈scope.names,y.2=.local→scope.names.lookup y.1=some .local
 loc:∀ x∈bs,scope.names.lookup x=some .local
 nd:(bs++caps).Nodup
 len:js.length=caps.length
 at_:∀ (k:Nat) y,caps[k]? = some y→∃ j,js[k]? = some j∧X.N[j]? = some y
 cap:∀ y∈caps,(relabel scope X.env).names.lookup y=some .cell∧X.env.scope.names.lookup y=some .cell
theorem w8 {prog:Program} {w:World} {A:Around} {s:Shared} {elt target iter:Expr} {ifs:List Expr} {scope:Scope} {pos:Pos} {it acc:Value} {env:Env} {R:Result→Shared→Prop} (I:Nat→Shared→Prop)
  (turn:∀ n s,I n s→wpAny (model prog w) A (pyNext it) (fun r s₁=>match r with
   | none=>R (.ok .next) s₁
   | some v=>wpAny (model prog w) A (letOwnedTupleGo target it v) (fun _ s₁'=>wpAny (model prog w) A (assign target env v) (fun _ s₂=>
     wpAny (model prog w) A (forIn ifs true fun c r=>if r=true then do let ok ← isTrue c env (eval c env); pure (ForInStep.yield ok) else pure (ForInStep.yield r)) (fun ok s₃=>
      if ok=true then wpAny (model prog w) A (eval elt env) (fun x s₄=>
       wpAny (model prog w) A (call (.builtin "list.append") [acc,x]) (fun _ s₅=>∃ m,m<n∧I m s₅) (notedBy (model prog w) A env fun e s'=>R (.error e) s') s₄) (notedBy (model prog w) A env fun e s'=>R (.error e) s') s₃
      else ∃ m,m<n∧I m s₃) (notedBy (model prog w) A env fun e s'=>R (.error e) s') s₂)
     (notedBy (model prog w) A env fun e s'=>R (.error e) s') s₁') (notedBy (model prog w) A env fun e s'=>R (.error e) s') s₁) (notedBy (model prog w) A env fun e s'=>R (.error e) s') s)
  (n:Nat) (h:I n s):codeAny (model prog w) A (.compLoop (.ListComp elt [⟨target,iter,ifs,0⟩] scope pos) 0 it acc env) R s:=by
 refine codeAny_loop rfl I (fun n s hI=>?_) n h
 show wpAny _ A ((compTurn (.ListComp elt [⟨target,iter,ifs,0⟩] scope pos) 0 it acc env).onRaise (fun x=>do noteFrame x env; theTreesLotGoes x)) _ _ s
 refine wpAny_noted ?_
 rw [compTurn_list]
 refine wpAny_bind (wpAny_standAt (wpAny_bind (wpAny_mono (turn n s hI) (fun r s₁ h₁=>?_) fun _ _ h'=>h')))
 cases r with
 | none=>exact wpAny_pure h₁
 | some v=>
  refine wpAny_bind (wpAny_mono h₁ (fun _ s₁' h₁'=>?_) fun _ _ h'=>h')
  refine wpAny_bind (wpAny_mono h₁' (fun _ s₂ h₂=>wpAny_bind (wpAny_mono h₂ (fun ok s₃ h₃=>?_) fun _ _ h'=>h')) fun _ _ h'=>h')
  cases ok with
  | false=>exact wpAny_pure ⟨rfl,h₃⟩
  | true=>
   exact wpAny_bind (wpAny_bind (wpAny_mono h₃ (fun x s₄ h₄=>wpAny_bind (wpAny_mono h₄ (fun _ s₅ h₅=>wpAny_pure (wpAny_pure ⟨rfl,h₅⟩)) fun _ _ h'=>h')) fun _ _ h'=>h'))
def PC (X:Cx) (ifs:List Expr) (t:TT):Prop:=
 ∀ (pins:List (Addr × Obj)) (s:Shared) (σ:St) (H:Hp) (Q:Bool→Hp→Prop) (E:Value→Shared→Prop),(∀ v s,X.xe v s→E v s)→Inv X pins σ H s→t σ H Q→
  wpAny (model X.prog X.w) X.A (forIn ifs true fun c r=>if r=true then do let ok ← isTrue c X.env (eval c X.env); pure (ForInStep.yield ok) else pure (ForInStep.yield r)) (TP X pins σ Q) E s
theorem Yx {X:Cx}:PC X [] (fun _ H Q=>Q true H):=fun _ _ _ H _ _ _ I h=>wpAny_tests_nil ⟨H,I,h⟩
theorem Yw {X:Cx} {c:Expr} {t:TT} (p:PT X c t):PC X [c] t:=fun pins s σ H Q _ hE I h=>wpAny_tests_one (wpAny_mono (p pins s σ H Q I h) (fun _ _ z=>z) hE)
section
variable {X:Cx} {pins:List (Addr × Obj)} {σ:St} {H:Hp} {s:Shared} {scope:Scope} {cl:List (Str × Addr)} {bs caps:List Str} {js:List Nat} {fp:List Addr}
theorem kD {h₁:Heap} {t:Nat} {m:Str→Option Value} (I:Inv X pins σ H s) (S:tX X scope cl bs caps js) (hfp:∀ b∈fp,vt X pins H b) (hob:∀ b∈fp,∃ o,s.heap.get? b=some o)
  (hn:h₁.Ns s.heap.objs.size m) (hk:∀ b o,s.heap.get? b=some o→h₁.get? b=some o):Inv (zH X scope cl bs caps s.heap.objs.size s H fp pins) [] (bs.map (fun _=>none)++tP σ js) H { s with heap:=h₁,toks:=t }:=by
 refine ⟨⟨I.ok.mod,S.kind,I.ok.glob,I.ok.blt,Nat.le_refl _,fun y z c h1 h2=>?_,fun y hy=>?_,fun y c hf h=>?_,I.ok.hd,I.ok.frames,.inl rfl,fun b hb=>⟨?_,fun y c h=>?_⟩,I.bs,Nat.le_trans I.ok.bsz I.sz,fun b o e hb=>?_,fun b hb z=>?_,I.stack,I.stkFree⟩,
  rfl,I.bare,Un.kept hk,⟨_,hn,fun i y v h1 h2 h3=>?_⟩,fun y c h=>?_,I.hok.fresh (Nat.le_refl _),fun y c h=>?_,fun p hp=>?_,I.hok.kept hk,?_⟩
 ·exact I.ok.inj y z c (S.sub y c h1) (S.sub z c h2)
 ·exact S.has y hy
 ·have hf:y∈bs:=List.contains_iff_mem.mp hf
  have h:cl.lookup y=some c:=h
  rw [S.nox y hf] at h
  cases h
 ·obtain ⟨o,e⟩:=hob b hb
  exact Nat.ne_of_lt (Heap.lt_size e)
 ·exact (hfp b hb).2.2.2.2.1 y c (S.sub y c h)
 ·obtain ⟨_,_,_,h4,_⟩:=hfp b hb
  rcases h4 with h4 | h4
  ·exact I.ok.noex b o e h4
  ·exact absurd (Nat.lt_of_lt_of_le (Heap.lt_size e) (Nat.le_trans I.ok.bsz h4)) (Nat.lt_irrefl _)
 ·obtain ⟨_,h2,h3,_⟩:=hfp b hb
  rcases List.mem_cons.mp (I.stkSub b z) with q | q
  ·exact h2 q
  ·exact h3 q
 ·by_cases hi:i<bs.length
  ·rw [List.getElem?_append_left (by rw [List.length_map]; exact hi),List.getElem?_map] at h2
   obtain ⟨_,_,e⟩:=Option.map_eq_some_iff.mp h2
   cases e
  ·have hi:bs.length≤i:=Nat.le_of_not_lt hi
   have h1:(bs++caps)[i]? = some y:=h1
   rw [List.getElem?_append_right hi] at h1
   rw [List.getElem?_append_right (by rw [List.length_map]; exact hi),List.length_map] at h2
   obtain ⟨j,hj,hN⟩:=S.at_ _ y h1
   have hv:σ[j]? = some (some v):=by
    unfold tP at h2
    rw [List.getElem?_map,hj] at h2
    have h2:(σ[j]?).getD none=some v:=Option.some.inj h2
    cases q:σ[j]? with
    | none=>rw [q] at h2; cases h2
    | some w=>rw [q] at h2; exact congrArg some h2
   obtain ⟨c1,c2⟩:=S.cap y (List.mem_of_getElem? h1)
   obtain ⟨m0,_,hl⟩:=I.loc
   obtain ⟨u,ru,lk⟩:=hl j y v hN hv (.inr (.inl c2))
   refine ⟨u,ru,.inr ⟨.inl c1,?_⟩⟩
   obtain ⟨c,hc⟩:=S.has y (.inl c1)
   rcases lk with ⟨lk,_⟩ | ⟨_,c',hc',hcell⟩
   ·have lk:X.env.scope.names.lookup y=some .local:=lk
    rw [c2] at lk
    cases lk
   ·have e:=S.sub y c hc
    rw [hc'] at e
    cases e
    obtain ⟨o,ho,hd⟩:=hcell
    exact ⟨_,hc,o,hk _ _ ho,hd⟩
 ·obtain ⟨v,o,ho,hd⟩:=I.cell y c (S.sub y c h)
  exact ⟨v,o,hk _ _ ho,hd⟩
 ·exact I.freeC y c (S.sub y c h)
 ·have hp:p∈X.pn++pins:=by
   rcases List.mem_append.mp hp with q | q
   ·exact q
   ·cases q
  obtain ⟨h1,h2,h3,h4,h5⟩:=I.pin p hp
  refine ⟨hk _ _ h1,h2,Nat.ne_of_lt (Heap.lt_size h1),fun z=>?_,h5⟩
  rcases List.mem_cons.mp (I.stkSub _ z) with q | q
  ·exact h3 q
  ·exact h4 q
 ·show (bs.map (fun _=>none)++tP σ js).length=(bs++caps).length
  unfold tP
  rw [List.length_append,List.length_append,List.length_map,List.length_map,S.len]
theorem kE {C:Addr} {σ':St} {H':Hp} {s':Shared} (I:Inv X pins σ H s) (hfp:∀ b∈fp,vt X pins H b) (I':Inv (zH X scope cl bs caps C s H fp pins) [] σ' H' s'):Inv X pins σ H' s':=
 I.call' (ch:=fp) I'.os I'.base I'.hok I'.bare fun b hb=>by
  obtain ⟨_,h2,_,h4,h5,h6⟩:=hfp b hb
  exact ⟨h4,h2,h5,h6⟩
def nE (gt:TG) (tt:TT) (te:TE) (k:Nat) (τ:St) (Q:V→Hp→Prop):It→Hp→Prop:=fun J H1=>∃ n:Nat,n<sizeLine∧∀ D,H1 D=none→∃ (Pv:Nat→List V→Hp→Prop) (Nx:Nat→V→List V→Hp→Prop),
 Pv 0 [] (upd H1 D (.lst []))∧(∀ i ys H2,i≤n→Pv i ys H2→H2 D=some (.lst ys)∧ys.length≤i)∧
 (∀ i ys H2,i<n→Pv i ys H2→J.go i H2∧∀ v H3,J.yld i H2 v H3→Nx i v ys H3)∧(∀ ys H2,Pv n ys H2→J.stop n H2)∧
 (∀ i v ys H2 (σ0:St),i<n→Nx i v ys H2→σ0.length=k→gt v (σ0++τ) H2 fun σ1 H3=>(∃ σ2:St,σ1=σ2++τ∧σ2.length=k)∧tt σ1 H3 fun b H4=>
  if b=true then te σ1 H4 fun y H5=>H5 D=some (.lst ys)∧Pv (i+1) (ys++[y]) (upd H5 D (.lst (ys++[y]))) else Pv (i+1) ys H4)∧∀ ys H2,Pv n ys H2→Q (.ref D) H2
def kZ (wi:TI) (gt:TG) (tt:TT) (te:TE) (k:Nat) (js:List Nat):TE:=fun σ H Q=>wi σ H (nE gt tt te k (tP σ js) Q)
theorem oW {elt tg iter:Expr} {ifs:List Expr} {pos:Pos} {it D:Addr} {n:Nat} {J:It} {Nx:Nat→V→List V→Hp→Prop} {τ:St} {tn:Nat→Heap→Prop} {gt:TG} {tt:TT} {te:TE} {R:Result→Shared→Prop} {s₄:Shared} {Pv:Nat→List V→Hp→Prop} {C:Addr} (hc:X.calm=true)
  (hg:PG (zH X scope cl bs caps C s H fp pins) tg gt) (ht':PC (zH X scope cl bs caps C s H fp pins) ifs tt)
  (he:PE (zH X scope cl bs caps C s H fp pins) elt te) {σ0:St} (hσ0:σ0.length=bs.length) (I:Inv (zH X scope cl bs caps C s H fp pins) [] (σ0++τ) H s₄) (T:mv X.prog X.w X.K tg J fp it tn) (t0:tn 0 s₄.heap)
  (hfp:∀ b∈fp,vt (zH X scope cl bs caps C s H fp pins) [] H b) (hn:n<sizeLine)
  (h0:Pv 0 [] H) (hl:∀ i ys H2,i≤n→Pv i ys H2→H2 D=some (.lst ys)∧ys.length≤i)
  (hgo:∀ i ys H2,i<n→Pv i ys H2→J.go i H2∧∀ v H3,J.yld i H2 v H3→Nx i v ys H3) (hst:∀ ys H2,Pv n ys H2→J.stop n H2)
  (ht:∀ i v ys H2 (σ0:St),i<n→Nx i v ys H2→σ0.length=bs.length→gt v (σ0++τ) H2 fun σ1 H3=>(∃ σ2:St,σ1=σ2++τ∧σ2.length=bs.length)∧tt σ1 H3 fun b H4=>
   if b=true then te σ1 H4 fun y H5=>H5 D=some (.lst ys)∧Pv (i+1) (ys++[y]) (upd H5 D (.lst (ys++[y]))) else Pv (i+1) ys H4)
  (hR:∀ σ' H' ys s',Inv (zH X scope cl bs caps C s H fp pins) [] σ' H' s'→Pv n ys H'→R (.ok .next) s'):
  codeAny (model X.prog X.w) X.A (.compStart (.ListComp elt [⟨tg,iter,ifs,0⟩] scope pos) 0 (.ref it) (.ref D) (compEnvC scope cl C X.env)) R s₄:=by
 have loop:codeAny (model X.prog X.w) X.A (.compLoop (.ListComp elt [⟨tg,iter,ifs,0⟩] scope pos) 0 (.ref it) (.ref D) (compEnvC scope cl C X.env)) R s₄:=by
  refine w8 (fun k s'=>∃ i ys,∃ σ1:St,∃ H',k=n+1 - i∧i≤n∧σ1.length=bs.length∧Inv (zH X scope cl bs caps C s H fp pins) [] (σ1++τ) H' s'∧tn i s'.heap∧(∀ b∈fp,vt (zH X scope cl bs caps C s H fp pins) [] H' b)∧Pv i ys H') ?_ (n+1) ⟨0,[],σ0,H,rfl,Nat.zero_le _,hσ0,I,t0,hfp,h0⟩
  rintro k s' ⟨i,ys,σ1,H',rfl,hi,hσ1,I',tn',hfp',hp⟩
  obtain ⟨q2,q3⟩:=hl i ys H' hi hp
  by_cases hlt:i<n
  ·obtain ⟨g,gy⟩:=hgo i ys H' hlt hp
   refine wpAny_mono (T.item (zH X scope cl bs caps C s H fp pins) rfl rfl rfl hc i [] s' (σ1++τ) H' (notedBy (model X.prog X.w) X.A (compEnvC scope cl C X.env) fun e s'=>R (.error e) s') I' hfp' tn' g) (fun r s1 ⟨u,er,hq⟩=>?_) fun _ _ z=>z
   subst er
   refine wpAny_mono hq (fun _ s1' hq'=>?_) fun _ _ z=>z
   obtain ⟨v,H1,I1,rv,yv,tn1,fn1⟩:=hq'
   have hv:=gy v H1 yv
   have hfp1:∀ b∈fp,vt (zH X scope cl bs caps C s H fp pins) [] H1 b:=fun b hb=>⟨fn1 b hb,(hfp' b hb).2⟩
   have hpin:∀ b∈fp,∃ o,s1'.heap.get? b=some o∧∀ v,o.data≠.cell v:=T.obj (i+1) s1'.heap tn1
   have IP:Inv (zH X scope cl bs caps C s H fp pins) (xL fp s1'.heap) (σ1++τ) H1 s1':=by
    have:=I1.pinned hfp1 hpin
    rw [List.nil_append] at this
    exact this
   refine wpAny_mono (hg (xL fp s1'.heap) s1' (σ1++τ) H1 v u _ IP rv (ht i v ys H1 σ1 hlt hv hσ1)) (fun _ s2 h2=>?_) fun _ _ z=>z.elim
   obtain ⟨σ2',H2,I2,⟨σ2,e2,l2⟩,w2⟩:=h2
   subst e2
   refine wpAny_mono (ht' (xL fp s1'.heap) s2 (σ2++τ) H2 _ (fun _ _=>False) (fun _ _ z=>z) I2 w2) (fun b s3 h3=>?_) fun _ _ z=>z.elim
   obtain ⟨H3,I3,w3⟩:=h3
   have pinned:∀ {s4:Shared} {H4:Hp} {σ4:St},Inv (zH X scope cl bs caps C s H fp pins) (xL fp s1'.heap) σ4 H4 s4→∀ b∈fp,∀ o,s1'.heap.get? b=some o→s4.heap.get? b=some o∧H4 b=none:=fun I4 b hb o e=>
    have z:=I4.pin (b,o) (List.mem_append_right _ (vI hb e))
    ⟨z.1,z.2.1⟩
   cases b with
   | false=>
    have w3:Pv (i+1) ys H3:=w3
    show ∃ m,m<n+1 - i∧_
    refine ⟨n+1 - (i+1),by omega,i+1,ys,σ2,H3,rfl,hlt,l2,I3.pins_of (fun p z=>nomatch z),T.keep _ _ _ tn1 fun b hb o e=>(pinned I3 b hb o e).1,fun b hb=>⟨?_,(hfp' b hb).2⟩,w3⟩
    obtain ⟨o,e,_⟩:=hpin b hb
    exact (pinned I3 b hb o e).2
   | true=>
    show wpAny _ _ _ _ _ _
    refine wpAny_mono (he (xL fp s1'.heap) s3 (σ2++τ) H3 _ I3 w3) (fun y s4 h4=>?_) fun _ _ z=>z.elim
    obtain ⟨y',H4,I4,ry,hD,hp4⟩:=h4
    refine wpAny_mono (uO (X:=zH X scope cl bs caps C s H fp pins) (xL fp s1'.heap) s4 (σ2++τ) H4 (.ref D) [y'] (.ref D) [y] (fun _ H5=>H5=upd H4 D (.lst (ys++[y']))) I4 rfl (.cons ry .nil) ⟨D,ys,y',rfl,rfl,hD,by omega,rfl⟩) (fun _ s5 h5=>?_) fun _ _ z=>z.elim
    obtain ⟨_,H5,I5,_,e5⟩:=h5
    subst e5
    refine ⟨n+1 - (i+1),by omega,i+1,ys++[y'],σ2,_,rfl,hlt,l2,I5.pins_of (fun p z=>nomatch z),T.keep _ _ _ tn1 fun b hb o e=>(pinned I5 b hb o e).1,fun b hb=>⟨?_,(hfp' b hb).2⟩,hp4⟩
    obtain ⟨o,e,_⟩:=hpin b hb
    exact (pinned I5 b hb o e).2
  ·have e:i=n:=by omega
   subst e
   refine wpAny_mono (T.done (zH X scope cl bs caps C s H fp pins) rfl rfl rfl hc i [] s' (σ1++τ) H' (fun _ _=>False) I' hfp' tn' (hst ys H' hp)) (fun r s1 ⟨er,I1⟩=>?_) fun _ _ z=>z.elim
   subst er
   exact hR _ H' ys s1 I1 hp
 exact codeAny_compStart_list loop (T.self X.A 0 s₄ _ _ t0 loop)
theorem mq {elt tg iter:Expr} {ifs:List Expr} {pos:Pos} {gt:TG} {tt:TT} {te:TE} {Q:V→Hp→Prop} {s2:Shared} {it:Addr} {tn:Nat→Heap→Prop} {J:It} {H':Hp} {RR:Value→Addr→Result→Shared→Prop} {E:Value→Shared→Prop} (hc:X.calm=true) (S:tX X scope cl bs caps js)
  (hg:∀ C s H fp pins,PG (zH X scope cl bs caps C s H fp pins) tg gt) (ht':∀ C s H fp pins,PC (zH X scope cl bs caps C s H fp pins) ifs tt)
  (he:∀ C s H fp pins,PE (zH X scope cl bs caps C s H fp pins) elt te) (I2:Inv X pins σ H' s2) (T:mv X.prog X.w X.K tg J fp it tn) (t0:tn 0 s2.heap) (hfp:∀ b∈fp,vt X pins H' b) (hr:nE gt tt te bs.length (tP σ js) Q J H')
  (hRR:∀ D C H3 s',Inv X pins σ H3 s'→(∃ m,s'.heap.Ns C m)→H3 C=none→C≠X.env.locals→X.s₀.heap.objs.size≤C→(∀ y c,X.env.cells.lookup y=some c→c≠C)→(∀ p∈X.pn++pins,p.1≠C)→Q (.ref D) H3→
   RR (.ref D) C (.ok .next) s'):
  wpAny (model X.prog X.w) X.A (newList []) (fun acc s₃=>wpAny (model X.prog X.w) X.A (newFunctionEnv scope X.env.globals cl [] X.env.qual none .none (some X.env)) (fun cenv s₄=>
   codeAny (model X.prog X.w) X.A (.compStart (.ListComp elt [⟨tg,iter,ifs,0⟩] scope pos) 0 (.ref it) acc { cenv with scope:=relabel scope X.env }) (RR acc cenv.locals) s₄) E s₃) E s2:=by
 obtain ⟨n,hn,hD⟩:=hr
 obtain ⟨Pv,Nx,h0,hl,hgo,hst,ht,hd⟩:=hD s2.heap.objs.size I2.fresh
 refine wpAny_newObj_type (wpAny_newFunctionEnv S.cell (by intro y hy; simp at hy) (fun h₁ hns₁ hsb₁=>?_) S.kind)
 dsimp only at hns₁ hsb₁ ⊢
 have I3:Inv X pins σ (upd H' s2.heap.objs.size (.lst [])) { s2 with heap:=s2.heap.push { cls:=.type "list",data:=.seq ([]:List Value).toArray } }:=I2.lnew (its:=[]) (t':=s2.toks) .nil (by show 0≤sizeLine; omega)
 have hob:=T.obj 0 s2.heap t0
 have keep:∀ b o,(s2.heap.push { cls:=.type "list",data:=.seq ([]:List Value).toArray }).get? b=some o→h₁.get? b=some o:=fun b o e=>
  hsb₁.extBut b o (Nat.ne_of_lt (Heap.lt_size e)) (Heap.get?_push_of_some _ e)
 have fp3:∀ b∈fp,vt X pins (upd H' s2.heap.objs.size (.lst [])) b:=fun b hb=>by
  obtain ⟨o,e,_⟩:=hob b hb
  exact ⟨(zu (Nat.ne_of_lt (Heap.lt_size e))).trans (hfp b hb).1,(hfp b hb).2⟩
 have IY:=kD (t:=s2.toks+([]:List (Str × Value)).length) I3 S fp3 (fun b hb=>by
  obtain ⟨o,e,_⟩:=hob b hb
  exact ⟨o,Heap.get?_push_of_some _ e⟩) hns₁ keep
 refine oW (D:=s2.heap.objs.size) (n:=n) (Nx:=Nx) (Pv:=Pv) hc (hg _ _ _ _ _) (ht' _ _ _ _ _) (he _ _ _ _ _) (List.length_map _) IY T (T.keep _ _ _ t0 fun b hb o e=>keep b o (Heap.get?_push_of_some _ e)) (fun b hb=>?_) hn h0 hl hgo hst ht (fun σ' H3 ys s' I' hp=>?_)
 ·obtain ⟨f1,f2,f3,f4,f5,f6⟩:=fp3 b hb
  obtain ⟨o,e,_⟩:=hob b hb
  refine ⟨f1,Nat.ne_of_lt (Heap.lt_size (Heap.get?_push_of_some _ e)),fun z=>?_,.inl hb,fun y c h=>f5 y c (S.sub y c h),fun p hp=>?_⟩
  ·rcases List.mem_cons.mp (I3.stkSub b z) with q | q
   ·exact f2 q
   ·exact f3 q
  ·rcases List.mem_append.mp hp with q | q
   ·exact f6 p q
   ·cases q
 ·obtain ⟨m,hn,_⟩:=I'.loc
  refine hRR _ _ H3 s' (kE I3 fp3 I') ⟨m,hn⟩ I'.free (Nat.ne_of_gt I3.lt) I3.sz (fun y c h z=>?_) (fun p hp z=>?_) (hd ys H3 hp)
  ·obtain ⟨v,q⟩:=I3.cell y c h
   exact absurd q.lt (by rw [z]; exact Nat.lt_irrefl _)
  ·exact absurd (Heap.lt_size (I3.pin p hp).1) (by rw [z]; exact Nat.lt_irrefl _)
theorem jH {elt tg iter:Expr} {ifs:List Expr} {pos:Pos} {wi:TI} {gt:TG} {tt:TT} {te:TE} (hc:X.calm=true) (S:tX X scope cl bs caps js) (hl:PI X tg iter wi) (hg:∀ C s H fp pins,PG (zH X scope cl bs caps C s H fp pins) tg gt)
  (ht':∀ C s H fp pins,PC (zH X scope cl bs caps C s H fp pins) ifs tt) (he:∀ C s H fp pins,PE (zH X scope cl bs caps C s H fp pins) elt te)
  (hs:∀ y,foldedSetIterable iter X.env y=pure y:=by intro _; rfl):PE X (.ListComp elt [⟨tg,iter,ifs,0⟩] scope pos) (kZ wi gt tt te bs.length js):=by
 intro pins s σ H Q I h
 rw [eval_ListComp]
 refine wpAny_comprehension_free (use:=none) rfl hs S.clos S.kind S.names (thn (hl pins s σ H (nE gt tt te bs.length (tP σ js) Q) I h) fun v s1 h1=>thn h1 fun itv s2 h2=>?_)
 obtain ⟨it,fp,tn,J,H',rfl,I2,T,t0,hfp,hr⟩:=h2
 refine mq (RR:=fun acc C=>compPost (model X.prog X.w) X.A X.xe none (EP X pins σ Q) acc C) hc S hg ht' he I2 T t0 hfp hr ?_
 intro D C H3 s' I' ⟨m,hn⟩ hC h1 h2 h3 h4 q
 exact ⟨m,hn,fun h' hs'=>⟨.ref D,H3,I'.turned (it:=C) (fun b o hb e=>hs'.extBut b o hb e) hC h1 (.inr h2) h3 h4,rfl,q⟩⟩
end
end OD
namespace OD
variable {Z:Hp}
open PySem PySem.Spec PyProof.Rows L2
def pj (osc scope:Scope) (bs caps:List Str) (js:List Nat) (N:List Str):Bool:=
 scope.names.all (fun y=>y.2 != .cell && (y.2 != .local || scope.names.lookup y.1 == some .local) && (y.2 != .free || (osc.names.lookup y.1 == some .cell && !bs.contains y.1))) && (scope.kind == .function) && (osc.kind == .function) && bs.all (fun x=>scope.names.lookup x == some .local) &&
 decide (bs++caps).Nodup && (js.map (fun j=>N[j]?) == caps.map some) && caps.all (fun y=>scope.names.lookup y == some .free && osc.names.lookup y == some .cell)
theorem Zf {X:Cx} {osc scope:Scope} {bs:List Str} {caps:List Str} {js:List Nat} {L:Addr} (h:pj osc scope bs caps js X.N=true) (he:X.env.scope=osc) (hc:X.env.cells=cellsFrom (L+1) osc.names []):tX X scope (vN X.env.cells scope.names) bs caps js:=by
 unfold pj at h
 simp only [Bool.and_eq_true] at h
 obtain ⟨⟨⟨⟨⟨⟨h1,h2⟩,h3⟩,h4⟩,h5⟩,h6⟩,h7⟩:=h
 rw [List.all_eq_true] at h1 h4 h7
 have hfree:∀ y,(y,NameKind.free)∈scope.names→osc.names.lookup y=some .cell∧bs.contains y=false:=fun y hy=>by
  have q:=h1 _ hy
  rw [Bool.and_eq_true,Bool.and_eq_true] at q
  have q:(osc.names.lookup y == some .cell && !bs.contains y)=true:=q.2
  rw [Bool.and_eq_true] at q
  exact ⟨eq_of_beq q.1,by cases z:bs.contains y with | false=>rfl | true=>rw [z] at q; cases q.2⟩
 have hcell:∀ y,osc.names.lookup y=some .cell→∃ c,X.env.cells.lookup y=some c:=fun y hy=>by rw [hc]; exact rg hy
 have hfc:∀ y,(y,NameKind.free)∈scope.names→∃ c,X.env.cells.lookup y=some c:=fun y hy=>hcell y (hfree y hy).1
 have hk:X.env.scope.kind=.function:=by rw [he]; exact eq_of_beq h3
 have hj:js.map (fun j=>X.N[j]?)=caps.map some:=eq_of_beq h6
 refine ⟨Zg hfc,fun y c q=>(mem_clOf.mp (PySem.mem_of_lookup q)).2,fun y q=>?_,fun x hx=>?_,fun y hy e=>?_,eq_of_beq h2,fun y hy e=>?_,fun x hx=>eq_of_beq (h4 x hx),of_decide_eq_true h5,?_,fun k y q=>?_,fun y hy=>?_⟩
 ·have:(y,NameKind.free)∈scope.names:=by
   have mem:∃ k,(y,k)∈(relabel scope X.env).names∧(k=.cell∨k=.free):=by
    rcases q with q | q
    ·exact ⟨_,PySem.mem_of_lookup q,.inl rfl⟩
    ·exact ⟨_,PySem.mem_of_lookup q,.inr rfl⟩
   obtain ⟨k,hm,hk'⟩:=mem
   obtain ⟨⟨n,k0⟩,hn,e⟩:=List.mem_map.mp hm
   have ncell:k0≠.cell:=fun z=>by
    have q:=h1 _ hn
    rw [Bool.and_eq_true,Bool.and_eq_true] at q
    exact absurd z (bne_iff_ne.mp q.1.1)
   dsimp only at e
   split at e
   ·rename_i hz
    rw [Bool.and_eq_true,Bool.and_eq_true] at hz
    obtain rfl:=eq_of_beq hz.1.1
    cases e
    exact hn
   ·cases e
    rcases hk' with z | z
    ·exact absurd z ncell
    ·rw [z] at hn; exact hn
  obtain ⟨c,hc'⟩:=hfc y this
  exact sS (mem_clOf.mpr ⟨this,hc'⟩)
 ·cases q:(vN X.env.cells scope.names).lookup x with
  | none=>rfl
  | some c=>
   have z:=(hfree x (mem_clOf.mp (PySem.mem_of_lookup q)).1).2
   rw [List.contains_iff_mem.mpr hx] at z
   cases z
 ·have q:=h1 y hy
  rw [Bool.and_eq_true,Bool.and_eq_true] at q
  exact absurd e (bne_iff_ne.mp q.1.1)
 ·have q:=h1 y hy
  rw [Bool.and_eq_true,Bool.and_eq_true,e] at q
  exact eq_of_beq (show (scope.names.lookup y.1 == some .local)=true from q.1.2)
 ·have:=congrArg List.length hj
  rwa [List.length_map,List.length_map] at this
 ·have e:(js.map fun j=>X.N[j]?)[k]? = (caps.map some)[k]?:=by rw [hj]
  rw [List.getElem?_map,List.getElem?_map,q] at e
  obtain ⟨j,hj1,hj2⟩:=Option.map_eq_some_iff.mp e
  exact ⟨j,hj1,hj2⟩
 ·have q:=h7 y hy
  rw [Bool.and_eq_true] at q
  have q2:X.env.scope.names.lookup y=some .cell:=by rw [he]; exact eq_of_beq q.2
  exact ⟨y6 hk (eq_of_beq q.1) q2,q2⟩
theorem mR {K:PySem.W.Frag} {F:Hp} {W W2:Vw} {ρ:DS} {σ:St} {js:List Nat} {ds:List Dt} {vs:List V} (r:Rl K Z F W ρ σ) (s2:Same W.g W2.g) (i:AllIs K W2.g ds vs):Rl K (fun _=>none) W2.h W2 (ds.map Sl.some++uZ ρ js) (vs.map some++tP σ js):=by
 have no:∀ (j:Nat) (es:List Dt),(ds.map Sl.some++uZ ρ js)[j]? = some (.own es)→False:=fun j es q=>by
  have q:=List.mem_of_getElem? q
  rcases List.mem_append.mp q with q | q
  ·obtain ⟨_,_,e⟩:=List.mem_map.mp q
   cases e
  ·unfold uZ at q
   obtain ⟨j,_,e⟩:=List.mem_map.mp q
   split at e <;> cases e
 have noA:∀ (j:Nat) (a:Addr) (es:List Dt),(ds.map Sl.some++uZ ρ js)[j]? = some (.arg a es)→False:=fun j a es q=>by
  have q:=List.mem_of_getElem? q
  rcases List.mem_append.mp q with q | q
  ·obtain ⟨_,_,e⟩:=List.mem_map.mp q
   cases e
  ·unfold uZ at q
   obtain ⟨j,_,e⟩:=List.mem_map.mp q
   split at e <;> cases e
 refine ⟨by unfold uZ tP; rw [List.length_append,List.length_append,List.length_map,List.length_map,List.length_map,List.length_map,i.length],fun j e q=>?_,fun j ds q=>(no j ds q).elim,fun j j' ds ds' _ q _=>(no j ds q).elim,Same.refl _,(fun _ _ q=>nomatch q),fun j a ds q=>(noA j a ds q).elim⟩
 by_cases hj:j<ds.length
 ·rw [List.getElem?_append_left (by rw [List.length_map]; exact hj),List.getElem?_map] at q
  obtain ⟨d,hd,e1⟩:=Option.map_eq_some_iff.mp q
  cases e1
  obtain ⟨v,hv,iv⟩:=i.get hd
  exact ⟨v,by rw [List.getElem?_append_left (by rw [List.length_map,← i.length]; exact hj),List.getElem?_map,hv]; rfl,iv⟩
 ·have hj:ds.length≤j:=Nat.le_of_not_lt hj
  rw [List.getElem?_append_right (by rw [List.length_map]; exact hj),List.length_map] at q
  rw [List.getElem?_append_right (by rw [List.length_map,← i.length]; exact hj),List.length_map,← i.length]
  unfold uZ at q
  rw [List.getElem?_map] at q
  obtain ⟨k,hk,e2⟩:=Option.map_eq_some_iff.mp q
  split at e2
  ·rename_i d' hd
   cases e2
   obtain ⟨u,hu,iu⟩:=r.at_ k e hd
   refine ⟨u,?_,Is.mono0 s2 iu⟩
   unfold tP
   rw [List.getElem?_map,hk]
   show some ((σ[k]?).getD none)=_
   rw [hu]
   rfl
  ·cases e2
abbrev DTI:=DS→(Nat→(Nat→Dt→Prop)→Prop)→Prop
def LiI (K:PySem.W.Frag) (Z:Hp) (wi:TI) (di:DTI):Prop:=∀ {F:Hp} (ρ:DS) (σ:St) (W:Vw) (Q:Nat→(Nat→Dt→Prop)→Prop),Rl K Z F W ρ σ→di ρ Q→∀ R:It→Hp→Prop,
 (∀ (J:It) (n:Nat) (vals:Nat→Dt→Prop) (W1:Vw),Le W W1→n≤100000→(∀ W2:Vw,Same W1.g W2.g→(∀ i,i<n→J.go i W2.h∧∀ v H3,J.yld i W2.h v H3→∃ W3:Vw,Le W2 W3∧W3.h=H3∧∃ e,vals i e∧Is K W3.g e v)∧J.stop n W2.h)→Q n vals→R J W1.h)→wi σ W.h R
def DI (X:Cx) (tg iter:Expr) (di:DTI):Prop:=∃ wi,PI X tg iter wi∧LiI X.K (Zx X) wi di
def LiG (K:PySem.W.Frag) (k:Nat) (gt:TG) (dg:Dt→List Dt→Prop):Prop:=∀ (e:Dt) (v:V) (σ0 τ:St) (W:Vw) (as:List Dt),σ0.length=k→Is K W.g e v→dg e as→∀ Q:St→Hp→Prop,
 (∀ vs,AllIs K W.g as vs→vs.length=k→Q (vs.map some++τ) W.h)→gt v (σ0++τ) W.h Q
def kM:Dt→List Dt→Prop:=fun e as=>as=[e]
def Sf:Dt→List Dt→Prop:=fun e as=>∃ a b,e=.tup [a,b]∧as=[a,b]
theorem mZ {K:PySem.W.Frag}:LiG K 1 (oJ 0) kM:=by
 rintro e v σ0 τ W as hl i rfl Q q
 match σ0,hl with
 | [a],_=>exact q [v] (allIs_cons.mpr ⟨v,[],rfl,i,allIs_nil.mpr rfl⟩) rfl
theorem aH {K:PySem.W.Frag}:LiG K 2 (Sa K 2 (g8 (oJ 0) (g8 (oJ 1) Sb))) Sf:=by
 rintro e v σ0 τ W as hl i ⟨a,b,rfl,rfl⟩ Q q
 obtain ⟨T,us,rfl,hT,hu⟩:=is_tup.mp i
 obtain ⟨v1,v2,rfl,k1,k2⟩:=hu.two
 match σ0,hl with
 | [x,y],_=>exact ⟨T,_,rfl,.of (W.sub _ _ hT),rfl,v1,[v2],rfl,v2,[],rfl,rfl,q [v1,v2] hu rfl⟩
def DC (X:Cx) (ifs:List Expr) (t:DTT):Prop:=∃ tt,PC X ifs tt∧LiT X.K (Zx X) tt t
def rd:DTT:=fun _ Q=>Q true
theorem fL {X:Cx}:DC X [] rd:=⟨_,Yx,fun _ _ W _ _ h _ k=>k true W (Le.refl W) h⟩
theorem V8 {X:Cx} {c:Expr} {t:DTT} (h:DT X c t):DC X [c] t:=let ⟨_,p,l⟩:=h; ⟨_,Yw p,l⟩
def ZD (K:PySem.W.Frag) (t:DTT):TT:=fun σ H R=>∃ (F:Hp) (ρ:DS) (W:Vw) (Q:Bool→Prop),W.h=H∧Rl K (fun _=>none) F W ρ σ∧t ρ Q∧∀ d W',Le W W'→Q d→R d W'.h
theorem DC.up {X:Cx} {ifs:List Expr} {t:DTT} (h:DC X ifs t) (hz:X.stack.length=X.outer.length:=by rfl):PC X ifs (ZD X.K t):=by
 obtain ⟨te,p,l⟩:=h
 intro pins s σ H R E hE I q
 obtain ⟨F,ρ,W,Q,rfl,r,h,k⟩:=q
 have r':Rl X.K (Zx X) F W ρ σ:=by unfold Zx; rw [if_pos (Or.inl hz)]; exact r
 exact p pins s σ W.h R E hE I (l ρ σ W Q r' h R k)
theorem gM {K:PySem.W.Frag} {t:DTT}:LiT K (fun _=>none) (ZD K t) t:=fun ρ σ H Q r h R k=>⟨_,ρ,H,Q,rfl,r,h,k⟩
def vL (js:List Nat) (di:DTI) (dg:Dt→List Dt→Prop) (tt:DTT) (te:DTE):DTE:=fun ρ Q=>di ρ fun n vals=>∃ Pv:Nat→List Dt→Prop,Pv 0 []∧
 (∀ (i:Nat) e es,i<n→vals i e→Pv i es→∃ as,dg e as∧tt (as.map Sl.some++uZ ρ js) fun b=>if b=true then te (as.map Sl.some++uZ ρ js) fun y=>Pv (i+1) (es++[y]) else Pv (i+1) es)∧∀ es,Pv n es→Q (.lst es)
theorem gN {K:PySem.W.Frag} {wi:TI} {gt:TG} {tt:TT} {te:TE} {di:DTI} {dg:Dt→List Dt→Prop} {dt:DTT} {u:DTE} {k:Nat} {js:List Nat} (h1:LiI K Z wi di) (hg:LiG K k gt dg) (ht':LiT K (fun _=>none) tt dt) (h2:LiE K (fun _=>none) te u):LiF K Z (kZ wi gt tt te k js) (vL js di dg dt u):=by
 intro F ρ σ H Q r h R kk
 refine h1 ρ σ H _ r h _ fun J n vals W1 s1 hn hJ ⟨Pv,h0,ht,hd⟩=>?_
 have r1:=r.mono s1
 refine ⟨n,Nat.lt_of_le_of_lt hn (by decide),fun D hD=>?_⟩
 have gD:W1.g D=none:=W1.sub.free hD
 have stp:∀ {W2 W3:Vw} {ys:List V} {es:List Dt},Same W1.g W2.g∧Same W1.h (fun b=>if b=D then none else W2.h b)∧(∀ b,W1.h b≠none→W1.g b=none→W2.g b=none)∧W2.h D=some (.lst ys)∧W2.g D=none∧AllIs K W2.g es ys→Le W2 W3→
   Same W1.g W3.g∧Same W1.h (fun b=>if b=D then none else W3.h b)∧(∀ b,W1.h b≠none→W1.g b=none→W3.g b=none)∧W3.h D=some (.lst ys)∧W3.g D=none∧AllIs K W3.g es ys:=by
  rintro W2 W3 ys es ⟨s2,sh,sn,q1,q2,q3⟩ s3
  refine ⟨s2.trans s3.g,fun b o q=>?_,fun b z1 z2=>?_,s3.h _ _ q1,s3.n D (by rw [q1]; intro z; cases z) q2,q3.mono s3⟩
  ·have q':(if b=D then none else W2.h b)=some o:=sh b o q
   have hb:b≠D:=fun e=>by rw [e,hD] at q; cases q
   rw [if_neg hb] at q'
   show (if b=D then none else W3.h b)=some o
   rw [if_neg hb]
   exact s3.h _ _ q'
  ·have hb:b≠D:=fun e=>z1 (e ▸ hD)
   have z3:=sn b z1 z2
   refine s3.n b ?_ z3
   cases q:W1.h b with
   | none=>exact absurd q z1
   | some o=>
    have q':(if b=D then none else W2.h b)=some o:=sh b o q
    rw [if_neg hb] at q'
    rw [q']
    intro z; cases z
 refine ⟨fun i ys H2=>∃ (W2:Vw) (es:List Dt),W2.h=H2∧(Same W1.g W2.g∧Same W1.h (fun b=>if b=D then none else W2.h b)∧(∀ b,W1.h b≠none→W1.g b=none→W2.g b=none)∧W2.h D=some (.lst ys)∧W2.g D=none∧AllIs K W2.g es ys)∧ys.length≤i∧Pv i es,fun i v ys H2=>∃ (W2:Vw) (es:List Dt) (e:Dt),W2.h=H2∧(Same W1.g W2.g∧Same W1.h (fun b=>if b=D then none else W2.h b)∧(∀ b,W1.h b≠none→W1.g b=none→W2.g b=none)∧W2.h D=some (.lst ys)∧W2.g D=none∧AllIs K W2.g es ys)∧ys.length≤i∧Pv i es∧vals i e∧Is K W2.g e v,?_,?_,?_,?_,?_,?_⟩
 ·refine ⟨W1.mine D (.lst []) gD,[],rfl,⟨Same.refl _,fun b o q=>?_,fun b _ q=>q,zw,gD,allIs_nil.mpr rfl⟩,Nat.le_refl _,h0⟩
  have hb:b≠D:=fun e=>by rw [e,hD] at q; cases q
  show (if b=D then none else upd W1.h D (.lst []) b)=some o
  rw [if_neg hb,zu hb]
  exact q
 ·rintro i ys _ _ ⟨W2,es,rfl,⟨s2,_,_,q1,q2,_⟩,q4,_⟩
  exact ⟨q1,q4⟩
 ·rintro i ys _ hi ⟨W2,es,rfl,hW2,q4,q5⟩
  obtain ⟨g1,g2⟩:=(hJ W2 hW2.1).1 i hi
  refine ⟨g1,fun v H3 y=>?_⟩
  obtain ⟨W3,s3,e3,e,he,ie⟩:=g2 v H3 y
  exact ⟨W3,es,e,e3,stp hW2 s3,q4,q5,he,ie⟩
 ·rintro ys _ ⟨W2,es,rfl,⟨s2,_⟩,_⟩
  exact (hJ W2 s2).2
 ·rintro i v ys _ σ0 hi ⟨W2,es,e,rfl,hW2,q4,q5,he,ie⟩ hσ0
  obtain ⟨as,da,w⟩:=ht i e es hi he q5
  refine hg e v σ0 _ W2 as hσ0 ie da _ fun vs ivs lvs=>⟨⟨vs.map some,rfl,by rw [List.length_map]; exact lvs⟩,?_⟩
  refine ht' (F:=W2.h) (as.map Sl.some++uZ ρ js) (vs.map some++tP σ js) W2 _ (mR r1 hW2.1 ivs) w _ fun b W3 s3 w3=>?_
  have hW3:=stp hW2 s3
  cases b with
  | false=>exact ⟨W3,es,rfl,hW3,Nat.le_succ_of_le q4,w3⟩
  | true=>
   show te _ _ _
   refine h2 (F:=W3.h) (as.map Sl.some++uZ ρ js) (vs.map some++tP σ js) W3 _ (mR r1 hW3.1 (ivs.mono s3)) w3 _ fun y w W4 s4 i4 q6=>?_
   obtain ⟨a1,a2,a3,a4,a5,a6⟩:=stp hW3 s4
   refine ⟨a4,W4.mine D (.lst (ys++[w])) a5,es++[y],rfl,⟨a1,fun b o q=>?_,a3,zw,a5,a6.append (allIs_cons.mpr ⟨w,[],rfl,i4,allIs_nil.mpr rfl⟩)⟩,by rw [List.length_append]; exact Nat.succ_le_succ q4,q6⟩
   have q':(if b=D then none else W4.h b)=some o:=a2 b o q
   have hb:b≠D:=fun e=>by rw [e,hD] at q; cases q
   rw [if_neg hb] at q'
   show (if b=D then none else upd W4.h D (.lst (ys++[w])) b)=some o
   rw [if_neg hb,zu hb]
   exact q'
 ·rintro ys _ ⟨W2,es,rfl,⟨s2,sh,sn,q1,q2,q3⟩,_,q5⟩
  refine kk es D ys W2 (s1.trans ⟨s2,fun b o q=>?_,sn⟩) (s1.h.free hD) q1 q2 q3 (hd es q5)
  have q':(if b=D then none else W2.h b)=some o:=sh b o q
  have hb:b≠D:=fun e=>by rw [e,hD] at q; cases q
  rwa [if_neg hb] at q'
def fM (ta:DTE):DTI:=fun ρ Q=>ta ρ fun d=>∃ ds,wm d=some ds∧ds.length≤100000∧Q ds.length fun i e=>ds[i]? = some e
def Ua (ta:DTE):DTI:=fun ρ Q=>ta ρ fun d=>∃ m:Int,d=.int m∧-(2 ^ 62)≤m∧m≤100000∧Q m.toNat fun i e=>e=.int i
section
variable {X:Cx} {fr:Fr} {osc scope:Scope} {bs caps:List Str} {js:List Nat} {N0:List Str} {L:Addr} {tg iter elt a:Expr} {ifs:List Expr} {ta te:DTE} {di:DTI} {tt:DTT} {dg:Dt→List Dt→Prop} {gt:TG} {px p0 pos pos1:Pos}
theorem lq (h:DE X iter ta):DI X tg iter (fM ta):=by
 obtain ⟨te,p,l⟩:=h
 refine ⟨_,qI p,fun ρ σ W Q r h R k=>l ρ σ W _ r h _ fun d v W1 s1 i1 ⟨ds,el,hl,q⟩=>?_⟩
 obtain ⟨a,xs,rfl,hq,ha⟩:=nU i1 el
 refine ⟨a,rfl,⟨xs,hq W1 (Same.refl _)⟩,k _ _ _ W1 s1 hl (fun W2 s2=>⟨fun i hi=>?_,?_⟩) q⟩
 ·rw [ha.length] at hi
  have hv:=List.getElem?_eq_getElem hi
  refine ⟨⟨xs,_,hq W2 s2,hv⟩,fun v' H3 ⟨e1,e2⟩=>⟨W2,Le.refl _,e1.symm,?_⟩⟩
  obtain ⟨e,he,ie⟩:=ha.get' (e2 xs (hq W2 s2))
  exact ⟨e,he,Is.mono0 s2 ie⟩
 ·exact ⟨xs,hq W2 s2,by rw [ha.length]; exact Nat.le_refl _⟩
theorem fD (hg:Gl X "range") (hm:X.mg "range"=none) (h:DE X a ta) (hst:starEach [a] X.env=[(false,eval a X.env)]:=by rfl) (hst2:starEach [a] X.env=(false,eval a X.env)::starEach [] X.env:=by rfl):DI X tg (.Call (.Name "range" p0) [a] [] pos1) (Ua ta):=by
 obtain ⟨te,p,l⟩:=h
 refine ⟨_,l5 hg hm p hst hst2,fun ρ σ W Q r h R k=>l ρ σ W _ r h _ fun d v W1 s1 i1 ⟨m,ed,m1,m2,q⟩=>?_⟩
 subst ed
 refine ⟨m,is_int.mp i1,m1,by omega,k _ _ (fun i e=>e=.int i) W1 s1 (by omega) (fun W2 s2=>⟨fun i hi=>⟨hi,fun v H3 ⟨e1,e2⟩=>⟨W2,Le.refl _,e1.symm,.int i,rfl,?_⟩⟩,Nat.le_refl _⟩) q⟩
 rw [Int.zero_add] at e2
 exact is_int.mpr e2
theorem ra (hc:X.calm=true) (S:pj osc scope bs caps js N0=true) (hN0:X.N=N0) (he':X.env.scope=osc) (hcs:X.env.cells=cellsFrom (L+1) osc.names []) (hl:DI X tg iter di)
  (hg:∀ C s H fp pins,PG (zH X scope (vN X.env.cells scope.names) bs caps C s H fp pins) tg gt) (lg:LiG X.K bs.length gt dg)
  (ht:∀ C s H fp pins,DC (zH X scope (vN X.env.cells scope.names) bs caps C s H fp pins) ifs tt)
  (he:∀ C s H fp pins,DE (zH X scope (vN X.env.cells scope.names) bs caps C s H fp pins) elt te) (hs:∀ y,foldedSetIterable iter X.env y=pure y:=by intro _; rfl):
  DF X (.ListComp elt [⟨tg,iter,ifs,0⟩] scope pos) (vL js di dg tt te):=by
 obtain ⟨wi,p,l⟩:=hl
 exact ⟨_,jH hc (Zf (hN0 ▸ S) he' hcs) p hg (fun C s H fp pins=>(ht C s H fp pins).up) (fun C s H fp pins=>(he C s H fp pins).up) hs,gN l lg gM aI⟩
end
end OD
namespace OD
variable {Z:Hp}
open PySem PySem.Spec PyProof.Rows L2
section
variable {K:PySem.W.Frag} {F:Hp} {W W' W0:Vw}
theorem NewL.mono {d:Dt} {v:V} (h:NewL K F W d v) (s:Le W W'):NewL K F W' d v:=by
 obtain ⟨es,p,xs,h1,h2,h3,h4,h5,h6⟩:=h
 exact ⟨es,p,xs,h1,h2,h3,s.h _ _ h4,s.n p (by rw [h4]; intro z; cases z) h5,h6.mono s⟩
theorem Prt.mono {b:Bool} {d:Dt} {v:V} (h:Prt K F W b d v) (s:Le W W'):Prt K F W' b d v:=by
 cases b with
 | false=>exact Is.mono h s
 | true=>
  rcases h with h | ⟨h1,h2⟩
  ·exact .inl (h.mono s)
  ·exact .inr ⟨h1,Is.mono h2 s⟩
theorem Prt.frz {b:Bool} {d:Dt} {u:V} (le:Le W0 W) (h:Prt K W0.h W b d u):∃ W1:Vw,W1.h=W.h∧Same W.g W1.g∧Le W0 W1∧Is K W1.g d u∧
  ∀ b2 d2 u2,Prt K W0.h W b2 d2 u2→(∀ es fs,b=true→b2=true→d=.lst es→d2=.lst fs→u≠u2)→Prt K W0.h W1 b2 d2 u2:=by
 cases b with
 | false=>exact ⟨W,rfl,Same.refl _,le,h,fun _ _ _ k _=>k⟩
 | true=>
  rcases h with ⟨es,p,xs,rfl,rfl,h3,h4,h5,h6⟩ | ⟨_,h2⟩
  ·refine ⟨W.frz p _ h4,rfl,zN h5 _,uQ le h3 h4 h5,is_lst.mpr ⟨p,xs,rfl,zw,AllIs.mono0 (zN h5 _) h6⟩,fun b2 d2 u2 k ne=>?_⟩
   cases b2 with
   | false=>exact Is.mono0 (zN h5 _) k
   | true=>
    rcases k with ⟨fs,q,ys,rfl,rfl,k3,k4,k5,k6⟩ | ⟨k1,k2⟩
    ·have hq:q≠p:=fun z=>ne es fs rfl rfl rfl rfl (by rw [z])
     exact .inl ⟨fs,q,ys,rfl,rfl,k3,k4,(zu hq).trans k5,AllIs.mono0 (zN h5 _) k6⟩
    ·exact .inr ⟨k1,Is.mono0 (zN h5 _) k2⟩
  ·exact ⟨W,rfl,Same.refl _,le,h2,fun _ _ _ k _=>k⟩
theorem Tld.frz {fr:Fr} {d:Dt} {v:V} (le:Le W0 W) (h:Tld K W0.h W fr d v):∃ W1:Vw,W1.h=W.h∧Le W0 W1∧Is K W1.g d v:=by
 match fr,h with
 | .d,h=>exact ⟨W,rfl,le,h⟩
 | .l,⟨es,p,xs,e1,e2,h3,h4,h5,h6⟩=>
  subst e1; subst e2
  exact ⟨W.frz p _ h4,rfl,uQ le h3 h4 h5,is_lst.mpr ⟨p,xs,rfl,zw,AllIs.mono0 (zN h5 _) h6⟩⟩
 | .t a b,⟨d1,d2,q,u1,u2,e1,e2,hq,p1,p2,ne⟩=>
  subst e1; subst e2
  obtain ⟨W1,e1,s1,le1,i1,k1⟩:=p1.frz le
  obtain ⟨W2,e2,s2,le2,i2,_⟩:=(k1 b d2 u2 p2 ne).frz le1
  exact ⟨W2,e2.trans e1,le2,is_tup.mpr ⟨q,_,rfl,s2 _ _ (s1 _ _ hq),allIs_cons.mpr ⟨u1,_,rfl,Is.mono0 s2 i1,allIs_cons.mpr ⟨u2,_,rfl,i2,allIs_nil.mpr rfl⟩⟩⟩⟩
end
def ZT (K:PySem.W.Frag) (fr:Fr) (S:DSp):Sp:=fun vs H Q _=>∃ (W:Vw) (ds:List Dt) (Qd:Dt→Prop),W.h=H∧AllIs K W.g ds vs∧S ds Qd∧∀ d v W',Le W W'→Tld K W.h W' fr d v→Qd d→Q v W'.h
def pC (K:PySem.W.Frag) (fr:Fr) (S:yp):Sp:=fun vs H Q E=>∃ (W:Vw) (ds:List Dt) (Qd:Dt→Prop) (Ed:Addr→Prop),W.h=H∧AllIs K W.g ds vs∧S ds Qd Ed∧
 (∀ d v W',Le W W'→Tld K W.h W' fr d v→Qd d→Q v W'.h)∧∀ C H',Same W.h H'→Ed C→E (.ref C) none H'
structure TOk (P:Program) (w:World) (K:PySem.W.Frag) (mg:Str→Option Value) (base:Heap) (n:Nat) (x:Str) (fr:Fr) (S:DSp):Prop where
 ex:∃ f fd ps,mg x=some (.ref f)∧PySem.W.keepIn K (.ref f)=true∧Binds K fd ps []∧FnOk P w K mg base CX0 n f fd ps (ZT K fr S)
structure TOkX (P:Program) (w:World) (K:PySem.W.Frag) (mg:Str→Option Value) (base:Heap) (n:Nat) (x:Str) (fr:Fr) (S:yp):Prop where
 ex:∃ f fd ps,mg x=some (.ref f)∧PySem.W.keepIn K (.ref f)=true∧Binds K fd ps []∧FnOk P w K mg base (CX1 P w) n f fd ps (pC K fr S)
section
variable {P:Program} {w:World} {K:PySem.W.Frag} {mg:Str→Option Value} {base:Heap} {fr:Fr}
theorem Rm {x qual:Str} {st:Stmt} {f:Addr} {fd:FuncData} {N ps:List Str} {k:Nat} {S:yp} (F:Fun K x qual st f fd) (sc:zi N ps (defScope st)) (len:∀ ds Q R,S ds Q R→ds.length=ps.length)
  (hbody:∀ (cdv:Value) (A:Around) (outer:List Env) (s:Shared) (H:Hp) (E:XK),Room k (A.deeper (envOfC qual (defScope st) s.heap.objs.size f cdv))→∀ (ds:List Dt) (Q:Dt→Prop) (R:Addr→Prop),S ds Q R→
   (∀ C,R C→Rz (yC (CX1 P w) P w K mg base N qual (defScope st) f cdv A outer s H E) C)→
   ∃ t,DSs (yC (CX1 P w) P w K mg base N qual (defScope st) f cdv A outer s H E) fr (defBody st) t∧t { nx:=fun _=>False,rt:=Q } (yx N.length ds)):FnOk P w K mg base (CX1 P w) (k+1) f fd ps (pC K fr S):=by
 refine Fun.okX F sc (fun vs H Q E h=>?_) (fun cdv A outer s H vs Q E hr h=>?_)
 ·obtain ⟨W,ds,Qd,Ed,_,ia,hS,_⟩:=h
  rw [← ia.length]
  exact len ds Qd Ed hS
 obtain ⟨W,ds,Qd,Ed,rfl,ia,hS,kk,ke⟩:=h
 obtain ⟨t,⟨ts,p,l⟩,ht⟩:=hbody cdv A outer s W.h E hr ds Qd Ed hS fun C hC=>jh fun H' z=>ke C H' z hC
 exact ⟨ts,p,l W W.g (yx N.length ds) (start N vs) W { nx:=fun _=>False,rt:=Qd } _ (w9 ia (tY (Nat.succ_ne_self _))) ⟨fun ρ σ W' a q=>q.elim,kk,fun _ _ _ _ q=>q.elim,fun _ _ _ _ q=>q.elim⟩ ht⟩
theorem TOk.mk' {x qual:Str} {st:Stmt} {f:Addr} {fd:FuncData} {ps:List Str} {n:Nat} {S:DSp} (F:Fun K x qual st f fd) (hm:mg x=some (.ref f)) (hb:Binds K fd ps []) (h:FnOk P w K mg base CX0 n f fd ps (ZT K fr S)):TOk P w K mg base n x fr S:=
 ⟨f,fd,ps,hm,F.kp,hb,h⟩
theorem TOkX.mk' {x qual:Str} {st:Stmt} {f:Addr} {fd:FuncData} {ps:List Str} {n:Nat} {S:yp} (F:Fun K x qual st f fd) (hm:mg x=some (.ref f)) (hb:Binds K fd ps []) (h:FnOk P w K mg base (CX1 P w) n f fd ps (pC K fr S)):TOkX P w K mg base n x fr S:=
 ⟨f,fd,ps,hm,F.kp,hb,h⟩
end
def LiR (K:PySem.W.Frag) (Z:Hp) (fr:Fr) (te:TE) (t:DTE):Prop:=
 ∀ {F:Hp} (ρ:DS) (σ:St) (H:Vw) (Q:Dt→Prop),Rl K Z F H ρ σ→t ρ Q→∀ R:VK,(∀ d v H',Le H H'→Tld K H.h H' fr d v→Q d→R v H'.h)→te σ H.h R
def DR (X:Cx) (fr:Fr) (e:Expr) (t:DTE):Prop:=∃ te,PE X e te∧LiR X.K (Zx X) fr te t
theorem Z5 {K:PySem.W.Frag} {F G:Hp} {W:Vw} {fr:Fr} {d:Dt} {v:V} (z:∀ p,F p=none→G p=none) (h:Tld K F W fr d v):Tld K G W fr d v:=by
 have pp:∀ {b:Bool} {d:Dt} {v:V},Prt K F W b d v→Prt K G W b d v:=fun {b d v} h=>by
  cases b with
  | false=>exact h
  | true=>exact h.imp (fun h=>h.le z) id
 match fr,h with
 | .d,h=>exact h
 | .l,h=>exact NewL.le h z
 | .t a b,⟨d1,d2,q,u1,u2,e1,e2,hq,p1,p2,ne⟩=>exact ⟨d1,d2,q,u1,u2,e1,e2,hq,pp p1,pp p2,ne⟩
section
variable {X:Cx} {fr:Fr} {a b:Bool} {e e1 e2:Expr} {es:List Expr} {t t1 t2:DTE} {ta:DTA} {n:Nat} {x y:Str} {S:DSp} {SX:yp} {p pos p0 p1 p2:Pos} {i j:Nat}
theorem fA (G:TOkX X.prog X.w X.K X.mg X.base n x fr SX) (hr:Room n X.A) (hg:Gl X x) (ha:DA X (e::es) ta) (hdb:(x == ("__debug__":Str))=false:=by decide)
  (he:starEach (e::es) X.env=(false,eval e X.env)::starEach es X.env:=by rfl) (hpl:(backTo pos (starEach es X.env)).any (·.1)=false:=by rfl):DR X fr (.Call (.Name x p) (e::es) [] pos) (ml X SX ta):=by
 obtain ⟨f,fd,ps,hm,hk,hb,F⟩:=G.ex
 obtain ⟨te,p1,l1⟩:=ha
 refine ⟨_,ve F hr hg hm hk hb .nil sH p1 hdb he hpl,fun ρ σ H Q r h R k=>l1 ρ σ H _ r h _ fun ds vs H1 s1 i1 q1=>?_⟩
 rw [List.append_nil]
 exact ⟨H1,ds,Q,Rz X,rfl,i1,q1,fun d v H2 s2 t2 q2=>k d v H2 (s1.trans s2) (Z5 (fun _ z=>s1.h.free z) t2) q2,fun C H' s' hC=>⟨C,rfl,(hC H' (((mQ r).trans s1.h).trans s')).2⟩⟩
def RG (t:DTE):DTE:=fun ρ Q=>t ρ fun d=>∃ d1 es,d=.tup [d1,.lst es]∧Q (.lst es)
theorem V4 {jj} (h:DR X (.t a true) e t) (hs:tW (.Constant (.int 1) jj p0)):DF X (.Subscript e (.Constant (.int 1) jj p0) pos) (RG t):=by
 obtain ⟨te,p1,l1⟩:=h
 refine ⟨_,jF gQ p1 jG hs,fun ρ σ H Q r h R k=>l1 ρ σ H _ r h _ fun d v H1 s1 ⟨d1,d2,q,u1,u2,e1,e2,hq,pt1,pt2,ne⟩ ⟨d1',es,ed,qq⟩=>?_⟩
 subst e2
 rw [ed] at e1
 cases e1
 rcases pt2 with ⟨fs,p,xs,e1,e2,h3,h4,h5,h6⟩ | ⟨z,_⟩
 ·cases e1; subst e2
  exact .inr (.inl ⟨q,_,1,_,rfl,rfl,.of (H1.sub _ _ hq),rfl,k es p xs H1 s1 h3 h4 h5 h6 qq⟩)
 ·cases z
def RL (i:Nat):DTE:=fun ρ Q=>∃ ds,ρ[i]? = some (.own ds)∧Q (.lst ds)
def Si (t1 t2:DTE):DTS:=fun D ρ=>t1 ρ fun d1=>t2 ρ fun d2=>D.rt (.tup [d1,d2])
theorem ft {x1} (i:Nat) (h2:DF X e2 t2) (hN:X.N[i]? = some x:=by rfl) (hv:Vis X.env.scope x:=by first | exact Or.inl rfl | exact Or.inr (Or.inl rfl) | exact Or.inr (Or.inr rfl)) (hd:(x == ("__debug__":Str))=false:=by decide)
  (hcd:(x == ("__classdict__":Str))=false:=by decide)
  (hst:starEach [.Name x p1,e2] X.env=(false,eval (.Name x p1) X.env)::starEach [e2] X.env:=by rfl) (hst2:starEach [e2] X.env=(false,eval e2 X.env)::starEach [] X.env:=by rfl):
  DSt X (.t true true) (.Return (some (.Tuple [.Name x p1,e2] x1 p0)) pos) (Si (RL i) t2):=by
 obtain ⟨te2,q2,l2⟩:=h2
 refine ⟨_,qG (jB (zI (yl hN hv hd hcd) (zI q2 ym hst2) hst)),fun W0 G ρ σ W D D' at_ s h=>?_⟩
 obtain ⟨ds,e,h⟩:=h
 obtain ⟨c,xs,e1,k2,k3,k4,k5⟩:=at_.rl.ow i ds e
 refine ⟨.ref c,e1,l2 ρ σ W _ at_.rl h _ fun es q ys W2 s2 h0 h1 h2 i2 qq=>?_⟩
 refine ⟨by show 2≤_; decide,fun p hp=>?_⟩
 have s3:=vK hp (.tup [.ref c,.ref q])
 have n1:NewL X.K W0.h W (.lst ds) (.ref c):=⟨ds,c,xs,rfl,rfl,k4,k2,k3,k5⟩
 have n2:NewL X.K W0.h W2 (.lst es) (.ref q):=⟨es,q,ys,rfl,rfl,at_.le.h.free h0,h1,h2,i2⟩
 refine s.tl _ (.ref p) (W2.new p (.tup [.ref c,.ref q])) (at_.le.trans (s2.trans s3)) ⟨_,_,p,_,_,rfl,rfl,zw,.inl ((n1.mono s2).mono s3),.inl (n2.mono s3),fun _ _ _ _ _ _ z=>?_⟩ qq
 cases z
 rw [h0] at k2
 cases k2
def slP:Bool→Dt→Sl
 | true,.lst es=>.own es
 | _,d=>.some d
theorem Rl.ownN {K:PySem.W.Frag} {F:Hp} {W:Vw} {ρ:DS} {σ:St} (r:Rl K Z F W ρ σ) {p:Addr} {xs:List V} {ds:List Dt} (i:Nat) (nep:∀ (j:Nat) (es:List Dt),ρ[j]? = some (Sl.own es)→σ[j]?≠some (some (V.ref p))) (nea:∀ (j:Nat) (a:Addr) (es:List Dt),ρ[j]? = some (Sl.arg a es)→a≠p)
  (hF:F p=none) (h1:W.h p=some (.lst xs)) (h2:W.g p=none) (h3:AllIs K W.g ds xs):Rl K Z F W (ρ.set i (.own ds)) (σ.set i (some (.ref p))):=by
 refine ⟨by rw [List.length_set,List.length_set]; exact r.len,fun j e q=>?_,fun j es q=>?_,fun j k es es' hjk q1 q2=>?_,r.fr,r.z,fun j a fs q=>?_⟩
 ·rcases zm q with ⟨_,_,e1⟩ | ⟨hij,q⟩
  ·cases e1
  ·rw [List.getElem?_set_ne hij]
   exact r.at_ j e q
 ·rcases zm q with ⟨rfl,hl,e1⟩ | ⟨hij,q⟩
  ·cases e1
   exact ⟨p,xs,by rw [List.getElem?_set_self (by rw [← r.len]; exact hl)],h1,h2,hF,h3⟩
  ·rw [List.getElem?_set_ne hij]
   exact r.ow j es q
 ·rcases zm q1 with ⟨rfl,hl,e1⟩ | ⟨hij,q1⟩
  ·rcases zm q2 with ⟨rfl,_,_⟩ | ⟨hik,q2⟩
   ·exact absurd rfl hjk
   ·rw [List.getElem?_set_self (by rw [← r.len]; exact hl),List.getElem?_set_ne hik]
    exact fun z=>nep k es' q2 z.symm
  ·rcases zm q2 with ⟨rfl,hl,_⟩ | ⟨hik,q2⟩
   ·rw [List.getElem?_set_self (by rw [← r.len]; exact hl),List.getElem?_set_ne hij]
    exact nep j es q1
   ·rw [List.getElem?_set_ne hij,List.getElem?_set_ne hik]
    exact r.ne j k es es' hjk q1 q2
 ·rcases zm q with ⟨_,_,e1⟩ | ⟨hij,q⟩
  ·cases e1
  obtain ⟨⟨ys,g1,g2⟩,k1,k2⟩:=r.ar j a fs q
  refine ⟨⟨ys,by rw [List.getElem?_set_ne hij]; exact g1,g2⟩,fun k es q'=>?_,fun k c es q'=>?_⟩
  ·rcases zm q' with ⟨rfl,hl,e1⟩ | ⟨hik,q'⟩
   ·rw [List.getElem?_set_self (by rw [← r.len]; exact hl)]
    intro z
    cases z
    exact nea j _ fs q rfl
   ·rw [List.getElem?_set_ne hik]
    exact k1 k es q'
  ·rcases zm q' with ⟨_,_,e1⟩ | ⟨hik,q'⟩
   ·cases e1
   exact k2 k c es q'
theorem Rl.part {K:PySem.W.Frag} {F F':Hp} {W:Vw} {ρ:DS} {σ:St} (r:Rl K Z F W ρ σ) {b:Bool} {d:Dt} {v:V} (i:Nat) (h:Prt K F' W b d v) (hF:∀ p,F' p=none→F p=none)
  (nep:∀ (p:Addr) (j:Nat) (es fs:List Dt),b=true→d=.lst fs→v=.ref p→F' p=none→ρ[j]? = some (Sl.own es)→σ[j]?≠some (some (V.ref p))) (nea:∀ (p:Addr) (j:Nat) (a:Addr) (es:List Dt),F' p=none→ρ[j]? = some (Sl.arg a es)→a≠p):
  Rl K Z F W (ρ.set i (slP b d)) (σ.set i (some v)):=by
 cases b with
 | false=>cases d <;> exact r.set i h
 | true=>
  rcases h with ⟨es,p,xs,rfl,rfl,h3,h4,h5,h6⟩ | ⟨z,h2⟩
  ·exact r.ownN i (fun j fs e=>nep p j fs es rfl rfl rfl h3 e) (fun j a fs e=>nea p j a fs h3 e) (hF p h3) h4 h5 h6
  ·cases d <;> first | exact r.set i h2 | cases z
end
end OD
namespace L2
open PySem PySem.Spec PyProof.Rows
def Cx.arg (X:Cx):Cx:={ X with fn:=fun y=>!(y == "") }
section
variable {X:Cx} {pins:List (Addr × Obj)} {σ:St} {H:Hp} {s:Shared}
theorem Inv.arg (I:Inv X pins σ H s) (hf:∀ y,X.fn y=true):Inv X.arg pins σ H s:=
 ⟨⟨I.ok.mod,I.ok.kind,I.ok.glob,I.ok.blt,I.ok.above,I.ok.inj,I.ok.has,fun x c _=>I.ok.cab x c (hf x),I.ok.hd,I.ok.frames,I.ok.stk,I.ok.exf,I.ok.bs,I.ok.bsz,I.ok.noex,I.ok.exfs,I.ok.funs,I.ok.frf⟩,I.os,I.bare,I.base,I.loc,I.cell,I.free,I.freeC,I.pin,I.hok,I.len⟩
theorem Inv.outA (ok:X.Ok) (I:Inv X.arg pins σ H s):Inv X pins σ H s:=⟨ok,I.os,I.bare,I.base,I.loc,I.cell,I.free,I.freeC,I.pin,I.hok,I.len⟩
theorem SP.outA {D:Ends} {f:Flow} {s':Shared} (ok:X.Ok) (h:SP X.arg pins D f s'):SP X pins D f s':=by
 cases f with
 | next=>obtain ⟨σ',H',I,q⟩:=h; exact ⟨σ',H',I.outA ok,q⟩
 | brk=>obtain ⟨σ',H',I,q⟩:=h; exact ⟨σ',H',I.outA ok,q⟩
 | cont=>obtain ⟨σ',H',I,q⟩:=h; exact ⟨σ',H',I.outA ok,q⟩
 | ret u=>obtain ⟨v,σ',H',I,r,q⟩:=h; exact ⟨v,σ',H',I.outA ok,r,q⟩
theorem PSs.outA {sts:List Stmt} {ts:TS} (h:PSs X.arg sts ts) (hf:∀ y,X.fn y=true):PSs X sts ts:=fun pins s σ H D I q=>thn (h pins s σ H D (I.arg hf) q) fun _ _ z=>SP.outA I.ok z
theorem g6:SW X (fun o i H Q=>∃ p xs k v,o=.ref p∧i=.int k∧0≤k∧H p=some (.lst xs)∧xs[k.toNat]? = some v∧Q v H):=by
 intro pins s σ H o i ov iv Q I ro ri h
 obtain ⟨p,xs,k,v,rfl,rfl,h0,hp,hv,q⟩:=h
 cases ro
 obtain ⟨t,rfl⟩:=ri
 obtain ⟨its,r,pl,hz⟩:=I.list (.of hp)
 obtain ⟨w,ew,rw'⟩:=r.get hv
 have hl:=r.length
 have hn:=vJ
 have hk:k.toNat<xs.length:=by
  rcases Nat.lt_or_ge k.toNat xs.length with z | z
  ·exact z
  ·rw [List.getElem?_eq_none z] at hv; cases hv
 exact wpAny_getItem_list pl.isList h0 (by omega) (by simpa using ew) ⟨v,H,I,rw',q⟩
end
end L2
namespace OD
variable {Z:Hp}
open PySem PySem.Spec PyProof.Rows L2
theorem ZZ {X:Cx}:Zx X.arg=fun _=>none:=if_pos (.inr (by show (!(("":Str) == ""))=false; decide))
def Vw.del (W:Vw) (a:Addr) (hg:W.g a=none):Vw:=⟨W.g,fun b=>if b=a then none else W.h b,fun b o q=>by
 have:b≠a:=fun e=>by rw [e,hg] at q; cases q
 show (if b=a then none else W.h b)=some o
 rw [if_neg this]
 exact W.sub _ _ q⟩
theorem uY {W:Vw} {a b:Addr} {hg:W.g a=none} (h:b≠a):(W.del a hg).h b=W.h b:=if_neg h
theorem fE (W:Vw) (a:Addr) (hg:W.g a=none):Le (W.del a hg) W:=⟨Same.refl _,fun b o q=>by
 by_cases e:b=a
 ·subst e
  have q:(if b=b then none else W.h b)=some o:=q
  rw [if_pos rfl] at q
  cases q
 ·rw [← uY (hg:=hg) e]; exact q,fun _ _ h=>h⟩
theorem Le.undel {W0 W W':Vw} {a:Addr} {hg:W.g a=none} (l0:Le W0 W) (h0:W0.h a=none) (l:Le (W.del a hg) W'):Le W0 W':=
 ⟨l0.g.trans l.g,fun b o q=>by
  have e:b≠a:=fun e=>by rw [e,h0] at q; cases q
  exact l.h b o ((uY e).trans (l0.h b o q)),fun b h1 h2=>by
  have e:b≠a:=fun e=>h1 (e ▸ h0)
  exact l.n b (by rw [uY e]; exact fun z=>h1 (l0.h.free z)) (l0.n b h1 h2)⟩
theorem Rl.lent {K:PySem.W.Frag} {F:Hp} {W W':Vw} {ρ:DS} {σ:St} (r:Rl K Z F W ρ σ) {i:Nat} {ds fs:List Dt} {a:Addr} {ys:List V} (hi:ρ[i]? = some (.own ds)) (ha:σ[i]? = some (some (.ref a))) (hg:W.g a=none) (hF:F a=none)
  (le:Le (W.del a hg) W') (h1:W'.h a=some (.lst ys)) (h2:W'.g a=none) (h3:AllIs K W'.g fs ys):Rl K Z F W' (ρ.set i (.own fs)) σ:=by
 have other:∀ j gs,j≠i→ρ[j]? = some (.own gs)→σ[j]?≠some (some (.ref a)):=fun j gs hj q z=>r.ne j i gs ds hj q hi (z.trans ha.symm)
 have keep:∀ b xs,b≠a→W.h b=some (.lst xs)→W.g b=none→W'.h b=some (.lst xs)∧W'.g b=none:=fun b xs hb q1 q2=>
  ⟨le.h b _ ((uY hb).trans q1),le.n b (by rw [uY hb,q1]; intro z; cases z) q2⟩
 refine ⟨by rw [List.length_set]; exact r.len,fun j e q=>?_,fun j gs q=>?_,fun j k gs gs' hjk q1 q2=>?_,fun p o q=>?_,r.z,fun j c gs q=>?_⟩
 ·rcases zm q with ⟨_,_,e1⟩ | ⟨hij,q⟩
  ·cases e1
  ·obtain ⟨v,e1,e2⟩:=r.at_ j e q
   exact ⟨v,e1,Is.mono0 le.g e2⟩
 ·rcases zm q with ⟨rfl,_,e1⟩ | ⟨hij,q⟩
  ·cases e1
   exact ⟨a,ys,ha,h1,h2,hF,h3⟩
  ·obtain ⟨b,xs,e1,e2,e3,e4,e5⟩:=r.ow j gs q
   have hb:b≠a:=fun z=>other j gs (fun z=>hij z.symm) q (z ▸ e1)
   obtain ⟨k1,k2⟩:=keep b xs hb e2 e3
   exact ⟨b,xs,e1,k1,k2,e4,AllIs.mono0 le.g e5⟩
 ·have k1:∃ hs,ρ[j]? = some (.own hs):=by
   rcases zm q1 with ⟨rfl,_,_⟩ | ⟨_,q⟩
   ·exact ⟨_,hi⟩
   ·exact ⟨_,q⟩
  have k2:∃ hs,ρ[k]? = some (.own hs):=by
   rcases zm q2 with ⟨rfl,_,_⟩ | ⟨_,q⟩
   ·exact ⟨_,hi⟩
   ·exact ⟨_,q⟩
  obtain ⟨_,k1⟩:=k1
  obtain ⟨_,k2⟩:=k2
  exact r.ne j k _ _ hjk k1 k2
 ·have e:p≠a:=fun e=>by rw [e,hF] at q; cases q
  exact le.h p o ((uY e).trans (r.fr p o q))
 ·rcases zm q with ⟨_,_,e1⟩ | ⟨hij,q⟩
  ·cases e1
  obtain ⟨⟨xs,g1,g2,g3,g4,g5⟩,k1,k2⟩:=r.ar j c gs q
  have hc:c≠a:=fun z=>k1 i ds hi (by rw [z]; exact ha)
  obtain ⟨m1,m2⟩:=keep c xs hc g2 g3
  refine ⟨⟨xs,g1,m1,m2,g4,AllIs.mono0 le.g g5⟩,fun k es' q'=>?_,fun k c' es' q'=>?_⟩
  ·rcases zm q' with ⟨rfl,_,_⟩ | ⟨_,q'⟩
   ·exact k1 i ds hi
   ·exact k1 k es' q'
  ·rcases zm q' with ⟨_,_,e1⟩ | ⟨hik,q'⟩
   ·cases e1
   exact k2 k c' es' q'
theorem Rl.putA {K:PySem.W.Frag} {F:Hp} {W:Vw} {ρ:DS} {σ:St} (r:Rl K Z F W ρ σ) {i:Nat} {ds es:List Dt} {a:Addr} {ys:List V} (hi:ρ[i]? = some (.arg a ds)) (hg:W.g a=none) (hF:F a=none) (h3:AllIs K W.g es ys):
  Rl K Z F (W.mine a (.lst ys) hg) (ρ.set i (.arg a es)) σ:=by
 obtain ⟨⟨xs,ha,_⟩,no,on⟩:=r.ar i a ds hi
 refine ⟨by rw [List.length_set]; exact r.len,fun j e q=>?_,fun j fs q=>?_,fun j k fs fs' hjk q1 q2=>?_,fun p o q=>?_,r.z,fun j c fs q=>?_⟩
 ·rcases zm q with ⟨_,_,e1⟩ | ⟨hij,q⟩
  ·cases e1
  ·exact r.at_ j e q
 ·rcases zm q with ⟨_,_,e1⟩ | ⟨hij,q⟩
  ·cases e1
  ·obtain ⟨b,xs,e1,e2,e3,e4,e5⟩:=r.ow j fs q
   have hb:b≠a:=fun z=>no j fs q (z ▸ e1)
   exact ⟨b,xs,e1,(zu hb).trans e2,e3,e4,e5⟩
 ·rcases zm q1 with ⟨_,_,e1⟩ | ⟨_,q1⟩
  ·cases e1
  rcases zm q2 with ⟨_,_,e1⟩ | ⟨_,q2⟩
  ·cases e1
  exact r.ne j k _ _ hjk q1 q2
 ·have e:p≠a:=fun e=>by rw [e,hF] at q; cases q
  exact (zu (H:=W.h) (o:=.lst ys) e).trans (r.fr p o q)
 ·rcases zm q with ⟨rfl,hl,e1⟩ | ⟨hij,q⟩
  ·cases e1
   refine ⟨⟨ys,ha,zw,hg,hF,h3⟩,fun k es' q'=>?_,fun k c' es' q'=>?_⟩
   ·rcases zm q' with ⟨_,_,e1⟩ | ⟨_,q'⟩
    ·cases e1
    ·exact no k es' q'
   ·rcases zm q' with ⟨rfl,_,_⟩ | ⟨hik,q'⟩
    ·rfl
    ·exact on k c' es' q'
  ·exact absurd (on j c fs q) (fun z=>hij z.symm)
theorem At.putA {K:PySem.W.Frag} {W0 W:Vw} {G:Hp} {ρ:DS} {σ:St} (at_:At K Z W0 G W ρ σ) {i:Nat} {ds es:List Dt} {a:Addr} {ys:List V} (hi:ρ[i]? = some (.arg a ds)) (hg:W.g a=none) (hF:W0.h a=none) (h3:AllIs K W.g es ys):
  At K Z W0 G (W.mine a (.lst ys) hg) (ρ.set i (.arg a es)) σ:=
 ⟨⟨at_.le.g,fun b o q=>by
   have:b≠a:=fun e=>by rw [e,hF] at q; cases q
   show upd W.h a _ b=some o
   rw [zu this]; exact at_.le.h _ _ q,at_.le.n⟩,at_.gs,at_.rl.putA hi hg hF h3⟩
abbrev ASp:=Dt→List Dt→List Dt→(List Dt→Prop)→Prop
def o5 (K:PySem.W.Frag) (S:ASp):Sp:=fun vs H Q _=>∃ (W:Vw) (d0:Dt) (es0 ds:List Dt) (Qd:List Dt→Prop) (v0:V) (a:Addr) (xs vs':List V) (hg:W.g a=none),W.h=H∧vs=v0::.ref a::vs'∧W.h a=some (.lst xs)∧Is K W.g d0 v0∧AllIs K W.g es0 xs∧AllIs K W.g ds vs'∧S d0 es0 ds Qd∧
 ∀ es ys W',Le (W.del a hg) W'→W'.h a=some (.lst ys)→W'.g a=none→AllIs K W'.g es ys→Qd es→Q .non W'.h
structure AOk (P:Program) (w:World) (K:PySem.W.Frag) (mg:Str→Option Value) (base:Heap) (n:Nat) (x:Str) (S:ASp):Prop where
 ex:∃ f fd ps,mg x=some (.ref f)∧PySem.W.keepIn K (.ref f)=true∧Binds K fd ps []∧FnOk P w K mg base CX0 n f fd ps (o5 K S)
def rh (n:Nat) (d0:Dt) (a:Addr) (es0 ds:List Dt):DS:=.some d0::.arg a es0::(ds.map Sl.some++List.replicate (n - (ds.length+2)) Sl.none)
section
variable {P:Program} {w:World} {K:PySem.W.Frag} {mg:Str→Option Value} {base:Heap}
theorem lZ {W:Vw} {N:List Str} {d0:Dt} {v0:V} {a:Addr} {es0 ds:List Dt} {xs vs:List V} (hg:W.g a=none) (ha:W.h a=some (.lst xs)) (i0:Is K W.g d0 v0) (i1:AllIs K W.g es0 xs) (i2:AllIs K W.g ds vs):
  Rl K (fun _=>none) (W.del a hg).h W (rh N.length d0 a es0 ds) (L2.start N (v0::.ref a::vs)):=by
 have hl:=i2.length
 have cls:∀ (i:Nat) (y:Sl),(ds.map Sl.some++List.replicate (N.length - (ds.length+2)) Sl.none)[i]? = some y→(∃ d,ds[i]? = some d∧y=.some d)∨y=.none:=fun i y e=>by
  by_cases hi:i<ds.length
  ·rw [List.getElem?_append_left (by rw [List.length_map]; exact hi),List.getElem?_map] at e
   obtain ⟨d',h1,h2⟩:=Option.map_eq_some_iff.mp e
   exact .inl ⟨d',h1,h2.symm⟩
  ·rw [List.getElem?_append_right (by rw [List.length_map]; omega),List.getElem?_replicate] at e
   split at e
   ·exact .inr (Option.some.inj e).symm
   ·cases e
 have noOwn:∀ (i:Nat) (es:List Dt),(rh N.length d0 a es0 ds)[i]? = some (.own es)→False:=fun i es e=>by
  match i,e with
  | 0,e=>cases e
  | 1,e=>cases e
  | i+2,e=>
   rcases cls i _ e with ⟨_,_,e1⟩ | e1 <;> cases e1
 have dela:(W.del a hg).h a=none:=if_pos rfl
 refine ⟨?_,fun i d e=>?_,fun i es e=>(noOwn i es e).elim,fun i j es fs _ e _=>(noOwn i es e).elim,(fE W a hg).h,(fun _ _ q=>nomatch q),fun i c es e=>?_⟩
 ·unfold L2.start rh
  rw [List.length_cons,List.length_cons,List.length_append,List.length_append,List.length_map,List.length_map,List.length_replicate,List.length_replicate,List.length_cons,List.length_cons,hl]
  omega
 ·match i,e with
  | 0,e=>cases e; exact ⟨v0,rfl,i0⟩
  | 1,e=>cases e
  | i+2,e=>
   rcases cls i _ e with ⟨d',q,e1⟩ | e1
   ·cases e1
    obtain ⟨v,h1,h2⟩:=i2.get q
    refine ⟨v,?_,h2⟩
    have hi:i<vs.length:=by
     rcases Nat.lt_or_ge i vs.length with h | h
     ·exact h
     ·rw [List.getElem?_eq_none h] at h1; cases h1
    unfold L2.start
    show (vs.map some++_)[i]? = _
    rw [List.getElem?_append_left (by rw [List.length_map]; exact hi),List.getElem?_map,h1]
    rfl
   ·cases e1
 ·have hone:∀ (j:Nat) (b:Addr) (es:List Dt),(rh N.length d0 a es0 ds)[j]? = some (.arg b es)→j=1∧b=a∧es=es0:=fun j b es e=>by
   match j,e with
   | 0,e=>cases e
   | 1,e=>cases e; exact ⟨rfl,rfl,rfl⟩
   | j + 2,e=>rcases cls j _ e with ⟨_,_,e1⟩ | e1 <;> cases e1
  obtain ⟨rfl,rfl,rfl⟩:=hone i c es e
  exact ⟨⟨xs,rfl,ha,hg,dela,i1⟩,fun j es e=>(noOwn j es e).elim,fun j b es e=>(hone j b es e).1⟩
theorem okA {x qual:Str} {st:Stmt} {f:Addr} {fd:FuncData} {N ps:List Str} {k:Nat} {S:ASp} (F:Fun K x qual st f fd) (sc:zi N ps (defScope st)) (len:∀ d0 es0 ds Q,S d0 es0 ds Q→ds.length+2=ps.length)
  (hbody:∀ (cdv:Value) (A:Around) (outer:List Env) (s:Shared) (H:Hp) (E:XK),Room k (A.deeper (envOfC qual (defScope st) s.heap.objs.size f cdv))→∀ (d0:Dt) (es0 ds:List Dt) (Q:List Dt→Prop) (a:Addr),S d0 es0 ds Q→
   ∃ t,DSs (yC CX0 P w K mg base N qual (defScope st) f cdv A outer s H E).nox.arg .d (defBody st) t∧t { nx:=fun ρ=>∃ es,ρ[1]? = some (.arg a es)∧Q es,rt:=fun _=>False } (rh N.length d0 a es0 ds)):FnOk P w K mg base CX0 (k+1) f fd ps (o5 K S):=by
 refine F.ok sc (fun vs H Q E h=>?_) (fun cdv A outer s H vs Q E hr h=>?_)
 ·obtain ⟨W,d0,es0,ds,Qd,v0,a,xs,vs',hg,rfl,rfl,h1,h2,h3,h4,hS,_⟩:=h
  rw [List.length_cons,List.length_cons,← h4.length]
  exact len _ _ _ _ hS
 obtain ⟨W,d0,es0,ds,Qd,v0,a,xs,vs',hg,rfl,rfl,h1,h2,h3,h4,hS,kk⟩:=h
 obtain ⟨t,⟨ts,p,l⟩,ht⟩:=hbody cdv A outer s W.h E hr d0 es0 ds Qd a hS
 rw [ZZ] at l
 refine ⟨ts,p.outA (fun _=>rfl),l (W.del a hg) W.g _ (start N (v0::.ref a::vs')) W { nx:=fun ρ=>∃ es,ρ[1]? = some (.arg a es)∧Qd es,rt:=fun _=>False } _ ⟨fE W a hg,Same.refl _,lZ hg h1 h2 h3 h4⟩ ⟨fun ρ σ W' at_ ⟨es,e,q⟩=>?_,fun _ _ _ _ _ q=>q.elim,fun _ _ _ _ q=>q.elim,fun _ _ _ _ q=>q.elim⟩ ht⟩
 obtain ⟨⟨ys,_,g2,g3,_,g5⟩,_,_⟩:=at_.rl.ar 1 a es e
 exact kk es ys W' at_.le g2 g3 g5 q
theorem AOk.mk' {x qual:Str} {st:Stmt} {f:Addr} {fd:FuncData} {ps:List Str} {n:Nat} {S:ASp} (F:Fun K x qual st f fd) (hm:mg x=some (.ref f)) (hb:Binds K fd ps []) (h:FnOk P w K mg base CX0 n f fd ps (o5 K S)):AOk P w K mg base n x S:=
 ⟨f,fd,ps,hm,F.kp,hb,h⟩
end
section
variable {X:Cx} {fr:Fr} {e e0 k:Expr} {es:List Expr} {t te tk:DTE} {ta:DTA} {n:Nat} {x y:Str} {S:ASp} {p pos p0 p1 p2 p3:Pos} {i:Nat}
def Uj (i:Nat) (S:ASp) (t:DTE) (ta:DTA):DTS:=fun D ρ=>∃ ds,ρ[i]? = some (.own ds)∧t ρ fun d0=>ta ρ fun fs=>S d0 ds fs fun es=>D.nx (ρ.set i (.own es))
theorem fw (i:Nat) (G:AOk X.prog X.w X.K X.mg X.base n x S) (hr:Room n X.A) (hg:Gl X x) (h0:DE X e0 t) (ha:DA X es ta) (hN:X.N[i]? = some y:=by rfl) (hv:Vis X.env.scope y:=by first | exact Or.inl rfl | exact Or.inr (Or.inl rfl) | exact Or.inr (Or.inr rfl)) (hd:(y == ("__debug__":Str))=false:=by decide)
  (hcd:(y == ("__classdict__":Str))=false:=by decide) (hdb:(x == ("__debug__":Str))=false:=by decide)
  (he:starEach (e0::.Name y p1::es) X.env=(false,eval e0 X.env)::starEach (.Name y p1::es) X.env:=by rfl) (he2:starEach (.Name y p1::es) X.env=(false,eval (.Name y p1) X.env)::starEach es X.env:=by rfl)
  (hpl:(backTo p2 (starEach (.Name y p1::es) X.env)).any (·.1)=false:=by rfl) (hs:swapsWith (.Call (.Name x p) (e0::.Name y p1::es) [] p2) none pos.line X.env=pure false:=by rfl):
  DSt X fr (.Expr (.Call (.Name x p) (e0::.Name y p1::es) [] p2) pos) (Uj i S t ta):=by
 obtain ⟨f,fd,ps,hm,hk,hb,F⟩:=G.ex
 obtain ⟨tt,q0,l0⟩:=h0
 obtain ⟨tts,q1,l1⟩:=ha
 refine ⟨_,wg (ve F hr hg hm hk hb .nil rT (zI q0 (zI (yl hN hv hd hcd) q1 he2) he) hdb he hpl) hs,fun W0 G ρ σ W D D' at_ s h=>?_⟩
 obtain ⟨ds,ei,h⟩:=h
 obtain ⟨a,xs,k1,k2,k3,k4,k5⟩:=at_.rl.ow i ds ei
 refine l0 ρ σ W _ at_.rl h _ fun d0 v0 W1 s1 i0 h=>?_
 refine ⟨.ref a,k1,l1 ρ σ W1 _ (at_.rl.mono s1) h _ fun fs vs W2 s2 i2 h=>?_⟩
 have s12:=s1.trans s2
 have hg2:W2.g a=none:=s12.n a (by rw [k2]; intro z; cases z) k3
 show o5 X.K S ((v0::.ref a::vs)++[]) W2.h _ E0
 rw [List.append_nil]
 refine ⟨W2,d0,ds,fs,_,v0,a,xs,vs,hg2,rfl,rfl,s12.h _ _ k2,i0.mono s2,k5.mono s12,i2,h,fun es ys W' le m1 m2 m3 q=>?_⟩
 have a2:=at_.step s12
 exact s.nx _ _ W' ⟨a2.le.undel k4 le,a2.gs.trans le.g,a2.rl.lent ei k1 hg2 k4 le m1 m2 m3⟩ q
def Sv (i:Nat):DTE:=fun ρ Q=>∃ a ds,ρ[i]? = some (.arg a ds)∧Q (.int ds.length)
theorem Zc (i:Nat) (hg:Gl X "len") (hm:X.mg "len"=none) (hN:X.N[i]? = some x:=by rfl) (hv:Vis X.env.scope x:=by first | exact Or.inl rfl | exact Or.inr (Or.inl rfl) | exact Or.inr (Or.inr rfl)) (hd:(x == ("__debug__":Str))=false:=by decide)
  (hcd:(x == ("__classdict__":Str))=false:=by decide) (hs:starEach [.Name x p1] X.env=(false,eval (.Name x p1) X.env)::starEach [] X.env:=by rfl) (hpl:(backTo pos (starEach [] X.env)).any (·.1)=false:=by rfl):
  DE X (.Call (.Name "len" p0) [.Name x p1] [] pos) (Sv i):=by
 refine ⟨_,yG ww hg hm PySem.boot_len (zI (yl hN hv hd hcd) ym hs) (by decide) (by decide) hs hpl,fun ρ σ H Q r h R k=>?_⟩
 obtain ⟨a,ds,e,q⟩:=h
 obtain ⟨⟨xs,e1,e2,e3,e4,e5⟩,_,_⟩:=r.ar i a ds e
 exact ⟨.ref a,e1,a,xs,rfl,.inl (.of e2),by rw [← e5.length]; exact k _ _ H (Le.refl H) (is_int.mpr rfl) q⟩
def SH (i:Nat) (te:DTE):DTS:=fun D ρ=>∃ a ds,ρ[i]? = some (.arg a ds)∧te ρ fun d=>ds.length≤100000∧D.nx (ρ.set i (.arg a (ds++[d])))
theorem aZ (i:Nat) (h:DE X e te) (hN:X.N[i]? = some x:=by rfl) (hv:Vis X.env.scope x:=by first | exact Or.inl rfl | exact Or.inr (Or.inl rfl) | exact Or.inr (Or.inr rfl)) (hd:(x == ("__debug__":Str))=false:=by decide)
  (hcd:(x == ("__classdict__":Str))=false:=by decide) (hst:starEach [e] X.env=(false,eval e X.env)::starEach [] X.env:=by rfl) (hpl:(backTo p2 (starEach [] X.env)).any (·.1)=false:=by rfl)
  (hfew:((backTo p2 (starEach [e] X.env)).all (fun x=>!x.1) && (backToKw p2 (keywordEach [] X.env)).all (fun x=>x.1.isSome)
   && decide ([e].length+([]:List Keyword).length+(if ([]:List Keyword).isEmpty then 0 else 1)<30))=true:=by rfl)
  (hbase:attributeBase (.Name x p0) "append" X.env (eval (.Name x p0) X.env)=eval (.Name x p0) X.env:=by rfl) (hline:(p1.endLine == p2.line)=true:=by rfl)
  (hs:swapsWith (.Call (.Attribute (.Name x p0) "append" p1) [e] [] p2) none pos.line X.env=pure false:=by rfl):
  DSt X fr (.Expr (.Call (.Attribute (.Name x p0) "append" p1) [e] [] p2) pos) (SH i te):=by
 obtain ⟨tt,p,l⟩:=h
 refine ⟨_,wg (jJ PySem.F.plainAttrs_list PySem.F.slot_list_append PySem.F.type_list_append uO (yl hN hv hd hcd) (zI p ym hst) hbase hfew hline hst hpl) hs,fun W0 G ρ σ W D D' at_ s h=>?_⟩
 obtain ⟨b,ds,ei,h⟩:=h
 obtain ⟨⟨xs,e1,e2,e3,e4,e5⟩,_,_⟩:=at_.rl.ar i b ds ei
 refine ⟨.ref b,e1,.inl ⟨rfl,xs,.of e2⟩,l ρ σ W _ at_.rl h _ fun d v W1 s1 i1 ⟨hl,q1⟩=>?_⟩
 have a1:=at_.step s1
 have hg1:W1.g b=none:=s1.n b (by rw [e2]; intro z; cases z) e3
 refine ⟨b,xs,v,rfl,rfl,s1.h _ _ e2,by rw [← e5.length]; exact Nat.lt_of_le_of_lt hl (by decide),?_⟩
 exact s.nx _ _ _ (a1.putA ei hg1 e4 ((e5.mono s1).append (allIs_cons.mpr ⟨v,[],rfl,i1,allIs_nil.mpr rfl⟩))) q1
def SG (i:Nat) (g:Int→Int→Int) (tk te:DTE):DTS:=fun D ρ=>∃ a ds,ρ[i]? = some (.arg a ds)∧tk ρ fun z=>∃ n m,z=.int n∧0≤n∧ds[n.toNat]? = some (.int m)∧te ρ fun d=>∃ y,d=.int y∧D.nx (ρ.set i (.arg a (ds.set n.toNat (.int (g m y)))))
theorem VS {n:Int} {k:Nat} (h0:0≤n) (h:n.toNat<k):ixN k n=some n.toNat:=by
 unfold ixN
 rw [if_pos h0,if_pos (by omega)]
theorem aY (i:Nat) {op:Operator} {g:Int→Int→Int} (ho:PIp X op (ipI g)) (hk:DE X k tk) (h:DE X e te) (hN:X.N[i]? = some x:=by rfl) (hv:Vis X.env.scope x:=by first | exact Or.inl rfl | exact Or.inr (Or.inl rfl) | exact Or.inr (Or.inr rfl)) (hd:(x == ("__debug__":Str))=false:=by decide)
  (hcd:(x == ("__classdict__":Str))=false:=by decide)
  (ha:∀ ov iv new,augStore k ov iv new=(do holding [new,ov,iv] (setItem ov iv new); release [new,ov,iv] []; pure .next):=by intros; rfl):
  DSt X fr (.AugAssign (.Subscript (.Name x p0) k p1) op e pos) (SG i g tk te):=by
 obtain ⟨tt,p,l⟩:=h
 obtain ⟨tk',pk,lk⟩:=hk
 refine ⟨_,dA (yl hN hv hd hcd) pk g6 p ho pS ha,fun W0 G ρ σ W D D' at_ s h=>?_⟩
 obtain ⟨b,ds,ei,h⟩:=h
 obtain ⟨⟨xs,e1,e2,e3,e4,e5⟩,_,_⟩:=at_.rl.ar i b ds ei
 refine ⟨.ref b,e1,lk ρ σ W _ at_.rl h _ fun z v W1 s1 i1 ⟨n,m,ez,h0,hm,q1⟩=>?_⟩
 subst ez
 obtain rfl:=is_int.mp i1
 obtain ⟨u,hu,iu⟩:=e5.get hm
 obtain rfl:=is_int.mp iu
 refine ⟨b,xs,n,.int m,rfl,rfl,h0,s1.h _ _ e2,hu,l ρ σ W1 _ (at_.rl.mono s1) q1 _ fun d v W2 s2 i2 ⟨y,ed,q2⟩=>?_⟩
 subst ed
 have s12:=s1.trans s2
 have hg2:W2.g b=none:=s12.n b (by rw [e2]; intro z; cases z) e3
 have hl:n.toNat<xs.length:=by
  rcases Nat.lt_or_ge n.toNat xs.length with z | z
  ·exact z
  ·rw [List.getElem?_eq_none z] at hu; cases hu
 refine ⟨m,y,rfl,is_int.mp i2,b,xs,n,n.toNat,rfl,rfl,s12.h _ _ e2,VS h0 hl,?_⟩
 exact s.nx _ _ _ ((at_.step s12).putA ei hg2 e4 ((e5.mono s12).set n.toNat (is_int.mpr rfl))) q2
def RV (i:Nat) (te:DTE):DTS:=fun D ρ=>∃ ds,ρ[i]? = some (.own ds)∧te ρ fun d=>∃ es,d=.lst es∧ds.length+es.length≤16000000∧D.nx (ρ.set i (.own (ds++es)))
theorem V3 (i:Nat) (h:DE X e te) (hN:X.N[i]? = some x:=by rfl) (hv:Vis X.env.scope x:=by first | exact Or.inl rfl | exact Or.inr (Or.inl rfl) | exact Or.inr (Or.inr rfl)) (hd:(x == ("__debug__":Str))=false:=by decide)
  (hcd:(x == ("__classdict__":Str))=false:=by decide) (hst:starEach [e] X.env=(false,eval e X.env)::starEach [] X.env:=by rfl) (hpl:(backTo p2 (starEach [] X.env)).any (·.1)=false:=by rfl)
  (hfew:((backTo p2 (starEach [e] X.env)).all (fun x=>!x.1) && (backToKw p2 (keywordEach [] X.env)).all (fun x=>x.1.isSome)
   && decide ([e].length+([]:List Keyword).length+(if ([]:List Keyword).isEmpty then 0 else 1)<30))=true:=by rfl)
  (hbase:attributeBase (.Name x p0) "extend" X.env (eval (.Name x p0) X.env)=eval (.Name x p0) X.env:=by rfl) (hline:(p1.endLine == p2.line)=true:=by rfl)
  (hs:swapsWith (.Call (.Attribute (.Name x p0) "extend" p1) [e] [] p2) none pos.line X.env=pure false:=by rfl):
  DSt X fr (.Expr (.Call (.Attribute (.Name x p0) "extend" p1) [e] [] p2) pos) (RV i te):=by
 obtain ⟨tt,p,l⟩:=h
 refine ⟨_,wg (jJ PySem.F.plainAttrs_list PySem.F.slot_list_extend PySem.F.type_list_extend kv (yl hN hv hd hcd) (zI p ym hst) hbase hfew hline hst hpl) hs,fun W0 G ρ σ W D D' at_ s h=>?_⟩
 obtain ⟨ds,ei,h⟩:=h
 obtain ⟨b,xs,e1,e2,e3,e4,e5⟩:=at_.rl.ow i ds ei
 refine ⟨.ref b,e1,.inl ⟨rfl,xs,.of e2⟩,l ρ σ W _ at_.rl h _ fun d v W1 s1 i1 ⟨es,ed,hl,q1⟩=>?_⟩
 subst ed
 obtain ⟨c,zs,rfl,hc,ic⟩:=is_lst.mp i1
 have a1:=at_.step s1
 have hg1:W1.g b=none:=s1.n b (by rw [e2]; intro z; cases z) e3
 refine ⟨b,c,xs,zs,rfl,rfl,s1.h _ _ e2,W1.sub _ _ hc,by rw [← e5.length,← ic.length]; exact Nat.le_trans hl (by decide),?_⟩
 exact s.nx _ _ _ (a1.put ei e1 hg1 e4 ((e5.mono s1).append ic)) q1
def Re:Dt→Bool
 | .tup ds=>ds.all pW
 | d=>pW d
theorem pV {K:PySem.W.Frag} {G G':Hp}:∀ {ds:List Dt} {vs:List V},ds.all pW=true→AllIs K G ds vs→AllIs K G' ds vs
 | [],_,_,h=>allIs_nil.mpr (allIs_nil.mp h)
 | d::ds,_,z,h=>by
  obtain ⟨x,r,rfl,h1,h2⟩:=allIs_cons.mp h
  rw [List.all_cons,Bool.and_eq_true] at z
  exact allIs_cons.mpr ⟨x,r,rfl,mP z.1 h1,pV z.2 h2⟩
def SE (t:DTE):DTE:=fun ρ Q=>t (ρ.map fz) fun d=>Re d=true∧Q d
theorem lw (h:DE X e t):DE X e (SE t):=by
 obtain ⟨te,p,l⟩:=h
 refine ⟨te,p,fun ρ σ H Q r hq R k=>?_⟩
 obtain ⟨W',e,sg,r',gl⟩:=r.bor
 have:=l (ρ.map fz) σ W' _ r' hq R fun d v H1 s1 i1 ⟨hs,q1⟩=>by
  obtain ⟨H2,e2,_,s2⟩:=fW e s1 sg
  cases d with
  | tup ds=>
   obtain ⟨p,xs,rfl,hp,ia⟩:=is_tup.mp i1
   have sub:Same (upd H.g p (.tup xs)) H1.h:=fun b o q=>by
    by_cases hb:b=p
    ·subst hb; rw [zw] at q; rw [← Option.some.inj q]; exact H1.sub _ _ hp
    ·rw [zu hb] at q; exact H1.sub _ _ (s1.g _ _ (sg _ _ q))
   have le:Le H ⟨upd H.g p (.tup xs),H1.h,sub⟩:=⟨fun b o q=>by
     show upd H.g p (.tup xs) b=some o
     by_cases hb:b=p
     ·subst hb
      rw [zw]
      have:=s1.g _ _ (sg _ _ q)
      rw [hp] at this
      exact this
     ·rw [zu hb]; exact q,e ▸ s1.h,fun b z1 z2=>by
     show upd H.g p (.tup xs) b=none
     have hb:b≠p:=fun hb=>by
      subst hb
      cases hw:W'.g b with
      | none=>
       have:=s1.n b (by rw [e]; exact z1) hw
       rw [hp] at this
       cases this
      | some o=>
       rcases gl b o hw with z | ⟨ys,rfl⟩
       ·rw [z2] at z; cases z
       ·have:=s1.g _ _ hw
        rw [hp] at this
        cases this
     rw [zu hb]; exact z2⟩
   exact k (.tup ds) (.ref p) ⟨upd H.g p (.tup xs),H1.h,sub⟩ le (is_tup.mpr ⟨p,xs,rfl,zw,pV hs ia⟩) q1
  | _=>
   rw [← e2]
   first | (refine k _ v H2 s2 (mP ?_ i1) q1; exact hs) | cases hs
 rw [e] at this
 exact this
end
end OD
namespace OD
variable {Z:Hp}
open PySem PySem.Spec PyProof.Rows L2
section
variable {X:Cx} {tg:Expr}
variable {a b c:Expr} {ta:DTA} {p0 pos1:Pos}
end
end OD
namespace L2
open PySem PySem.Spec PyProof.Rows
section
variable {X:Cx}
end
end L2
namespace OD
variable {Z:Hp}
open PySem PySem.Spec PyProof.Rows L2
abbrev DTB:=Prop→(Addr→Prop)→DS→Prop
section
variable {X:Cx} {e:Expr} {es:List Expr} {t:DTA} {n:Nat} {x y m:Str} {j:Nat} {S:yp} {p pos py hpos epos tpos:Pos} {fr:Fr} {th:DTS} {c:Value} {b₀:Stmt} {suite body:List Stmt} {d:DTB}
end
end OD
namespace OD
open PySem L2
variable {X:Cx} {e:Expr} {t:DTE}
end OD
namespace OD
open PySem L2 PyProof.Rows
section
variable {Z F:Hp} {K:PySem.W.Frag} {W W' W0:Vw} {G:Hp} {ρ:DS} {σ:L2.St}
theorem jb {α:Type} {l:List α} {x y:α} {i:Nat} (q:(l++[x])[i]? = some y):l[i]? = some y∨(i=l.length∧x=y):=by
 rcases Nat.lt_trichotomy i l.length with h | h | h
 ·rw [List.getElem?_append_left h] at q; exact .inl q
 ·subst h
  rw [List.getElem?_append_right (Nat.le_refl _),Nat.sub_self] at q
  exact .inr ⟨rfl,Option.some.inj q⟩
 ·rw [List.getElem?_eq_none (by rw [List.length_append]; show l.length+1≤i; omega)] at q
  cases q
theorem sW {α:Type} {l:List α} {y:α} {i:Nat} (q:l[i]? = some y):i<l.length:=by
 rcases Nat.lt_or_ge i l.length with h | h
 ·exact h
 ·rw [List.getElem?_eq_none h] at q; cases q
theorem xY {α:Type} {l:List α} {x y:α} {i:Nat} (q:l[i]? = some y):(l++[x])[i]? = some y:=by rw [List.getElem?_append_left (sW q)]; exact q
theorem mL {α:Type} {l:List α} {x:α} {i:Nat} (h:i<l.length):(l++[x])[i]? = l[i]?:=List.getElem?_append_left h
theorem Rl.push (r:Rl K Z F W ρ σ):Rl K Z F W (ρ++[Sl.none]) (σ++[none]):=by
 have hs:∀ i y,ρ[i]? = some y→(σ++[none])[i]? = σ[i]?:=fun i y q=>mL (by rw [← r.len]; exact sW q)
 have cl:∀ i y,(ρ++[Sl.none])[i]? = some y→y≠Sl.none→ρ[i]? = some y:=fun i y q hy=>by
  rcases jb q with q | ⟨_,e⟩
  ·exact q
  ·exact absurd e.symm hy
 refine ⟨by rw [List.length_append,List.length_append,r.len]; rfl,fun i d q=>?_,fun i ds q=>?_,fun i k ds es hik q1 q2=>?_,r.fr,r.z,fun i c ds q=>?_⟩
 ·have q:=cl i _ q (fun z=>nomatch z)
  rw [hs i _ q]; exact r.at_ i d q
 ·have q:=cl i _ q (fun z=>nomatch z)
  rw [hs i _ q]; exact r.ow i ds q
 ·have q1:=cl i _ q1 (fun z=>nomatch z)
  have q2:=cl k _ q2 (fun z=>nomatch z)
  rw [hs i _ q1,hs k _ q2]; exact r.ne i k ds es hik q1 q2
 ·have q:=cl i _ q (fun z=>nomatch z)
  obtain ⟨⟨xs,h1,h2⟩,k1,k2⟩:=r.ar i c ds q
  refine ⟨⟨xs,by rw [hs i _ q]; exact h1,h2⟩,fun k es q'=>?_,fun k b es q'=>k2 k b es (cl k _ q' (fun z=>nomatch z))⟩
  have q':=cl k _ q' (fun z=>nomatch z)
  rw [hs k _ q']; exact k1 k es q'
theorem Rl.snocOff {x:Sl} {o:Option V} (r:Rl K Z F W (ρ++[x]) (σ++[o])):Rl K Z F W ρ σ:=by
 have len:ρ.length=σ.length:=by have:=r.len; rw [List.length_append,List.length_append] at this; exact Nat.succ.inj this
 have hs:∀ i y,ρ[i]? = some y→(σ++[o])[i]? = σ[i]?:=fun i y q=>mL (by rw [← len]; exact sW q)
 refine ⟨len,fun i d q=>?_,fun i ds q=>?_,fun i k ds es hik q1 q2=>?_,r.fr,r.z,fun i c ds q=>?_⟩
 ·rw [← hs i _ q]; exact r.at_ i d (xY q)
 ·rw [← hs i _ q]; exact r.ow i ds (xY q)
 ·rw [← hs i _ q1,← hs k _ q2]; exact r.ne i k ds es hik (xY q1) (xY q2)
 ·obtain ⟨⟨xs,h1,h2⟩,k1,k2⟩:=r.ar i c ds (xY q)
  exact ⟨⟨xs,by rw [← hs i _ q]; exact h1,h2⟩,fun k es q'=>by rw [← hs k _ q']; exact k1 k es (xY q'),fun k b es q'=>k2 k b es (xY q')⟩
theorem ja {α:Type} {l:List α} {x y:α} {n:Nat} (h:n=l.length):(l++[x]).set n y=l++[y]:=by
 subst h
 rw [List.set_append_right _ _ (Nat.le_refl _),Nat.sub_self]; rfl
theorem tQ {α:Type} {l:List α} {x:α} {n:Nat} (h:n=l.length):(l++[x])[n]? = some x:=by
 subst h
 rw [List.getElem?_append_right (Nat.le_refl _),Nat.sub_self]; rfl
structure TAt (K:PySem.W.Frag) (Z:Hp) (W0:Vw) (G:Hp) (W:Vw) (ρ:DS) (σ:L2.St) (i:Nat) (es:List Dt) (d:Dt):Prop where
 ex:∃ p q v,At K Z W0 G W (ρ++[.own es]) (σ++[some (.ref p)])∧σ[i]? = some (some (.ref q))∧W.g q=some (.tup [.ref p,v])∧Is K W.g d v
variable {i:Nat} {es:List Dt} {d:Dt}
theorem TAt.step (t:TAt K Z W0 G W ρ σ i es d) (s:Le W W'):TAt K Z W0 G W' ρ σ i es d:=
 let ⟨p,q,v,a,h1,h2,h3⟩:=t.ex; ⟨p,q,v,a.step s,h1,s.g _ _ h2,h3.mono s⟩
theorem TAt.off (t:TAt K Z W0 G W ρ σ i es d):At K Z W0 G W ρ σ:=let ⟨_,_,_,a,_⟩:=t.ex; ⟨a.le,a.gs,a.rl.snocOff⟩
theorem TAt.bor (t:TAt K Z W0 G W ρ σ i es d):∃ W':Vw,W'.h=W.h∧Same W.g W'.g∧Rl K Z W0.h W' ((ρ.set i (.some (.tup [.lst es,d]))).map fz) σ:=by
 obtain ⟨p,q,v,a,h1,h2,h3⟩:=t.ex
 have len:ρ.length=σ.length:=by have:=a.rl.len; rw [List.length_append,List.length_append] at this; exact Nat.succ.inj this
 obtain ⟨b,xs,e1,e2,e3,e4,e5⟩:=a.rl.ow ρ.length es (tQ rfl)
 rw [tQ len] at e1
 cases e1
 have r1:=a.rl.frz (tQ rfl) (tQ len) e2 e3 e5
 rw [ja rfl] at r1
 have sg:Same W.g (W.frz p _ e2).g:=zN e3 _
 have r2:=r1.snocOff.set (d:=.tup [.lst es,d]) (v:=.ref q) i (is_tup.mpr ⟨q,_,rfl,sg _ _ h2,allIs_cons.mpr ⟨_,_,rfl,is_lst.mpr ⟨p,xs,rfl,zw,AllIs.mono0 sg e5⟩,allIs_cons.mpr ⟨v,_,rfl,Is.mono0 sg h3,allIs_nil.mpr rfl⟩⟩⟩)
 have es:σ.set i (some (.ref q))=σ:=by
  apply List.ext_getElem?
  intro j
  by_cases hj:i=j
  ·subst hj; rw [List.getElem?_set_self (sW h1)]; exact h1.symm
  ·rw [List.getElem?_set_ne hj]
 rw [es] at r2
 obtain ⟨W',f1,f2,f3,_⟩:=r2.bor
 exact ⟨W',f1,sg.trans f2,f3⟩
abbrev DTG:=List Dt→Dt→DTS
end
section
variable {X:Cx} {fr:Fr} {st:Stmt} {yX:List Stmt} {t:DTE} {u:DTS} {ug:DTG} {e:Expr} {te:DTE} {pos p0 p1 p2 p3 pos':Pos} {i j:Nat} {x y:Str}
end
end OD
namespace OD
open PySem L2
section
variable {js:List Nat} {ta te:DTE} {X:Cx} {e:Expr} {fr:Fr} {st:Stmt} {i:Nat}
theorem each_t {s:DS} {P R:Prop}:(rd s fun b=>if b=true then P else R)=P:=by show (if true=true then P else R)=P; rw [if_pos rfl]
theorem ZB {e:Dt} {s:List Dt→DS} {P R:List Dt→Prop} (h:∃ as,kM e as∧rd (s as) fun b=>if b=true then P as else R as):P [e]:=by
 obtain ⟨as,z,h⟩:=h
 cases z
 exact each_t.mp h
theorem fS:fN js ta te=vL js (Ua ta) kM rd te:=funext fun ρ=>funext fun Q=>congrArg (ta ρ) (funext fun d=>propext
 ⟨fun ⟨m,Pv,h1,h2,h3,h4,h5,h6⟩=>⟨m,h1,h2,h3,Pv,h4,fun i e es hi he hp=>⟨_,rfl,each_t.mpr (he ▸ h5 i es hi hp)⟩,h6⟩,
  fun ⟨m,h1,h2,h3,Pv,h4,h5,h6⟩=>⟨m,Pv,h1,h2,h3,h4,fun i es hi hp=>ZB (h5 i _ es hi rfl hp),h6⟩⟩)
theorem fU:lx js ta te=vL js (fM ta) kM rd te:=funext fun ρ=>funext fun Q=>congrArg (ta ρ) (funext fun d=>propext
 ⟨fun ⟨ds,Pv,h1,h3,h4,h5,h6⟩=>⟨ds,h1,h3,Pv,h4,fun i e es _ he hp=>⟨_,rfl,each_t.mpr (h5 i e es he hp)⟩,h6⟩,
  fun ⟨ds,h1,h3,Pv,h4,h5,h6⟩=>⟨ds,Pv,h1,h3,h4,fun i e es he hp=>ZB (h5 i e es (sW he) he hp),h6⟩⟩)
theorem SM (h:DF X e (vL js (Ua ta) kM rd te)):DF X e (fN js ta te):=fS ▸ h
theorem SN (h:DF X e (vL js (fM ta) kM rd te)):DF X e (lx js ta te):=fU ▸ h
end
end OD
namespace L2
open PySem PySem.Spec PyProof.Rows
section
variable {X:Cx} {o e:Expr} {es:List Expr} {n:Nat} {m x:Str} {pos p apos py epos:Pos} {i:Nat}
end
end L2
namespace OD
variable {Z:Hp}
open PySem PySem.Spec PyProof.Rows L2
structure MOkX (P:Program) (w:World) (K:PySem.W.Frag) (mg:Str→Option Value) (base:Heap) (n:Nat) (C:Addr) (m:Str) (S:yp):Prop where
 cl:Cls K C
 ex:∃ f fd ps,eO K C m f∧Binds K fd ps []∧FnOk P w K mg base (CX1 P w) n f fd ps (xD K S)
theorem MOkX.mono {P:Program} {w:World} {K:PySem.W.Frag} {mg:Str→Option Value} {base:Heap} {C:Addr} {x:Str} {m n:Nat} {S:yp} (h:MOkX P w K mg base m C x S) (hl:m≤n):MOkX P w K mg base n C x S:=
 let ⟨f,fd,ps,a,b,c⟩:=h.ex; ⟨h.cl,f,fd,ps,a,b,c.mono hl⟩
abbrev DTC:=(DS→Prop)→(Addr→Prop)→DS→Prop
section
variable {X:Cx} {o e:Expr} {es:List Expr} {t:DTA} {ta:DTE} {n:Nat} {x y m z:Str} {i j:Nat} {S:yp} {p pos py hpos epos tpos apos:Pos} {fr:Fr} {th:DTS} {c:Value} {b₀:Stmt} {suite body:List Stmt} {d:DTC}
end
end OD
namespace OD
variable {Z:Hp}
open PySem PySem.Spec PyProof.Rows L2
section
variable {X:Cx} {a b:Expr} {ta:DTA} {te:DTE} {p0 pos pos1 tpos:Pos} {elts:List Expr} {x1:Nat}
end
end OD
namespace OD
open PySem L2 PyProof.Rows
def SY (K:PySem.W.Frag) (S:DSp):Sp:=fun vs H Q _=>∃ (W:Vw) (d0:Dt) (es0 ds:List Dt) (Qd:Dt→Prop) (v0:V) (a:Addr) (xs vs':List V) (hg:W.g a=none),W.h=H∧vs=v0::.ref a::vs'∧W.h a=some (.lst xs)∧Is K W.g d0 v0∧AllIs K W.g es0 xs∧AllIs K W.g ds vs'∧S (d0::.lst es0::ds) Qd∧
 ∀ es p ys W',Le (W.del a hg) W'→(W.del a hg).h p=none→W'.h p=some (.lst ys)→W'.g p=none→AllIs K W'.g es ys→Qd (.lst es)→Q (.ref p) W'.h
structure VOk (P:Program) (w:World) (K:PySem.W.Frag) (mg:Str→Option Value) (base:Heap) (n:Nat) (x:Str) (S:DSp):Prop where
 ex:∃ f fd ps,mg x=some (.ref f)∧PySem.W.keepIn K (.ref f)=true∧Binds K fd ps []∧FnOk P w K mg base CX0 n f fd ps (SY K S)
section
variable {P:Program} {w:World} {K:PySem.W.Frag} {mg:Str→Option Value} {base:Heap}
theorem VOk.mk' {x qual:Str} {st:Stmt} {f:Addr} {fd:FuncData} {ps:List Str} {n:Nat} {S:DSp} (F:Fun K x qual st f fd) (hm:mg x=some (.ref f)) (hb:Binds K fd ps []) (h:FnOk P w K mg base CX0 n f fd ps (SY K S)):VOk P w K mg base n x S:=
 ⟨f,fd,ps,hm,F.kp,hb,h⟩
end
section
variable {X:Cx} {e0 e1:Expr} {es:List Expr} {t tf:DTE} {ta:DTA} {n:Nat} {x:Str} {S:DSp} {p pos:Pos}
end
end OD
namespace L2
open PySem PySem.Spec PyProof.Rows
section
variable {X:Cx} {a b:Expr} {ta tb:TE} {x1 x2:Str} {p1 p2 p3 p4 pos:Pos}
end
end L2
namespace OD
open PySem PySem.Spec PyProof.Rows L2
section
variable {X:Cx} {a b:Expr} {ta tb:DTE} {x1 x2:Str} {p1 p2 p3 p4 pos:Pos}
end
section
variable {X:Cx} {e:Expr} {es:List Expr} {t:DTA} {n:Nat} {x:Str} {p pos:Pos}
end
section
variable {P:Program} {w:World} {K:PySem.W.Frag} {mg:Str→Option Value} {base:Heap}
end
end OD
namespace OD
variable {Z:Hp}
open PySem PySem.Spec PyProof.Rows L2
section
variable {X:Cx} {tg:Expr}
variable {a b c:Expr} {ta:DTA} {p0 pos1:Pos}
end
end OD
namespace L2
open PySem PySem.Spec PyProof.Rows
section
variable {prog:Program} {w:World} {A:Around} {E:Value→Shared→Prop} {s:Shared}
end
section
variable {X:Cx} {pos:Pos}
end
end L2
namespace OD
open PySem PySem.Spec PyProof.Rows L2
section
variable {X:Cx} {fr:Fr} {e:Expr} {te:DTE} {pos:Pos}
end
end OD
namespace My
open PySem L2 OD
local macro_rules | `(tactic| walk_at "sc") => `(tactic| exact ⟨rfl, rfl, rfl, by decide +kernel, rfl, by decide +kernel, by decide +kernel⟩)
local macro_rules | `(tactic| walk_at "ln") => `(tactic| (intros; rename_i h; repeat (first | (obtain ⟨e, _⟩ := h; subst e; rfl) | obtain ⟨_, h⟩ := h)))
local macro_rules | `(tactic| walk_at "rd1") => `(tactic| first | refine ⟨_, rfl, ?_⟩ | refine ⟨_, _, rfl, rfl, ?_⟩ | refine ⟨_, _, _, _, rfl, rfl, rfl, ?_⟩ | refine ⟨_, _, _, rfl, rfl, rfl, ?_⟩ | refine Ry ?_ | refine RA ?_ | refine ⟨rfl, rfl, ?_⟩ | refine ⟨rfl, ?_⟩ | refine ⟨lz (by decide), ?_⟩ | refine ⟨ly (by decide), ?_⟩ | refine ⟨SJ (by decide), ?_⟩ | refine ⟨TW (by decide), ?_⟩ | refine ⟨VI (by decide), ?_⟩ | refine ⟨_, _, rfl, ?_⟩)
local macro_rules | `(tactic| walk_at "rd") => `(tactic| repeat (walk_at "rd1"))
theorem ifT {b:Bool} {A B:Prop} (e:b=true) (h:A):if b=true then A else B:=by rw [if_pos e]; exact h
theorem ifF {b:Bool} {A B:Prop} (e:b=false) (h:B):if b=true then A else B:=by rw [if_neg (by rw [e]; exact Bool.false_ne_true)]; exact h
theorem ifB {b:Bool} {A B:Prop} (h1:b=true→A) (h2:b=false→B):if b=true then A else B:=by
 cases b with
 | true=>exact ifT rfl (h1 rfl)
 | false=>exact ifF rfl (h2 rfl)
theorem eqI {a b:Int} (h:a=b):eqD (.int a) (.int b)=true:=by rw [yS]; exact beq_iff_eq.mpr h
theorem neI {a b:Int} (h:a≠b):eqD (.int a) (.int b)=false:=by rw [yS]; exact beq_eq_false_iff_ne.mpr h
theorem qS {a b:Int} (h:eqD (.int a) (.int b)=true):a=b:=by rw [yS] at h; exact beq_iff_eq.mp h
theorem qR {a b:Int} (h:eqD (.int a) (.int b)=false):a≠b:=by rw [yS] at h; exact beq_eq_false_iff_ne.mp h
theorem nT {b:Bool} (h:b=true):(!b)=false:=by rw [h]; rfl
theorem nF {b:Bool} (h:b=false):(!b)=true:=by rw [h]; rfl
theorem UW {b:Bool} (h:(!b)=true):b=false:=by cases b <;> first | rfl | cases h
theorem UX {b:Bool} (h:(!b)=false):b=true:=by cases b <;> first | rfl | cases h
def zt (ns:List Int):Dt:=.lst (ns.map Dt.int)
def trim (ns:List Int):List Int:=(ns.reverse.dropWhile (· == 0)).reverse
def eN:DSp:=fun ds Q=>∃ ns k,ds=[.scr ns,.int k]∧0≤k∧∀ z:Int,Q (.int z)
def lH:DSp:=fun ds Q=>∃ ns:List Int,ds=[.scr ns]∧ns.length≤63∧Q (.bl true)
theorem uj {xs:List Int} {k:Int} (h0:0≤k) (h:k<xs.length):atI (xs.map Dt.int) k=some (.int (xs.getD k.toNat 0)):=by
 have e:((k.toNat:Nat):Int)=k:=Int.toNat_of_nonneg h0
 have hl:k.toNat<xs.length:=by omega
 have:=wx (j:=k.toNat) (xs:=xs.map Dt.int) (v:=.int (xs.getD k.toNat 0)) (by
  rw [List.getElem?_map,List.getElem?_eq_getElem hl,List.getD_eq_getElem?_getD,List.getElem?_eq_getElem hl]
  rfl)
 rwa [e] at this
theorem sE {ns:List Int} {i:Nat} (h:i<ns.length):atI (ns.map Dt.int) (i:Int)=some (.int (ns.getD i 0)):=by
 refine wx ?_
 rw [List.getElem?_map,List.getElem?_eq_getElem h,List.getD_eq_getElem?_getD,List.getElem?_eq_getElem h]
 rfl
theorem aL {n:Nat} {k:Int} (h0:0≤k) (h:k<n):ixN n k=some k.toNat:=by
 unfold ixN
 rw [if_pos h0,if_pos h]
theorem gR {n:Nat} (h:0<n):ixN n (-1)=some (n - 1):=by
 unfold ixN
 rw [if_neg (by decide),if_pos (by omega)]
 congr 1
 omega
theorem uk {xs:List Int} {z:Int}:atI ((xs++[z]).map Dt.int) (-1)=some (.int z):=by
 unfold atI
 rw [gR (by rw [List.length_map,List.length_append]; exact Nat.succ_pos _)]
 show ((xs++[z]).map Dt.int)[((xs++[z]).map Dt.int).length - 1]? = _
 rw [List.length_map,List.length_append,List.map_append,List.getElem?_append_right (by rw [List.length_map]; exact Nat.le_of_eq (Nat.add_sub_cancel ..).symm)]
 rw [List.length_map,show xs.length+[z].length - 1 - xs.length=0 by simp]
 rfl
theorem fZ {ns:List Int} {n:Nat}:(ns.map Dt.int).all (okE n)=true:=by
 rw [List.all_eq_true]
 intro x hx
 obtain ⟨z,_,e⟩:=List.mem_map.mp hx
 subst e
 cases n <;> rfl
theorem mV (ns:List Int):okE 40 (zt ns)=true:=fZ (n:=39)
theorem ot (ns:List Int):okE 39 (zt ns)=true:=fZ (n:=38)
theorem qd:∀ xs ys:List Int,xR (xs.map Dt.int) (ys.map Dt.int)=decide (xs=ys)
 | [],[]=>by rw [List.map_nil,wY]; rfl
 | [],y::ys=>by rw [List.map_nil,List.map_cons,vw]; rfl
 | x::xs,[]=>by rw [List.map_nil,List.map_cons,vx]; rfl
 | x::xs,y::ys=>by
  rw [List.map_cons,List.map_cons,xi,yS,qd xs ys]
  by_cases h1:x=y
  ·subst h1
   by_cases h2:xs=ys
   ·subst h2; simp
   ·simp [h2]
  ·simp [h1]
theorem fg (xs ys:List Int):eqD (zt xs) (zt ys)=decide (xs=ys):=by unfold zt; rw [uc,qd]
theorem fP (ms:List Int) (lo hi:Option Int):∃ ms':List Int,ph (ms.map Dt.int) lo hi=ms'.map Dt.int∧ms'.length≤ms.length∧∀ z∈ms',z∈ms:=by
 unfold ph
 rw [← List.map_drop,← List.map_take]
 refine ⟨_,rfl,?_,fun t ht=>List.mem_of_mem_drop (List.mem_of_mem_take ht)⟩
 rw [List.length_take,List.length_drop]
 omega
theorem g7 {ns:List Int} {i:Nat} {x:Dt} (h:(ns.map Dt.int)[i]? = some x):x=.int (ns.getD i 0)∧i<ns.length:=by
 rw [List.getElem?_map] at h
 cases q:ns[i]? with
 | none=>rw [q] at h; cases h
 | some z=>
  rw [q] at h
  have hl:i<ns.length:=by
   rcases Nat.lt_or_ge i ns.length with h | h
   ·exact h
   ·rw [List.getElem?_eq_none h] at q; cases q
  rw [List.getD_eq_getElem?_getD,q]
  exact ⟨(Option.some.inj h).symm,hl⟩
theorem ul (xs:List Int) (z:Int):xs.map Dt.int++[.int z]=(xs++[z]).map Dt.int:=by rw [List.map_append]; rfl
theorem oX (xs ys:List Int):xs.map Dt.int++ys.map Dt.int=(xs++ys).map Dt.int:=by rw [List.map_append]
theorem pT (xs:List Int) (j:Nat) (z:Int):(xs.map Dt.int).set j (.int z)=(xs.set j z).map Dt.int:=by rw [List.map_set]
theorem qe (xs:List Int):(xs.map Dt.int).dropLast=xs.dropLast.map Dt.int:=by rw [List.map_dropLast]
theorem zD (xs:List Int):(xs.map Dt.int).length=xs.length:=List.length_map _
theorem pN:trim []=[]:=rfl
theorem xN (xs:List Int):trim (xs++[0])=trim xs:=by
 unfold trim
 rw [List.reverse_append]
 rfl
theorem vQ {xs:List Int} {z:Int} (h:z≠0):trim (xs++[z])=xs++[z]:=by
 unfold trim
 rw [List.reverse_append]
 show (List.dropWhile _ (z::xs.reverse)).reverse=_
 rw [List.dropWhile_cons,if_neg (by simpa using h),List.reverse_cons,List.reverse_reverse]
theorem zP (xs:List Int):xs=[]∨∃ l z,xs=l++[z]:=by
 rcases List.eq_nil_or_concat xs with h | ⟨l,z,h⟩
 ·exact .inl h
 ·exact .inr ⟨l,z,by rw [h,List.concat_eq_append]⟩
theorem vR (xs:List Int):(trim xs).length≤xs.length:=by
 unfold trim
 rw [List.length_reverse]
 refine Nat.le_trans (List.dropWhile_sublist _).length_le ?_
 rw [List.length_reverse]
 exact Nat.le_refl _
theorem o8 {i:Nat} {D:DEnds} {ρ:DS} {ms:List Int} (hi:ρ[i]? = some (.own (ms.map Dt.int))) (q:D.nx (ρ.set i (.own ((trim ms).map Dt.int)))):
  mj (Uk (u9 (dOp (gI fun i j=>Dt.bl (decide (j<i))) (ZO i) (dC (Dt.int 0)))) (u9 (dOp gEq (Uh i (Uf (dC (Dt.int 1)))) (dC (Dt.int 0))))) (Uc i) D ρ:=by
 have hl:i<ρ.length:=by
  rcases Nat.lt_or_ge i ρ.length with h | h
  ·exact h
  ·rw [List.getElem?_eq_none h] at hi; cases hi
 refine ⟨fun m ρ'=>∃ l:List Int,ρ'=ρ.set i (.own (l.map Dt.int))∧l.length=m∧trim l=trim ms,⟨_,ms,?_,rfl,rfl⟩,?_⟩
 ·apply List.ext_getElem?
  intro j
  by_cases hj:i=j
  ·subst hj; rw [List.getElem?_set_self hl]; exact hi
  ·rw [List.getElem?_set_ne hj]
 ·rintro m ρ' ⟨l,rfl,rfl,ht⟩
  have hg:(ρ.set i (.own (l.map Dt.int)))[i]? = some (.own (l.map Dt.int)):=List.getElem?_set_self hl
  refine ⟨_,hg,_,_,rfl,rfl,_,rfl,?_⟩
  rcases zP l with rfl | ⟨l',z,rfl⟩
  ·refine ifF rfl (ifF rfl ?_)
   rw [← ht,pN] at q
   exact q
  ·refine ifT (by rw [decide_eq_true_iff,List.length_map,List.length_append]; simp) ?_
   refine ⟨_,hg,_,rfl,_,_,rfl,uk,rfl,rfl,_,rfl,?_⟩
   by_cases hz:z=0
   ·refine ifT (eqI hz) ?_
    subst hz
    refine ⟨_,hg,by simp,l'.length,by rw [List.length_append]; exact Nat.lt_succ_self _,l',?_,rfl,?_⟩
    ·rw [qe,List.dropLast_concat,List.set_set]
    ·rw [← ht,xN]
   ·refine ifF (neI hz) ?_
    rw [← ht,vQ hz] at q
    exact q
theorem pJ {i:Nat} {D:DEnds} {ρ:DS} {ms:List Int} (hi:ρ[i]? = some (.own (ms.map Dt.int))) (q:D.nx (ρ.set i (.own ((trim ms).map Dt.int)))):
  mj (Uk (ZN i) (u9 (dOp gEq (Uh i (Uf (dC (Dt.int 1)))) (dC (Dt.int 0))))) (Uc i) D ρ:=by
 have hl:i<ρ.length:=by
  rcases Nat.lt_or_ge i ρ.length with h | h
  ·exact h
  ·rw [List.getElem?_eq_none h] at hi; cases hi
 refine ⟨fun m ρ'=>∃ l:List Int,ρ'=ρ.set i (.own (l.map Dt.int))∧l.length=m∧trim l=trim ms,⟨_,ms,?_,rfl,rfl⟩,?_⟩
 ·apply List.ext_getElem?
  intro j
  by_cases hj:i=j
  ·subst hj; rw [List.getElem?_set_self hl]; exact hi
  ·rw [List.getElem?_set_ne hj]
 ·rintro m ρ' ⟨l,rfl,rfl,ht⟩
  have hg:(ρ.set i (.own (l.map Dt.int)))[i]? = some (.own (l.map Dt.int)):=List.getElem?_set_self hl
  refine ⟨_,hg,?_⟩
  rcases zP l with rfl | ⟨l',z,rfl⟩
  ·refine ifF rfl (ifF rfl ?_)
   rw [← ht,pN] at q
   exact q
  ·refine ifT (by simp) ?_
   refine ⟨_,hg,_,rfl,_,_,rfl,uk,rfl,rfl,_,rfl,?_⟩
   by_cases hz:z=0
   ·refine ifT (eqI hz) ?_
    subst hz
    refine ⟨_,hg,by simp,l'.length,by rw [List.length_append]; exact Nat.lt_succ_self _,l',?_,rfl,?_⟩
    ·rw [qe,List.dropLast_concat,List.set_set]
    ·rw [← ht,xN]
   ·refine ifF (neI hz) ?_
    rw [← ht,vQ hz] at q
    exact q
inductive Kd where | plain | below | balanced | growing | falling | pairs
def Kd.num:Kd→Int
 | .plain=>0 | .below=>1 | .balanced=>2 | .growing=>3 | .falling=>4 | .pairs=>5
def Kd.fld:Kd→Str
 | .plain=>"base" | .below=>"base" | .balanced=>"half" | .growing=>"first" | .falling=>"most" | .pairs=>"most"
def Kd.lo:Kd→Int
 | .plain=>2 | .below=>2 | .balanced=>1 | .growing=>2 | .falling=>1 | .pairs=>1
def Kd.hi:Kd→Int
 | .plain=>60 | .below=>60 | .balanced=>30 | .growing=>60 | .falling=>9 | .pairs=>9
def Kd.ok (k:Kd) (n:Int):Prop:=k.lo≤n∧n≤k.hi
def yM:Dt→Option Bool
 | .int _=>some true
 | .bl _=>some false
 | .tup _=>some false
 | .lst _=>some false
 | _=>none
def xg:DSp:=fun ds Q=>∃ d b,ds=[d]∧yM d=some b∧Q (.bl b)
def yQ:DSp:=fun ds Q=>∃ n lo hi,ds=[.int n,.int lo,.int hi]∧lo≤n∧n≤hi∧Q (.int n)
inductive Nm where | i (n:Int) | p (a b:Int)
def Nm.dt:Nm→Dt
 | .i n=>.int n
 | .p a b=>.tup [.int a,.int b]
def Nm.re:Nm→Int
 | .i n=>n
 | .p a _=>a
def Nm.im:Nm→Int
 | .i _=>0
 | .p _ b=>b
def Nm.mul:Nm→Nm→Nm
 | .i a,.i b=>.i (a*b)
 | m,n=>.p (m.re*n.re - m.im*n.im) (m.re*n.im+m.im*n.re)
def Nm.mulOk (m n:Nm):Prop:=IntMulOk m.re n.re∧IntMulOk m.im n.im∧IntMulOk m.re n.im∧IntMulOk m.im n.re
def sQ:Dt→Option Nm
 | .int a=>some (.i a)
 | .tup [.int a,.int b]=>some (.p a b)
 | _=>none
def vo:DSp:=fun ds Q=>∃ d m,ds=[d]∧sQ d=some m∧Q (.tup [.int m.re,.int m.im])
def mB:DSp:=fun ds Q=>∃ d e m n,ds=[d,e]∧sQ d=some m∧sQ e=some n∧m.mulOk n∧Q (m.mul n).dt
theorem yR {d:Dt} {m:Nm} (h:sQ d=some m):d=m.dt:=by
 unfold sQ at h
 split at h
 ·cases h; rfl
 ·cases h; rfl
 ·cases h
theorem wl (m:Nm):sQ m.dt=some m:=by cases m <;> rfl
theorem qQ (m:Nm):okE 40 m.dt=true:=by cases m <;> rfl
theorem small {n:Int} (h0:-1000000≤n) (h1:n≤1000000) (c:Int):IntMulOk c n:=TW (by rw [decide_eq_true_iff]; omega)
theorem ni {n:Int} (h0:-1000000≤n) (h1:n≤1000000) (c:Int):IntMulOk n c:=VI (by rw [decide_eq_true_iff]; omega)
def Kd.four:Kd→Bool
 | .plain=>true | .below=>true | .balanced=>true | .growing=>true | _=>false
def Kd.five:Kd→Bool
 | .falling=>false | _=>true
def Kd.low:Kd→Int→Int→Int
 | .balanced,n,_=>-n
 | _,_,_=>0
def Kd.high:Kd→Int→Int→Int
 | .plain,n,_=>n - 1
 | .below,n,_=>n - 1
 | .balanced,n,_=>n
 | .growing,n,p=>n+p - 1
 | .falling,n,_=>n
 | .pairs,n,_=>n*n
def Kd.rat:Kd→Int→Int→Int
 | .plain,n,_=>n
 | .below,n,_=>-n
 | .balanced,n,_=>2*n+1
 | .growing,n,p=>n+p
 | _,_,_=>0
def Kd.ratN:Kd→Int→Int→Nm
 | .pairs,n,_=>.p (-n) 1
 | k,n,p=>.i (k.rat n p)
def Nm.add:Nm→Nm→Nm
 | .i a,.i b=>.i (a+b)
 | m,n=>.p (m.re+n.re) (m.im+n.im)
def pD:DSp:=fun ds Q=>∃ d e m n,ds=[d,e]∧sQ d=some m∧sQ e=some n∧Q (m.add n).dt
def Kd.zero:Kd→Nm
 | .pairs=>.p 0 0
 | _=>.i 0
def wtF (n:Int):Nat→Int × Int
 | 0=>(1,1)
 | j+1=>((wtF n j).2,n*(wtF n j).2+(wtF n j).1)
def wtR (k:Kd) (n:Int):Nat→Nm
 | 0=>k.zero.add (.i 1)
 | j+1=>(k.ratN n j).mul (wtR k n j)
def wt:Kd→Int→Nat→Nm
 | .falling,n,j=>.i (wtF n j).2
 | k,n,j=>wtR k n j
theorem wT {k:Kd} {n:Int} (h:k.ok n):1≤n∧n≤60:=by
 obtain ⟨h1,h2⟩:=h
 cases k <;> simp only [Kd.lo,Kd.hi] at * <;> omega
theorem Ye {k:Kd} {n p:Int} (h:k.ok n) (p0:0≤p) (p1:p≤1000):-1000000≤(k.ratN n p).re∧(k.ratN n p).re≤1000000∧-1000000≤(k.ratN n p).im∧(k.ratN n p).im≤1000000:=by
 obtain ⟨h1,h2⟩:=wT h
 cases k <;> simp only [Kd.ratN,Kd.rat,Nm.re,Nm.im] <;> omega
def yD (k:Kd) (n:Int) (ns:List Int):Nat→Nm
 | 0=>k.zero
 | j+1=>(yD k n ns j).add ((Nm.i (ns.getD j 0)).mul (wt k n j))
theorem df {ns:List Int} {i:Nat} {x:Dt} (h:(ns.map Dt.int)[i]? = some x):x=.int (ns.getD i 0)∧i<ns.length:=by
 rw [List.getElem?_map] at h
 cases q:ns[i]? with
 | none=>rw [q] at h; cases h
 | some z=>
  rw [q] at h
  have hl:i<ns.length:=by
   rcases Nat.lt_or_ge i ns.length with h | h
   ·exact h
   ·rw [List.getElem?_eq_none h] at q; cases q
  rw [List.getD_eq_getElem?_getD,q]
  exact ⟨(Option.some.inj h).symm,hl⟩
theorem Z1 {n:Int} (h1:1≤n) (h2:n≤60):∀ j:Nat,(wtF n j).1.natAbs<2 ^ (12*j+1)∧(wtF n j).2.natAbs<2 ^ (12*j+1)
 | 0=>⟨(by decide:(1:Int).natAbs<2 ^ 1),(by decide:(1:Int).natAbs<2 ^ 1)⟩
 | j+1=>by
  obtain ⟨a,b⟩:=Z1 h1 h2 j
  have pw:2 ^ (12*(j+1)+1)=2 ^ (12*j+1)*4096:=by rw [show 12*(j+1)+1=(12*j+1)+12 by omega,Nat.pow_add]
  rw [pw]
  unfold wtF
  dsimp only
  generalize 2 ^ (12 * j + 1)=B at *
  have hm:(n*(wtF n j).2).natAbs≤60*(wtF n j).2.natAbs:=by
   rw [Int.natAbs_mul]
   exact Nat.mul_le_mul_right _ (by omega)
  have hs:=Int.natAbs_add_le (n*(wtF n j).2) (wtF n j).1
  exact ⟨by omega,by omega⟩
theorem wt4 {k:Kd} {n:Int} (h:k.four=true):∀ j,∃ w,wtR k n j=.i w
 | 0=>by cases k <;> cases h <;> exact ⟨_,rfl⟩
 | j+1=>by
  obtain ⟨w,e⟩:=wt4 (n:=n) h j
  unfold wtR
  rw [e]
  cases k <;> cases h <;> exact ⟨_,rfl⟩
theorem wt2 {n:Int}:∀ j,∃ x y,wtR .pairs n j=.p x y
 | 0=>⟨_,_,rfl⟩
 | j+1=>by
  obtain ⟨x,y,e⟩:=wt2 (n:=n) j
  unfold wtR
  rw [e]
  exact ⟨_,_,rfl⟩
theorem wtI {k:Kd} {n:Int} (h:k≠.pairs) (j:Nat):∃ w,wt k n j=.i w:=by
 cases k with
 | pairs=>exact absurd rfl h
 | falling=>exact ⟨_,rfl⟩
 | _=>exact wt4 rfl _
def sF (k:Kd) (n:Int) (j:Nat) (t:Nm):Int:=match k with
 | .pairs=>(t.re+n*t.im).fmod (n*n+1)
 | k=>k.low n j+(t.re - k.low n j).fmod (k.high n j - k.low n j+1)
def sC (k:Kd) (n:Int) (j:Nat) (t:Nm):Nm:=match k with
 | .pairs=>.p (((t.re - sF .pairs n j t)*(-n) - t.im*(-1)).fdiv (n*n+1)) (((t.re - sF .pairs n j t)*(-1)+t.im*(-n)).fdiv (n*n+1))
 | k=>.i ((t.re - sF k n j t).fdiv (k.rat n j))
def Nm.ty (k:Kd) (m:Nm):Prop:=match k with
 | .pairs=>∃ a b,m=.p a b
 | _=>∃ a,m=.i a
def tot (k:Kd) (m:Nm):Prop:=k≠.pairs→∃ a,m=.i a
def cAt (k:Kd) (n:Int) (ts:List Nm):Nat→Nm
 | 0=>k.zero
 | j+1=>sC k n j ((cAt k n ts j).add (ts.getD j (.i 0)))
def fAt (k:Kd) (n:Int) (ts:List Nm) (j:Nat):Int:=sF k n j ((cAt k n ts j).add (ts.getD j (.i 0)))
def wE (k:Kd) (n:Int) (ts:List Nm) (j:Nat):List Int:=(List.range j).map (fAt k n ts)
def crs (k:Kd) (n:Int) (ts:List Nm) (j:Nat):List Nm:=(List.range j).map (cAt k n ts)
def wo:Kd→Nm→Bool
 | .below,.i _=>true
 | .balanced,.i _=>true
 | .pairs,.p _ _=>true
 | .pairs,.i _=>false
 | _,.i a=>decide (0≤a)
 | _,.p _ _=>false
structure Fin (k:Kd) (n:Int) (ts:List Nm) (J:Nat):Prop where
 le:ts.length≤J
 z:cAt k n ts J=k.zero
 nz:∀ j,ts.length≤j→j<J→cAt k n ts j≠k.zero∧wo k (cAt k n ts j)=true
def wN (k:Kd) (n:Int) (ts:List Nm):Nat→Nm
 | 0=>k.zero
 | j+1=>(wN k n ts j).add ((ts.getD j (.i 0)).mul (wt k n j))
def wF (k:Kd) (n:Int) (f:Nat→Int):Nat→Nm
 | 0=>k.zero
 | j+1=>(wF k n f j).add ((Nm.i (f j)).mul (wt k n j))
theorem zZ (m n:Nm):(m.add n).re=m.re + n.re:=by cases m <;> cases n <;> simp [Nm.add,Nm.re]
theorem yn (m n:Nm):(m.add n).im=m.im + n.im:=by cases m <;> cases n <;> simp [Nm.add,Nm.im]
theorem zJ (r w:Nm):(r.mul w).re=r.re * w.re - r.im * w.im:=by cases r <;> cases w <;> simp [Nm.mul,Nm.re,Nm.im]
theorem zO (r w:Nm):(r.mul w).im=r.re * w.im + r.im * w.re:=by cases r <;> cases w <;> simp [Nm.mul,Nm.re,Nm.im]
theorem xM {k:Kd} {m:Nm} (h:k≠.pairs) (t:m.ty k):∃ a,m=.i a:=by
 cases k <;> first | exact t | exact absurd rfl h
theorem xW {k:Kd} {a:Int} (h:k≠.pairs):(Nm.i a).ty k:=by
 cases k <;> first | exact ⟨_,rfl⟩ | exact absurd rfl h
theorem y7 (k:Kd):(k.zero).ty k:=by cases k <;> first | exact ⟨_,rfl⟩ | exact ⟨_,_,rfl⟩
theorem zX (k:Kd):(k.zero).re=0:=by cases k <;> rfl
theorem z_ (k:Kd):(k.zero).im=0:=by cases k <;> rfl
theorem wU {k:Kd} {m m':Nm} (t:m.ty k) (t':m'.ty k) (h1:m.re=m'.re) (h2:m.im=m'.im):m=m':=by
 by_cases hk:k=.pairs
 ·subst hk
  obtain ⟨a,b,rfl⟩:=t
  obtain ⟨a',b',rfl⟩:=t'
  simp only [Nm.re,Nm.im] at h1 h2
  rw [h1,h2]
 ·obtain ⟨a,rfl⟩:=xM hk t
  obtain ⟨a',rfl⟩:=xM hk t'
  simp only [Nm.re] at h1
  rw [h1]
theorem Zw (k:Kd) (n:Int) (j:Nat) (t:Nm):(sC k n j t).ty k:=by
 cases k <;> first | exact ⟨_,rfl⟩ | exact ⟨_,_,rfl⟩
theorem xu (k:Kd) (n:Int) (ts:List Nm):∀ j,(cAt k n ts j).ty k
 | 0=>y7 k
 | j+1=>Zw k n j _
theorem w_ {k:Kd} {c t:Nm} (h:c.ty k) (h':tot k t):(c.add t).ty k:=by
 by_cases hk:k=.pairs
 ·subst hk
  obtain ⟨a,b,rfl⟩:=h
  cases t <;> exact ⟨_,_,rfl⟩
 ·obtain ⟨a,rfl⟩:=xM hk h
  obtain ⟨b,rfl⟩:=h' hk
  exact xW hk
theorem yV {k:Kd} {ts:List Nm} (h:∀ t∈ts,tot k t) (j:Nat):tot k (ts.getD j (.i 0)):=by
 rw [List.getD_eq_getElem?_getD]
 cases q:ts[j]? with
 | none=>exact fun _=>⟨0,rfl⟩
 | some t=>exact h t (List.mem_of_getElem? q)
theorem lU {lo t n:Int} (hn:0<n):lo≤lo+(t - lo).fmod n∧lo+(t - lo).fmod n≤lo+n - 1∧(lo+(t - lo).fmod n)+((t - (lo+(t - lo).fmod n)).fdiv n)*n=t:=by
 have h0:=Int.fmod_nonneg_of_pos (t - lo) hn
 have h1:=Int.fmod_lt_of_pos (t - lo) hn
 have e:t - (lo+(t - lo).fmod n)=n*(t - lo).fdiv n:=by
  have:=Int.fmod_def (t - lo) n
  omega
 refine ⟨by omega,by omega,?_⟩
 have d:(t - (lo+(t - lo).fmod n)).fdiv n=(t - lo).fdiv n:=by
  rw [e]
  exact Int.mul_fdiv_cancel_left _ (by omega)
 rw [d,Int.mul_comm]
 omega
theorem lV {lo t n:Int} (hn:0<n):lo≤lo+(t - lo).fmod n∧lo+(t - lo).fmod n≤lo+n - 1∧(lo+(t - lo).fmod n)+((t - (lo+(t - lo).fmod n)).fdiv (-n))*(-n)=t:=by
 have h0:=Int.fmod_nonneg_of_pos (t - lo) hn
 have h1:=Int.fmod_lt_of_pos (t - lo) hn
 have e:t - (lo+(t - lo).fmod n)=(-n)*(-((t - lo).fdiv n)):=by
  have:=Int.fmod_def (t - lo) n
  rw [Int.neg_mul_neg]
  omega
 refine ⟨by omega,by omega,?_⟩
 have d:(t - (lo+(t - lo).fmod n)).fdiv (-n)=-((t - lo).fdiv n):=by
  rw [e]
  exact Int.mul_fdiv_cancel_left _ (by omega)
 rw [d,Int.neg_mul_neg,Int.mul_comm]
 have:=Int.fmod_def (t - lo) n
 omega
theorem sf {a b m:Int} (N:Int) (hN:N=m*m+1) (f:Int) (hf:f=(a+m*b).fmod N) (t0 t1:Int) (h0:t0=(a - f)*(-m) - b*(-1)) (h1:t1=(a - f)*(-1)+b*(-m)):
  0≤f∧f≤m*m∧f - m*(t0.fdiv N) - t1.fdiv N=a∧t0.fdiv N - m*(t1.fdiv N)=b:=by
 have sq:0≤m*m:=by
  rcases Int.le_total 0 m with h | h
  ·exact Int.mul_nonneg h h
  ·exact Int.mul_nonneg_of_nonpos_of_nonpos h h
 have hp:0<N:=by omega
 have g0:=Int.fmod_nonneg_of_pos (a+m*b) hp
 have g1:=Int.fmod_lt_of_pos (a+m*b) hp
 have e:=Int.fmod_def (a+m*b) N
 rw [← hf] at e g0 g1
 generalize (a+m*b).fdiv N=q at e
 have e0:t0=N*(b - m*q):=by subst hN; grind
 have e1:t1=N*(-q):=by subst hN; grind
 have d0:t0.fdiv N=b - m*q:=by rw [e0]; exact Int.mul_fdiv_cancel_left _ (by omega)
 have d1:t1.fdiv N=-q:=by rw [e1]; exact Int.mul_fdiv_cancel_left _ (by omega)
 rw [d0,d1]
 refine ⟨g0,by omega,?_,?_⟩ <;> subst hN <;> grind
def Kd.size:Kd→Int→Int→Int
 | .plain,n,_=>n
 | .below,n,_=>n
 | .balanced,n,_=>2*n+1
 | .growing,n,p=>n+p
 | _,_,_=>0
theorem q8 {k:Kd} (h5:k.five=true) (hk:k≠.pairs):k.four=true:=by
 cases k <;> first | rfl | exact absurd rfl hk | cases h5
theorem qx {k:Kd} (h:k.four=true) (n p:Int):k.high n p - k.low n p+1=k.size n p∧(k.rat n p=k.size n p∨k.rat n p=-(k.size n p)):=by
 cases k <;> cases h <;> simp only [Kd.high,Kd.low,Kd.size,Kd.rat] <;> refine ⟨by omega,?_⟩ <;> first | exact .inl rfl | exact .inr rfl | exact .inr trivial | exact .inl trivial
theorem sk {k:Kd} {n:Int} (h:k.four=true) (hn:k.ok n) (j:Nat):2≤k.size n j:=by
 obtain ⟨h1,h2⟩:=hn
 cases k <;> cases h <;> simp only [Kd.lo,Kd.hi,Kd.size] at * <;> omega
theorem vS {k:Kd} {n:Int} {j:Nat} {t:Nm} (h5:k.five=true) (hn:k.ok n) (ht:t.ty k):
  k.low n j≤sF k n j t∧sF k n j t≤k.high n j∧t.re=sF k n j t+((k.ratN n j).mul (sC k n j t)).re∧t.im=((k.ratN n j).mul (sC k n j t)).im:=by
 by_cases hk:k=.pairs
 ·subst hk
  obtain ⟨g1,g2,g3,g4⟩:=sf (a:=t.re) (b:=t.im) (m:=n) (n*n+1) rfl _ rfl _ _ rfl rfl
  refine ⟨g1,g2,?_,?_⟩
  ·rw [zJ]
   show t.re=_+(-n*_ - 1*_)
   unfold sC sF Nm.re Nm.im at *
   dsimp only at *
   grind
  ·rw [zO]
   show t.im=(-n*_+1*_)
   unfold sC sF Nm.re Nm.im at *
   dsimp only at *
   grind
 ·have h4:=q8 h5 hk
  obtain ⟨e1,e2⟩:=qx h4 n j
  have hp:=sk h4 hn j
  obtain ⟨a,rfl⟩:=xM hk ht
  have eF:sF k n j (.i a)=k.low n j + (a - k.low n j).fmod (k.size n j):=by rw [← e1]; cases k <;> first | rfl | exact absurd rfl hk
  have eC:sC k n j (.i a)=.i ((a - sF k n j (.i a)).fdiv (k.rat n j)):=by cases k <;> first | rfl | exact absurd rfl hk
  have eR:k.ratN n j=.i (k.rat n j):=by cases k <;> first | rfl | exact absurd rfl hk
  have s1:=lU (lo:=k.low n j) (t:=a) (n:=k.size n j) (by omega)
  have s2:=lV (lo:=k.low n j) (t:=a) (n:=k.size n j) (by omega)
  rw [eC,eR,eF]
  refine ⟨s1.1,by have:=s1.2.1; omega,?_,rfl⟩
  show a=_+k.rat n j*_
  rw [Int.mul_comm (k.rat n j)]
  rcases e2 with e | e
  ·rw [e]; exact s1.2.2.symm
  ·rw [e]; exact s2.2.2.symm
theorem xV {k:Kd} {n:Int} (h5:k.five=true) (j:Nat):wt k n (j+1)=(k.ratN n j).mul (wt k n j):=by
 cases k <;> first | rfl | cases h5
theorem lR {T1 T2 F1 F2 w1 w2 c1 c2 t1 t2 f r1 r2 d1 d2:Int} (h1:T1=F1+(w1*c1 - w2*c2)) (h2:T2=F2+(w1*c2+w2*c1)) (s1:c1+t1=f+(r1*d1 - r2*d2)) (s2:c2+t2=r1*d2+r2*d1):
  T1+(t1*w1 - t2*w2)=F1+(f*w1 - 0*w2)+((r1*w1 - r2*w2)*d1 - (r1*w2+r2*w1)*d2)∧T2+(t1*w2+t2*w1)=F2+(f*w2+0*w1)+((r1*w1 - r2*w2)*d2+(r1*w2+r2*w1)*d1):=by
 have e1:c1=f+(r1*d1 - r2*d2) - t1:=by omega
 have e2:c2=r1*d2+r2*d1 - t2:=by omega
 subst e1 e2 h1 h2
 constructor <;> grind
theorem Z6 {k:Kd} {n:Int} {ts:List Nm} (h5:k.five=true) (hn:k.ok n) (ht:∀ t∈ts,tot k t):∀ j,
  (wN k n ts j).re=(wF k n (fAt k n ts) j).re+((wt k n j).mul (cAt k n ts j)).re∧(wN k n ts j).im=(wF k n (fAt k n ts) j).im+((wt k n j).mul (cAt k n ts j)).im
 | 0=>by
  unfold wN wF cAt
  rw [zJ,zO,zX,z_]
  constructor <;> grind
 | j+1=>by
  obtain ⟨i1,i2⟩:=Z6 h5 hn ht j
  obtain ⟨_,_,s1,s2⟩:=vS (j:=j) h5 hn (w_ (xu k n ts j) (yV ht j))
  have ec:cAt k n ts (j+1)=sC k n j ((cAt k n ts j).add (ts.getD j (.i 0))):=rfl
  have ef:fAt k n ts j=sF k n j ((cAt k n ts j).add (ts.getD j (.i 0))):=rfl
  rw [← ec,← ef] at s1
  rw [← ec] at s2
  rw [zZ] at s1
  rw [yn] at s2
  have e1:(wN k n ts (j+1))=(wN k n ts j).add ((ts.getD j (.i 0)).mul (wt k n j)):=rfl
  have e2:(wF k n (fAt k n ts) (j+1))=(wF k n (fAt k n ts) j).add ((Nm.i (fAt k n ts j)).mul (wt k n j)):=rfl
  rw [e1,e2,xV h5]
  rw [zJ] at s1
  rw [zO] at s2
  rw [zJ] at i1
  rw [zO] at i2
  have R:=lR i1 i2 s1 s2
  simp only [zJ,zO,zZ,yn]
  exact R
theorem SO {k:Kd} {c:Nm} (h:c.ty k):c.add (.i 0)=c:=by
 by_cases hk:k=.pairs
 ·subst hk
  obtain ⟨a,b,rfl⟩:=h
  show Nm.p (a+0) (b+0)=_
  rw [Int.add_zero,Int.add_zero]
 ·obtain ⟨a,rfl⟩:=xM hk h
  show Nm.i (a+0)=_
  rw [Int.add_zero]
theorem Zh {k:Kd} {n:Int} {ts:List Nm} {j:Nat} (h:ts.length≤j):cAt k n ts (j+1)=sC k n j (cAt k n ts j):=by
 have e:ts.getD j (.i 0)=.i 0:=by rw [List.getD_eq_getElem?_getD,List.getElem?_eq_none h]; rfl
 show sC k n j ((cAt k n ts j).add (ts.getD j (.i 0)))=_
 rw [e,SO (xu k n ts j)]
theorem oe {s t f a:Int} (hs:2≤s) (f1:0≤f) (f2:f≤s - 1) (q:t=f+s*a):2*a.natAbs≤t.natAbs+1∧(0≤t→0≤a)∧(t.natAbs≤1→0≤t→a=0):=by
 have hm:∀ x:Int,0≤x→2*x≤s*x:=fun x hx=>Int.mul_le_mul_of_nonneg_right hs hx
 have e2:s*(-a)=-(s*a):=Int.mul_neg ..
 have e3:s*(-a - 1)=-(s*a) - s:=by rw [Int.mul_sub,Int.mul_one,e2]
 rcases (by omega:0≤a∨a≤-1) with z | z
 ·have:=hm a z
  exact ⟨by omega,fun _=>z,fun _ _=>by omega⟩
 ·have:=hm (-a - 1) (by omega)
  exact ⟨by omega,fun _=>by omega,fun _ _=>by omega⟩
theorem pQ {k:Kd} {n:Int} {j:Nat} {t a:Int} (h4:k.four=true) (hn:k.ok n) (e:sC k n j (.i t)=.i a):
  2*a.natAbs≤t.natAbs+1∧(wo k (.i t)=true→wo k (.i a)=true)∧(t.natAbs≤1→wo k (.i t)=true→a=0∨(t=-1∧a=1)):=by
 have h5:k.five=true:=by cases k <;> first | rfl | cases h4
 have hk:k≠.pairs:=fun z=>by rw [z] at h4; cases h4
 obtain ⟨f1,f2,q,_⟩:=vS (j:=j) h5 hn (t:=.i t) (xW hk)
 rw [e,zJ] at q
 have hs:=sk h4 hn j
 obtain ⟨h1,h2⟩:=hn
 generalize sF k n j (.i t)=f at *
 cases k with
 | falling=>cases h4
 | pairs=>cases h4
 | plain=>
  simp only [Kd.ratN,Kd.rat,Nm.re,Nm.im,Kd.low,Kd.high,Kd.size,wo,decide_eq_true_iff] at *
  obtain ⟨p1,p2,p3⟩:=oe (t:=t) (a:=a) hs f1 f2 (by omega)
  exact ⟨p1,p2,fun x y=>.inl (p3 x y)⟩
 | below=>
  simp only [Kd.ratN,Kd.rat,Nm.re,Nm.im,Kd.low,Kd.high,Kd.size,wo] at *
  have q':t=f - n*a:=by rw [q,Int.neg_mul]; omega
  have hm:∀ x:Int,0≤x→2*x≤n*x:=fun x hx=>Int.mul_le_mul_of_nonneg_right hs hx
  have e1:n*(a - 1)=n*a - n:=by rw [Int.mul_sub,Int.mul_one]
  have e2:n*(-a)=-(n*a):=Int.mul_neg ..
  have e3:n*(-a - 1)=-(n*a) - n:=by rw [Int.mul_sub,Int.mul_one,e2]
  refine ⟨?_,fun _=>trivial,fun h3 _=>?_⟩
  ·rcases (by omega:1≤a∨a=0∨a≤-1) with z | z | z
   ·have:=hm (a - 1) (by omega); omega
   ·omega
   ·have:=hm (-a) (by omega); omega
  ·rcases (by omega:2≤a∨a=1∨a=0∨a≤-1) with z | z | z | z
   ·have:=hm (a - 1) (by omega); omega
   ·subst z; omega
   ·exact .inl z
   ·have:=hm (-a) (by omega); omega
 | balanced=>
  simp only [Kd.ratN,Kd.rat,Nm.re,Nm.im,Kd.low,Kd.high,Kd.size,wo,Kd.lo] at *
  have q':t=f+2*(n*a)+a:=by rw [q,Int.add_mul,Int.mul_assoc]; omega
  have hm:∀ x:Int,0≤x→x≤n*x:=fun x hx=>by
   have:=Int.mul_le_mul_of_nonneg_right h1 hx
   omega
  have e1:n*(a - 1)=n*a - n:=by rw [Int.mul_sub,Int.mul_one]
  have e2:n*(-a)=-(n*a):=Int.mul_neg ..
  have e3:n*(-a - 1)=-(n*a) - n:=by rw [Int.mul_sub,Int.mul_one,e2]
  have key:2*a.natAbs≤t.natAbs:=by
   rcases (by omega:1≤a∨a=0∨a≤-1) with z | z | z
   ·have:=hm (a - 1) (by omega); have:=hm a (by omega); omega
   ·omega
   ·have:=hm (-a - 1) (by omega); have:=hm (-a) (by omega); omega
  exact ⟨by omega,fun _=>trivial,fun _ _=>.inl (by omega)⟩
 | growing=>
  simp only [Kd.ratN,Kd.rat,Nm.re,Nm.im,Kd.low,Kd.high,Kd.size,wo,decide_eq_true_iff] at *
  obtain ⟨p1,p2,p3⟩:=oe (t:=t) (a:=a) (s:=n+(j:Int)) hs f1 (by omega) (by omega)
  exact ⟨p1,p2,fun x y=>.inl (p3 x y)⟩
theorem Zm {k:Kd} (h4:k.four=true):k.zero=.i 0:=by cases k <;> first | rfl | cases h4
theorem sC4 {k:Kd} {n:Int} {j:Nat} {t:Nm} (h4:k.four=true):∃ a,sC k n j t=.i a:=xM (fun z=>by rw [z] at h4; cases h4) (Zw k n j t)
theorem ZL {k:Kd} {n:Int} (h4:k.four=true) (hn:k.ok n):∀ (b:Nat) (j:Nat) (c:Nat→Nm) (t:Int),c 0=.i t→(∀ i,c (i+1)=sC k n (j+i) (c i))→wo k (.i t)=true→t.natAbs≤2 ^ b→∃ m,m≤b+2∧c m=k.zero
 | 0,j,c,t,h0,hc,hh,hb=>by
  obtain ⟨a,ea⟩:=sC4 (n:=n) (j:=j) (t:=.i t) h4
  have e1:c 1=.i a:=by rw [hc 0,h0]; exact ea
  obtain ⟨_,s2,s3⟩:=pQ h4 hn ea
  rcases s3 hb hh with z | ⟨_,z⟩
  ·exact ⟨1,by omega,by rw [e1,z,Zm h4]⟩
  ·obtain ⟨a2,ea2⟩:=sC4 (n:=n) (j:=j+1) (t:=.i a) h4
   have e2:c 2=.i a2:=by rw [hc 1,e1]; exact ea2
   obtain ⟨_,_,s5⟩:=pQ h4 hn ea2
   rcases s5 (by omega) (s2 hh) with y | ⟨y,_⟩
   ·exact ⟨2,by omega,by rw [e2,y,Zm h4]⟩
   ·omega
 | b+1,j,c,t,h0,hc,hh,hb=>by
  obtain ⟨a,ea⟩:=sC4 (n:=n) (j:=j) (t:=.i t) h4
  have e1:c 1=.i a:=by rw [hc 0,h0]; exact ea
  obtain ⟨s1,s2,_⟩:=pQ h4 hn ea
  have hp:2 ^ (b+1)=2*2 ^ b:=by rw [Nat.pow_succ]; omega
  obtain ⟨m,hm,e⟩:=ZL h4 hn b (j+1) (fun i=>c (i+1)) a e1 (fun i=>by rw [hc (i+1),show j+(i+1)=j+1+i by omega]) (s2 hh) (by omega)
  exact ⟨m+1,by omega,e⟩
theorem pU {k:Kd} {n:Int} (h4:k.four=true) (hn:k.ok n) {j:Nat} {c:Nat→Nm} {t:Int} (h0:c 0=.i t) (hc:∀ i,c (i+1)=sC k n (j+i) (c i)) (hh:wo k (.i t)=true):∀ i,∃ a,c i=.i a∧wo k (.i a)=true
 | 0=>⟨t,h0,hh⟩
 | i+1=>by
  obtain ⟨a,e,h⟩:=pU h4 hn h0 hc hh i
  obtain ⟨a',e'⟩:=sC4 (n:=n) (j:=j+i) (t:=.i a) h4
  exact ⟨a',by rw [hc i,e]; exact e',(pQ h4 hn e').2.1 h⟩
def pA (n a b:Int):Int:=((a - (a+n*b).fmod (n*n+1))*(-n) - b*(-1)).fdiv (n*n+1)
def pB (n a b:Int):Int:=((a - (a+n*b).fmod (n*n+1))*(-1)+b*(-n)).fdiv (n*n+1)
theorem e9 (n:Int) (j:Nat) (a b:Int):sC .pairs n j (.p a b)=.p (pA n a b) (pB n a b):=rfl
def pz (n:Int):Nat→Int→Int→Bool
 | 0,a,b=>a == 0 && b == 0
 | m+1,a,b=>(a == 0 && b == 0) || pz n m (pA n a b) (pB n a b)
theorem Yg:(List.range 9).all (fun n=>(List.range 31).all fun a=>(List.range 31).all fun b=>pz ((n:Int)+1) 14 ((a:Int) - 15) ((b:Int) - 15))=true:=by decide +kernel
theorem jt {n a b:Int} (n1:1≤n) (n2:n≤9) (a1:-15≤a) (a2:a≤15) (b1:-15≤b) (b2:b≤15):pz n 14 a b=true:=by
 have h:=List.all_eq_true.mp Yg (n - 1).toNat (List.mem_range.mpr (by omega))
 have h:=List.all_eq_true.mp h (a+15).toNat (List.mem_range.mpr (by omega))
 have h:=List.all_eq_true.mp h (b+15).toNat (List.mem_range.mpr (by omega))
 rw [show (((n - 1).toNat:Nat):Int)+1=n by omega,show (((a+15).toNat:Nat):Int) - 15=a by omega,show (((b+15).toNat:Nat):Int) - 15=b by omega] at h
 exact h
theorem qF {n:Int}:∀ (m j:Nat) (c:Nat→Nm) (a b:Int),c 0=.p a b→(∀ i,c (i+1)=sC .pairs n (j+i) (c i))→pz n m a b=true→∃ i,i≤m∧c i=Kd.zero .pairs
 | 0,j,c,a,b,h0,hc,h=>by
  unfold pz at h
  rw [Bool.and_eq_true,beq_iff_eq,beq_iff_eq] at h
  exact ⟨0,Nat.le_refl _,by rw [h0,h.1,h.2]; rfl⟩
 | m+1,j,c,a,b,h0,hc,h=>by
  unfold pz at h
  rw [Bool.or_eq_true] at h
  rcases h with h | h
  ·rw [Bool.and_eq_true,beq_iff_eq,beq_iff_eq] at h
   exact ⟨0,by omega,by rw [h0,h.1,h.2]; rfl⟩
  ·obtain ⟨i,hi,e⟩:=qF m (j+1) (fun i=>c (i+1)) _ _ (by rw [hc 0,h0]; exact e9 n _ a b) (fun i=>by rw [hc (i+1),show j+(i+1)=j+1+i by omega]) h
   exact ⟨i+1,by omega,e⟩
theorem mX {n a b:Int}:∃ f,0≤f∧f≤n*n∧(a - f)*(a - f)+b*b=(n*n+1)*(pA n a b*pA n a b+pB n a b*pB n a b):=by
 obtain ⟨g1,g2,g3,g4⟩:=sf (a:=a) (b:=b) (m:=n) (n*n+1) rfl _ rfl _ _ rfl rfl
 refine ⟨_,g1,g2,?_⟩
 have e1:pA n a b=((a - (a+n*b).fmod (n*n+1))*(-n) - b*(-1)).fdiv (n*n+1):=rfl
 have e2:pB n a b=((a - (a+n*b).fmod (n*n+1))*(-1)+b*(-n)).fdiv (n*n+1):=rfl
 rw [← e1,← e2] at g3
 rw [← e1,← e2] at g4
 generalize (a + n * b).fmod (n * n + 1)=f at *
 generalize pA n a b=x at *
 generalize pB n a b=y at *
 have ea:a - f=-(n*x) - y:=by omega
 have eb:b=x - n*y:=by omega
 rw [ea,eb]
 grind
theorem z6 (x:Int):0≤x*x:=by
 rcases Int.le_total 0 x with h | h
 ·exact Int.mul_nonneg h h
 ·exact Int.mul_nonneg_of_nonpos_of_nonpos h h
theorem VZ {a S:Int} (h:a*a≤S) (h2:256≤S):16*a≤S:=by
 by_cases z:16≤a
 ·exact Int.le_trans (Int.mul_le_mul_of_nonneg_right z (by omega)) h
 ·omega
theorem k_ {a:Int} (h:¬ (-15≤a∧a≤15)):256≤a*a:=by
 rcases (by omega:16≤a∨16≤-a) with z | z
 ·have:=Int.mul_le_mul z z (by decide) (by omega); omega
 ·have:=Int.mul_le_mul z z (by decide) (by omega); rw [Int.neg_mul_neg] at this; omega
theorem aS {S N p q t:Int} (h1:-(16*p)≤t) (h2:q≤82*N - 81) (h3:1≤N) (h5:256*(4*N - 3)≤4*t - 3*S):8*(S - 2*p+q)≤5*(t+S):=by omega
theorem ff {n a b f:Int} (n1:1≤n) (n2:n≤9) (f0:0≤f) (f1:f≤n*n) (h:¬ (-15≤a∧a≤15∧-15≤b∧b≤15)):8*((a - f)*(a - f)+b*b)≤5*((n*n+1)*(a*a+b*b)):=by
 have q1:1≤n*n:=Int.mul_le_mul n1 n1 (by decide) (Int.le_trans (by decide) n1)
 have q2:n*n≤81:=Int.mul_le_mul n2 n2 (Int.le_trans (by decide) n1) (by decide)
 generalize n * n=N at *
 have hS:256≤a*a+b*b:=by
  have sa:=z6 a
  have sb:=z6 b
  by_cases z:-15≤a∧a≤15
  ·have:=k_ (a:=b) fun y=>h ⟨z.1,z.2,y.1,y.2⟩
   omega
  ·have:=k_ z
   omega
 have h16:16 * -a≤a*a+b*b:=VZ (by rw [Int.neg_mul_neg]; have:=z6 b; omega) hS
 have e:(a - f)*(a - f)+b*b=(a*a+b*b) - 2*(a*f)+f*f:=by grind
 rw [e,Int.add_mul,Int.one_mul]
 generalize a * a + b * b=S at *
 have k1:=Int.mul_le_mul_of_nonneg_left h16 f0
 have k2:=Int.mul_le_mul_of_nonneg_right f1 (show 0≤S by omega)
 have k3:f*f≤N*N:=Int.mul_le_mul f1 f1 f0 (by omega)
 have k4:=Int.mul_nonneg (show 0≤N - 1 by omega) (show 0≤81 - N by omega)
 have e4:(N - 1)*(81 - N)=82*N - 81 - N*N:=by grind
 have k5:=Int.mul_le_mul_of_nonneg_left hS (show 0≤4*N - 3 by omega)
 have e5:(4*N - 3)*S=4*(N*S) - 3*S:=by grind
 have e1:f*(16 * -a)=-(16*(a*f)):=by grind
 rw [e4] at k4
 rw [e5] at k5
 rw [e1] at k1
 exact aS (Int.le_trans k1 k2) (by omega) q1 (by rw [Int.mul_comm]; exact k5)
theorem oA {n a b:Int} (n1:1≤n) (n2:n≤9) (h:¬ (-15≤a∧a≤15∧-15≤b∧b≤15)):8*(pA n a b*pA n a b+pB n a b*pB n a b)≤5*(a*a+b*b):=by
 obtain ⟨f,f0,f1,e⟩:=mX (n:=n) (a:=a) (b:=b)
 have k:=ff n1 n2 f0 f1 h
 rw [e] at k
 have q1:0<n*n+1:=by have:=z6 n; omega
 generalize pA n a b * pA n a b + pB n a b * pB n a b=X at *
 generalize a * a + b * b=Y at *
 generalize n * n + 1=N at *
 have k':N*(8*X)≤N*(5*Y):=by
  have r1:N*(8*X)=8*(N*X):=by grind
  have r2:N*(5*Y)=5*(N*Y):=by grind
  rw [r1,r2]; exact k
 exact Int.le_of_mul_le_mul_left k' q1
theorem Sd {n:Int} (n1:1≤n) (n2:n≤9):∀ (d j:Nat) (c:Nat→Nm) (a b:Int),c 0=.p a b→(∀ i,c (i+1)=sC .pairs n (j+i) (c i))→a*a+b*b≤((2 ^ d:Nat):Int)→∃ m,m≤2*d+16∧c m=Kd.zero .pairs:=by
 intro d
 induction d with
 | zero=>
  intro j c a b h0 hc hb
  have sa:=z6 a
  have sb:=z6 b
  have hb':a*a+b*b≤1:=hb
  have ha:-15≤a∧a≤15:=by
   constructor
   ·rcases Int.lt_or_le a (-15) with z | z
    ·have:=Int.mul_le_mul (show 16≤-a by omega) (show 16≤-a by omega) (by decide) (by omega)
     rw [Int.neg_mul_neg] at this; omega
    ·exact z
   ·rcases Int.lt_or_le 15 a with z | z
    ·have:=Int.mul_le_mul (show 16≤a by omega) (show 16≤a by omega) (by decide) (by omega)
     omega
    ·exact z
  have hbb:-15≤b∧b≤15:=by
   constructor
   ·rcases Int.lt_or_le b (-15) with z | z
    ·have:=Int.mul_le_mul (show 16≤-b by omega) (show 16≤-b by omega) (by decide) (by omega)
     rw [Int.neg_mul_neg] at this; omega
    ·exact z
   ·rcases Int.lt_or_le 15 b with z | z
    ·have:=Int.mul_le_mul (show 16≤b by omega) (show 16≤b by omega) (by decide) (by omega)
     omega
    ·exact z
  obtain ⟨i,hi,e⟩:=qF 14 j c a b h0 hc (jt n1 n2 ha.1 ha.2 hbb.1 hbb.2)
  exact ⟨i,by omega,e⟩
 | succ d ih=>
  intro j c a b h0 hc hb
  by_cases hin:-15≤a∧a≤15∧-15≤b∧b≤15
  ·obtain ⟨i,hi,e⟩:=qF 14 j c a b h0 hc (jt n1 n2 hin.1 hin.2.1 hin.2.2.1 hin.2.2.2)
   exact ⟨i,by omega,e⟩
  ·have e1:c 1=.p (pA n a b) (pB n a b):=by rw [hc 0,h0]; exact e9 n _ a b
   have k1:=oA n1 n2 hin
   by_cases hin2:-15≤pA n a b∧pA n a b≤15∧-15≤pB n a b∧pB n a b≤15
   ·obtain ⟨i,hi,e⟩:=qF 14 (j+1) (fun i=>c (i+1)) _ _ e1 (fun i=>by rw [hc (i+1),show j+(i+1)=j+1+i by omega]) (jt n1 n2 hin2.1 hin2.2.1 hin2.2.2.1 hin2.2.2.2)
    exact ⟨i+1,by omega,e⟩
   ·have k2:=oA n1 n2 hin2
    have e2:c 2=.p (pA n (pA n a b) (pB n a b)) (pB n (pA n a b) (pB n a b)):=by rw [hc 1,e1]; exact e9 n _ _ _
    have hp:((2 ^ (d+1):Nat):Int)=2*((2 ^ d:Nat):Int):=by rw [Nat.pow_succ]; omega
    have h2:(0:Int)≤((2 ^ d:Nat):Int):=Int.natCast_nonneg _
    obtain ⟨m,hm,e⟩:=ih (j+2) (fun i=>c (i+2)) _ _ e2 (fun i=>by rw [hc (i+2),show j+(i+2)=j+2+i by omega]) (by omega)
    exact ⟨m+2,by omega,e⟩
theorem Yd {k:Kd} {n:Int} {j:Nat} {c t:Nm} {T:Nat} (h4:k.four=true) (hn:k.ok n) (hc:c.ty k) (ht:tot k t) (b1:c.re.natAbs≤T+1) (b2:t.re.natAbs≤T):(sC k n j (c.add t)).re.natAbs≤T+1:=by
 have hk:k≠.pairs:=fun z=>by rw [z] at h4; cases h4
 obtain ⟨x,rfl⟩:=xM hk hc
 obtain ⟨y,rfl⟩:=ht hk
 obtain ⟨a,ea⟩:=sC4 (n:=n) (j:=j) (t:=.i (x+y)) h4
 have e:(Nm.i x).add (.i y)=.i (x+y):=rfl
 rw [e,ea]
 have:=(pQ h4 hn ea).1
 simp only [Nm.re] at *
 omega
theorem lB {k:Kd} {n:Int} {ts:List Nm} {T:Nat} (h4:k.four=true) (hn:k.ok n) (ht:∀ t∈ts,tot k t) (hb:∀ t∈ts,t.re.natAbs≤T):∀ j,(cAt k n ts j).re.natAbs≤T+1
 | 0=>by
  show (k.zero).re.natAbs≤_
  rw [zX]
  exact Nat.zero_le _
 | j+1=>by
  refine Yd h4 hn (xu k n ts j) (yV ht j) (lB h4 hn ht hb j) ?_
  rw [List.getD_eq_getElem?_getD]
  cases q:ts[j]? with
  | none=>exact Nat.zero_le _
  | some t=>exact hb t (List.mem_of_getElem? q)
theorem Zs {x T:Int} (h1:-T≤x) (h2:x≤T):x*x≤T*T:=by
 rcases Int.le_total 0 x with z | z
 ·exact Int.mul_le_mul h2 h2 z (by omega)
 ·have:=Int.mul_le_mul (show -x≤T by omega) (show -x≤T by omega) (by omega) (by omega)
  rwa [Int.neg_mul_neg] at this
theorem ku {n a b x y T:Int} (hT:81≤T) (n1:1≤n) (n2:n≤9) (hx1:-T≤x) (hx2:x≤T) (hy1:-T≤y) (hy2:y≤T) (h:a*a+b*b≤30*(T*T)):
  pA n (a+x) (b+y)*pA n (a+x) (b+y)+pB n (a+x) (b+y)*pB n (a+x) (b+y)≤30*(T*T):=by
 obtain ⟨f,f0,f1,e⟩:=mX (n:=n) (a:=a+x) (b:=b+y)
 have q1:1≤n*n:=by have:=Int.mul_le_mul n1 n1 (by omega) (by omega); omega
 have q2:n*n≤81:=by have:=Int.mul_le_mul n2 n2 (by omega) (by omega); omega
 generalize pA n (a + x) (b + y) * pA n (a + x) (b + y) + pB n (a + x) (b + y) * pB n (a + x) (b + y)=X at *
 have hX:2*X≤(n*n+1)*X∨X<0:=by
  rcases Int.lt_or_le X 0 with z | z
  ·exact .inr z
  ·exact .inl (Int.mul_le_mul_of_nonneg_right (by omega) z)
 have r1:2*((a+x - f)*(a+x - f))≤3*(a*a)+6*((x - f)*(x - f)):=by
  have:=z6 (a - 2*(x - f))
  have e1:(a - 2*(x - f))*(a - 2*(x - f))=a*a - 4*(a*(x - f))+4*((x - f)*(x - f)):=by grind
  have e2:(a+x - f)*(a+x - f)=a*a+2*(a*(x - f))+(x - f)*(x - f):=by grind
  omega
 have r2:2*((b+y)*(b+y))≤3*(b*b)+6*(y*y):=by
  have:=z6 (b - 2*y)
  have e1:(b - 2*y)*(b - 2*y)=b*b - 4*(b*y)+4*(y*y):=by grind
  have e2:(b+y)*(b+y)=b*b+2*(b*y)+y*y:=by grind
  omega
 have s1:(x - f)*(x - f)≤(2*T)*(2*T):=Zs (by omega) (by omega)
 have s2:y*y≤T*T:=Zs hy1 hy2
 have s3:(2*T)*(2*T)=4*(T*T):=by grind
 have s4:=z6 T
 omega
theorem lA {n:Int} {ts:List Nm} {T:Nat} (hT:81≤T) (hn:Kd.pairs.ok n) (hb:∀ t∈ts,t.re.natAbs≤T∧t.im.natAbs≤T):∀ j,∃ a b,cAt .pairs n ts j=.p a b∧a*a+b*b≤30*((T:Int)*T)
 | 0=>⟨0,0,rfl,by have:=z6 (T:Int); omega⟩
 | j+1=>by
  obtain ⟨a,b,e,h⟩:=lA hT hn hb j
  have ht:(ts.getD j (.i 0)).re.natAbs≤T∧(ts.getD j (.i 0)).im.natAbs≤T:=by
   rw [List.getD_eq_getElem?_getD]
   cases q:ts[j]? with
   | none=>exact ⟨Nat.zero_le _,Nat.zero_le _⟩
   | some t=>exact hb t (List.mem_of_getElem? q)
  have ea:(Nm.p a b).add (ts.getD j (.i 0))=.p (a+(ts.getD j (.i 0)).re) (b+(ts.getD j (.i 0)).im):=by
   cases ts.getD j (.i 0) <;> rfl
  refine ⟨_,_,by show sC .pairs n j ((cAt .pairs n ts j).add _)=_; rw [e,ea]; exact e9 ..,?_⟩
  have h1:(1:Int)≤n:=hn.1
  have h2:n≤9:=hn.2
  exact ku (by omega) h1 h2 (by omega) (by omega) (by omega) (by omega) h
theorem TX {P:Nat→Prop}:∀ (m:Nat),P m→∃ i,i≤m∧P i∧∀ l,l<i→¬ P l:=by
 intro m
 induction m using Nat.strongRecOn with
 | ind m ih=>
  intro h
  by_cases hx:∃ l,l<m∧P l
  ·obtain ⟨l,hl,pl⟩:=hx
   obtain ⟨i,hi,h2⟩:=ih l hl pl
   exact ⟨i,by omega,h2⟩
  ·exact ⟨m,Nat.le_refl _,h,fun l hl pl=>hx ⟨l,hl,pl⟩⟩
theorem eY {k:Kd} {n:Int} {ts:List Nm} {b:Nat} (h5:k.five=true) (hn:k.ok n) (ht:∀ t∈ts,tot k t) (hb:∀ t∈ts,t.re.natAbs≤2 ^ b∧t.im.natAbs≤2 ^ b) (b7:7≤b) (hh:wo k (cAt k n ts ts.length)=true):
  ∃ J,Fin k n ts J∧J≤ts.length+4*b+30∧(k≠.pairs→J≤ts.length+b+3):=by
 have hpow:2 ^ (b+1)=2*2 ^ b:=by rw [Nat.pow_succ]; omega
 have h128:128≤2 ^ b:=Nat.pow_le_pow_right (by decide:0<2) b7
 have main:∃ m,m≤4*b+30∧(k≠.pairs→m≤b+3)∧cAt k n ts (ts.length+m)=k.zero∧∀ i,wo k (cAt k n ts (ts.length+i))=true:=by
  have hc:∀ i,cAt k n ts (ts.length+(i+1))=sC k n (ts.length+i) (cAt k n ts (ts.length+i)):=fun i=>Zh (j:=ts.length+i) (by omega)
  by_cases hk:k=.pairs
  ·subst hk
   obtain ⟨x,y,e,hxy⟩:=lA (T:=2 ^ b) (by omega) hn hb ts.length
   have hbig:30*(((2 ^ b:Nat):Int)*((2 ^ b:Nat):Int))≤((2 ^ (2*b+5):Nat):Int):=by
    have:2 ^ (2*b+5)=32*(2 ^ b*2 ^ b):=by rw [← Nat.pow_add,show 2*b+5=(b+b)+5 by omega,Nat.pow_add]; omega
    rw [this,← Int.natCast_mul]
    omega
   obtain ⟨m,hm,em⟩:=Sd hn.1 hn.2 (2*b+5) ts.length (fun i=>cAt .pairs n ts (ts.length+i)) x y e hc (Int.le_trans hxy hbig)
   refine ⟨m,by omega,fun z=>absurd rfl z,em,fun i=>?_⟩
   obtain ⟨u,v,e'⟩:=xu .pairs n ts (ts.length+i)
   rw [e']
   rfl
  ·have h4:=q8 h5 hk
   obtain ⟨t,et⟩:=xM hk (xu k n ts ts.length)
   rw [et] at hh
   have bd:=lB h4 hn ht (fun t h=>(hb t h).1) ts.length
   rw [et] at bd
   have bd':t.natAbs≤2 ^ b+1:=bd
   obtain ⟨m,hm,em⟩:=ZL h4 hn (b+1) ts.length (fun i=>cAt k n ts (ts.length+i)) t et hc hh (by omega)
   refine ⟨m,by omega,fun _=>by omega,em,fun i=>?_⟩
   obtain ⟨a,e',h'⟩:=pU h4 hn (c:=fun i=>cAt k n ts (ts.length+i)) et hc hh i
   have e':cAt k n ts (ts.length+i)=.i a:=e'
   rw [e']
   exact h'
 obtain ⟨m,hm,hm4,em,hall⟩:=main
 obtain ⟨i,hi,pi,hl⟩:=TX (P:=fun i=>cAt k n ts (ts.length+i)=k.zero) m em
 refine ⟨ts.length+i,⟨by omega,pi,fun j h1 h2=>?_⟩,by omega,fun z=>by have:=hm4 z; omega⟩
 have e:j=ts.length+(j - ts.length):=by omega
 rw [e]
 exact ⟨hl _ (by omega),hall _⟩
theorem ua (k:Kd) (n:Int) (ts:List Nm) (j:Nat):(wE k n ts j).length=j:=by unfold wE; rw [List.length_map,List.length_range]
theorem oM {k:Kd} {n:Int} {ts:List Nm} {j i:Nat} (h:i<j):(wE k n ts j).getD i 0=fAt k n ts i:=by
 unfold wE
 rw [List.getD_eq_getElem?_getD,List.getElem?_map,List.getElem?_range h]
 rfl
theorem kK (k:Kd) (n:Int) (ts:List Nm) (j:Nat):wE k n ts (j+1)=wE k n ts j++[fAt k n ts j]:=by
 unfold wE
 rw [List.range_succ,List.map_append]
 rfl
theorem fR (k:Kd) (n:Int) (ts:List Nm) (j:Nat):crs k n ts (j+1)=crs k n ts j++[cAt k n ts j]:=by
 unfold crs
 rw [List.range_succ,List.map_append]
 rfl
theorem Ze (k:Kd) (n:Int) (ts:List Nm) (j:Nat):(crs k n ts j).length=j:=by unfold crs; rw [List.length_map,List.length_range]
def Kd.isF:Kd→Bool
 | .falling=>true
 | _=>false
structure Legal (k:Kd) (n:Int) (r:List Int):Prop where
 fig:∀ p,p<r.length→k.low n p≤r.getD p 0∧r.getD p 0≤k.high n p
 fal:k.isF=true→∀ p,p+1<r.length→r.getD (p+1) 0=n→r.getD p 0=0
 end_:r=[]∨r.getD (r.length - 1) 0≠0
open Classical in
noncomputable def oB (k:Kd) (n:Int) (r:List Int):Bool:=decide (Legal k n r)
open Classical in
theorem qV {k:Kd} {n:Int} {r:List Int} (h:Legal k n r):oB k n r=true:=by unfold oB; exact decide_eq_true h
open Classical in
theorem tS {k:Kd} {n:Int} {r:List Int} (h:¬ Legal k n r):oB k n r=false:=by unfold oB; exact decide_eq_false h
structure Lg (k:Kd) (n:Int) (r:List Int):Prop where
 fig:∀ p,p<r.length→k.low n p≤r.getD p 0∧r.getD p 0≤k.high n p
 fal:k.isF=true→∀ p,p+1<r.length→r.getD (p+1) 0=n→r.getD p 0=0
theorem uP {k:Kd} {n:Int} (h:k.ok n) (p:Nat):k.low n p≤0∧0≤k.high n p:=by
 obtain ⟨h1,h2⟩:=h
 cases k <;> simp only [Kd.lo,Kd.hi,Kd.low,Kd.high] at * <;> first | omega | exact ⟨Int.le_refl _,Int.mul_nonneg (by omega) (by omega)⟩
theorem zM {r:List Int} {z:Int} {p:Nat} (h:p<r.length):(r++[z]).getD p 0=r.getD p 0:=by
 rw [List.getD_eq_getElem?_getD,List.getD_eq_getElem?_getD,List.getElem?_append_left h]
theorem getD_snoc_eq {r:List Int} {z:Int}:(r++[z]).getD r.length 0=z:=by
 rw [List.getD_eq_getElem?_getD,List.getElem?_append_right (Nat.le_refl _)]
 simp
theorem Lg.nil (k:Kd) (n:Int):Lg k n []:=⟨fun p h=>absurd h (Nat.not_lt_zero _),fun _ p h=>absurd h (Nat.not_lt_zero _)⟩
theorem Lg.pop {k:Kd} {n:Int} {r:List Int} {z:Int} (h:Lg k n (r++[z])):Lg k n r:=by
 refine ⟨fun p hp=>?_,fun hk p hp=>?_⟩
 ·have:=h.fig p (by rw [List.length_append]; omega)
  rwa [zM hp] at this
 ·have:=h.fal hk p (by rw [List.length_append]; omega)
  rwa [zM hp,zM (by omega)] at this
theorem Lg.trim {k:Kd} {n:Int}:∀ {r:List Int},Lg k n r→Legal k n (trim r):=by
 intro r
 generalize hl:r.length=m
 induction m generalizing r with
 | zero=>
  intro h
  obtain rfl:r=[]:=List.length_eq_zero_iff.mp hl
  exact ⟨h.fig,h.fal,.inl rfl⟩
 | succ m ih=>
  intro h
  rcases zP r with rfl | ⟨l,z,rfl⟩
  ·cases hl
  ·by_cases hz:z=0
   ·subst hz
    rw [xN]
    exact ih (by rw [List.length_append] at hl; exact Nat.succ.inj hl) h.pop
   ·rw [vQ hz]
    exact ⟨h.fig,h.fal,.inr (by rw [List.length_append]; exact fun e=>hz (by rw [← e]; exact getD_snoc_eq.symm))⟩
theorem Lg.push {k:Kd} {n z:Int} {r:List Int} (h:Lg k n r) (hz:k.low n r.length≤z∧z≤k.high n r.length) (hf:k.isF=true→z=n→r=[]∨r.getD (r.length - 1) 0=0):Lg k n (r++[z]):=by
 refine ⟨fun p hp=>?_,fun hk p hp e=>?_⟩
 ·rw [List.length_append] at hp
  rcases (by simp at hp; omega:p<r.length∨p=r.length) with q | q
  ·rw [zM q]; exact h.fig p q
  ·subst q; rw [getD_snoc_eq]; exact hz
 ·rw [List.length_append] at hp
  rcases (by simp at hp; omega:p+1<r.length∨p+1=r.length) with q | q
  ·rw [zM q] at e
   rw [zM (by omega)]
   exact h.fal hk p q e
  ·rw [q,getD_snoc_eq] at e
   rw [zM (by omega)]
   rcases hf hk e with z | z
   ·rw [z] at q; cases q
   ·rw [show r.length - 1=p by omega] at z; exact z
theorem yA {r:List Int} {i j:Nat} {z:Int} (h:i≠j):(r.set i z).getD j 0=r.getD j 0:=by
 rw [List.getD_eq_getElem?_getD,List.getD_eq_getElem?_getD,List.getElem?_set_ne h]
theorem yB {r:List Int} {i:Nat} {z:Int} (h:i<r.length):(r.set i z).getD i 0=z:=by
 rw [List.getD_eq_getElem?_getD,List.getElem?_set_self h]
 rfl
theorem Lg.zero {k:Kd} {n:Int} {r:List Int} (hn:k.ok n) (h:Lg k n r):Lg k n (r.set (r.length - 1) 0):=by
 refine ⟨fun p hp=>?_,fun hk p hp e=>?_⟩
 ·rw [List.length_set] at hp
  by_cases q:r.length - 1=p
  ·subst q; rw [yB hp]; exact uP hn _
  ·rw [yA q]; exact h.fig p hp
 ·rw [List.length_set] at hp
  have n1:n≠0:=by have:=hn.1; cases k <;> simp only [Kd.lo] at this <;> omega
  by_cases q:r.length - 1=p+1
  ·rw [← q,yB (by omega)] at e; exact absurd e.symm n1
  ·rw [yA q] at e
   rw [yA (by omega)]
   exact h.fal hk p hp e
theorem va (k:Kd) (n:Int) (ns:List Int):∀ j,yD k n ns j=wF k n (fun i=>ns.getD i 0) j
 | 0=>rfl
 | j+1=>by unfold yD wF; rw [va k n ns j]
theorem se {k:Kd} {n:Int} {f g:Nat→Int}:∀ j,(∀ i,i<j→f i=g i)→wF k n f j=wF k n g j
 | 0,_=>rfl
 | j+1,h=>by
  unfold wF
  rw [se j fun i hi=>h i (by omega),h j (by omega)]
theorem mC (k:Kd) (n:Int) (j:Nat):(wt k n j).ty k:=by
 by_cases hk:k=.pairs
 ·subst hk; exact wt2 j
 ·obtain ⟨w,e⟩:=wtI (n:=n) hk j
  rw [e]
  exact xW hk
theorem uN {k:Kd} {t w:Nm} (ht:tot k t) (hw:w.ty k):(t.mul w).ty k:=by
 by_cases hk:k=.pairs
 ·subst hk
  obtain ⟨a,b,rfl⟩:=hw
  cases t <;> exact ⟨_,_,rfl⟩
 ·obtain ⟨a,rfl⟩:=ht hk
  obtain ⟨b,rfl⟩:=xM hk hw
  exact xW hk
theorem xh {k:Kd} {m:Nm} (h:m.ty k):tot k m:=fun hk=>xM hk h
theorem pO (k:Kd) (a:Int):tot k (.i a):=fun _=>⟨a,rfl⟩
theorem kU (k:Kd) (n:Int) (f:Nat→Int):∀ j,(wF k n f j).ty k
 | 0=>y7 k
 | j+1=>w_ (kU k n f j) (xh (uN (pO k _) (mC k n j)))
theorem sd {k:Kd} {n:Int} {ts:List Nm} (ht:∀ t∈ts,tot k t):∀ j,(wN k n ts j).ty k
 | 0=>y7 k
 | j+1=>w_ (sd ht j) (xh (uN (yV ht j) (mC k n j)))
theorem oZ {k:Kd} {m w:Nm} (hm:m.ty k) (hw:w.ty k):m.add ((Nm.i 0).mul w)=m:=by
 refine wU (w_ hm (xh (uN (pO k 0) hw))) hm ?_ ?_
 ·rw [zZ,zJ]; show m.re+(0*w.re - 0*w.im)=_; rw [Int.zero_mul,Int.zero_mul]; omega
 ·rw [yn,zO]; show m.im+(0*w.im+0*w.re)=_; rw [Int.zero_mul,Int.zero_mul]; omega
theorem o_ {k:Kd} {n:Int} {ts:List Nm} (ht:∀ t∈ts,tot k t):∀ i,wN k n ts (ts.length+i)=wN k n ts ts.length
 | 0=>rfl
 | i+1=>by
  have e:ts.getD (ts.length+i) (.i 0)=.i 0:=by rw [List.getD_eq_getElem?_getD,List.getElem?_eq_none (by omega)]; rfl
  show (wN k n ts (ts.length+i)).add ((ts.getD (ts.length+i) (.i 0)).mul (wt k n (ts.length+i)))=_
  rw [e,oZ (sd ht _) (mC k n _)]
  exact o_ ht i
def yc (k:Kd) (n:Int) (ts:List Nm):Nm:=wN k n ts ts.length
def zx (k:Kd) (n:Int) (r:List Int):Nm:=yD k n r r.length
theorem Fin.worth {k:Kd} {n:Int} {ts:List Nm} {J:Nat} (F:Fin k n ts J) (h5:k.five=true) (hn:k.ok n) (ht:∀ t∈ts,tot k t):zx k n (wE k n ts J)=yc k n ts:=by
 unfold zx yc
 rw [ua,va,se (g:=fAt k n ts) J (fun i hi=>oM hi)]
 have e:wN k n ts J=wN k n ts ts.length:=by
  rw [show J=ts.length+(J - ts.length) by have:=F.le; omega]
  exact o_ ht _
 obtain ⟨t1,t2⟩:=Z6 h5 hn ht J
 rw [F.z,zJ,zX,z_] at t1
 rw [F.z,zO,zX,z_] at t2
 rw [← e]
 refine wU (kU k n _ J) (sd ht J) ?_ ?_
 ·rw [t1,Int.mul_zero,Int.mul_zero]; omega
 ·rw [t2,Int.mul_zero,Int.mul_zero]; omega
theorem qt {k:Kd} {n:Int} {l:List Int} {z:Int} {j:Nat} (h:j≤l.length):yD k n (l++[z]) j=yD k n l j:=by
 rw [va,va]
 exact se j fun i hi=>zM (by omega)
theorem wG (k:Kd) (n:Int) (l:List Int) (z:Int):zx k n (l++[z])=(zx k n l).add ((Nm.i z).mul (wt k n l.length)):=by
 unfold zx
 rw [List.length_append]
 show (yD k n (l++[z]) l.length).add ((Nm.i ((l++[z]).getD l.length 0)).mul (wt k n l.length))=_
 rw [qt (Nat.le_refl _),getD_snoc_eq]
theorem zY (k:Kd) (n:Int) (r:List Int):(zx k n r).ty k:=by
 unfold zx
 rw [va]
 exact kU k n _ _
theorem pG (k:Kd) (n:Int) (r:List Int):zx k n (trim r)=zx k n r:=by
 generalize hl:r.length=m
 induction m generalizing r with
 | zero=>
  obtain rfl:r=[]:=List.length_eq_zero_iff.mp hl
  rfl
 | succ m ih=>
  rcases zP r with rfl | ⟨l,z,rfl⟩
  ·cases hl
  ·by_cases hz:z=0
   ·subst hz
    rw [xN,ih l (by rw [List.length_append] at hl; exact Nat.succ.inj hl),wG,oZ (zY k n l) (mC k n _)]
   ·rw [vQ hz]
theorem wX {k:Kd} (h5:k.five=true):k.isF=false:=by cases k <;> first | rfl | cases h5
theorem aR {k:Kd} {n:Int} {ts:List Nm} (h5:k.five=true) (hn:k.ok n) (ht:∀ t∈ts,tot k t) (J:Nat):Lg k n (wE k n ts J):=by
 refine ⟨fun p hp=>?_,fun hF=>?_⟩
 ·rw [ua] at hp
  rw [oM hp]
  obtain ⟨a,b,_⟩:=vS (j:=p) h5 hn (w_ (xu k n ts p) (yV ht p))
  exact ⟨a,b⟩
 ·rw [wX h5] at hF
  cases hF
def eZ (k:Kd) (n:Int) (ts:List Nm) (J:Nat):List Int:=trim (wE k n ts J)
theorem nk {k:Kd} {n:Int} {ts:List Nm} {J:Nat} (h5:k.five=true) (hn:k.ok n) (ht:∀ t∈ts,tot k t):Legal k n (eZ k n ts J):=(aR h5 hn ht J).trim
theorem nj {k:Kd} {n:Int} {ts:List Nm} {J:Nat} (F:Fin k n ts J) (h5:k.five=true) (hn:k.ok n) (ht:∀ t∈ts,tot k t):zx k n (eZ k n ts J)=yc k n ts:=by
 unfold eZ
 rw [pG,F.worth h5 hn ht]
def u4 (k:Kd):DSp:=fun ds Q=>∃ o d m,ds=[o,d]∧sQ d=some m∧Q (.bl (wo k m))
def isP:Nm→Bool
 | .p _ _=>true
 | _=>false
def qo:DSp:=fun ds Q=>∃ d m,ds=[d]∧sQ d=some m∧Q (.bl (isP m))
def mw:DSp:=fun ds Q=>∃ r,ds=[zt r]∧Q (zt (trim r))
def vP:DSp:=fun ds Q=>∃ xs p,ds=[.lst xs,.int p]∧0≤p∧Q (xs.getD p.toNat (.int 0))
def vz (ts:List Nm):Dt:=.lst (ts.map Nm.dt)
def oV (k:Kd) (n:Int) (ts:List Nm) (j:Nat):List Dt:=(crs k n ts j).map Nm.dt
theorem qY (ts:List Nm) (j:Nat):(ts.map Nm.dt).getD j (.int 0)=(ts.getD j (.i 0)).dt:=by
 rw [List.getD_eq_getElem?_getD,List.getD_eq_getElem?_getD,List.getElem?_map]
 cases ts[j]? <;> rfl
theorem V0 {k:Kd} {m m':Nm} (h:m.ty k) (h':m'.ty k):eqD m.dt m'.dt=true↔m=m':=by
 by_cases hk:k=.pairs
 ·subst hk
  obtain ⟨a,b,rfl⟩:=h
  obtain ⟨c,d,rfl⟩:=h'
  show eqD (.tup [.int a,.int b]) (.tup [.int c,.int d])=true↔_
  rw [ub,xi,xi,wY,yS,yS,Bool.and_eq_true,Bool.and_eq_true,beq_iff_eq,beq_iff_eq]
  constructor
  ·rintro ⟨rfl,rfl,_⟩; rfl
  ·intro e; cases e; exact ⟨rfl,rfl,rfl⟩
 ·obtain ⟨a,rfl⟩:=xM hk h
  obtain ⟨c,rfl⟩:=xM hk h'
  show eqD (.int a) (.int c)=true↔_
  rw [yS,beq_iff_eq]
  constructor
  ·rintro rfl; rfl
  ·intro e; cases e; rfl
def wf (n:Int) (j:Nat):Int:=(wtF n j).2
theorem o9 (n:Int):wf n 0=1:=rfl
theorem lN (n:Int):wf n 1=n+1:=by show n*1+1=_; rw [Int.mul_one]
theorem qv (n:Int) (j:Nat):wf n (j+2)=n*wf n (j+1)+wf n j:=rfl
theorem yN {n:Int} (h:1≤n):∀ j,1≤wf n j∧wf n j≤wf n (j+1)
 | 0=>by rw [o9,lN]; omega
 | j+1=>by
  obtain ⟨a,b⟩:=yN h j
  have:wf n (j+1)≤n*wf n (j+1):=by
   have:=Int.mul_le_mul_of_nonneg_right h (show 0≤wf n (j+1) by omega)
   omega
  rw [qv]
  omega
def Vt (k:Kd) (n:Int):Nat→List Int→Nm
 | _,[]=>k.zero
 | j,f::r=>(Nm.i f).add ((k.ratN n j).mul (Vt k n (j+1) r))
theorem jo {k:Kd} {n:Int} {j:Nat} (h5:k.five=true):(k.ratN n j).ty k:=by
 cases k <;> first | exact ⟨_,rfl⟩ | exact ⟨_,_,rfl⟩ | cases h5
theorem oE {k:Kd} {f:Int} {m:Nm} (h:m.ty k):((Nm.i f).add m).ty k:=by
 by_cases hk:k=.pairs
 ·subst hk
  obtain ⟨a,b,rfl⟩:=h
  exact ⟨_,_,rfl⟩
 ·obtain ⟨a,rfl⟩:=xM hk h
  exact xW hk
theorem o0 {k:Kd} {n:Int} (h5:k.five=true):∀ (r:List Int) (j:Nat),(Vt k n j r).ty k
 | [],_=>y7 k
 | _::r,j=>oE (uN (xh (jo h5)) (o0 h5 r (j+1)))
theorem eS {P1 P2 w1 w2 f r1 r2 v1 v2:Int}:P1+(f*w1 - 0*w2)+((r1*w1 - r2*w2)*v1 - (r1*w2+r2*w1)*v2)=P1+(w1*(f+(r1*v1 - r2*v2)) - w2*(0+(r1*v2+r2*v1)))∧P2+(f*w2+0*w1)+((r1*w1 - r2*w2)*v2+(r1*w2+r2*w1)*v1)=P2+(w1*(0+(r1*v2+r2*v1))+w2*(f+(r1*v1 - r2*v2))):=by
 constructor <;> grind
theorem pE {k:Kd} {n:Int} (h5:k.five=true):∀ (r pre:List Int),
  (zx k n (pre++r)).re=(zx k n pre).re+((wt k n pre.length).mul (Vt k n pre.length r)).re∧(zx k n (pre++r)).im=(zx k n pre).im+((wt k n pre.length).mul (Vt k n pre.length r)).im
 | [],pre=>by
  rw [List.append_nil]
  unfold Vt
  rw [zJ,zO,zX,z_,Int.mul_zero,Int.mul_zero]
  exact ⟨by omega,by omega⟩
 | f::r,pre=>by
  obtain ⟨i1,i2⟩:=pE h5 r (pre++[f])
  have e:pre++f::r=(pre++[f])++r:=by rw [List.append_assoc]; rfl
  have el:(pre++[f]).length=pre.length+1:=by rw [List.length_append]; rfl
  have ev:Vt k n pre.length (f::r)=(Nm.i f).add ((k.ratN n pre.length).mul (Vt k n (pre.length+1) r)):=rfl
  rw [e,i1,i2,el,wG,xV h5,ev]
  simp only [zJ,zO,zZ,yn]
  have fr:(Nm.i f).re=f:=rfl
  have fi:(Nm.i f).im=0:=rfl
  rw [fr,fi]
  exact eS
theorem pF {k:Kd} {n:Int} (h5:k.five=true) (r:List Int):zx k n r=Vt k n 0 r:=by
 obtain ⟨a,b⟩:=pE (n:=n) h5 r []
 have e:wt k n 0=k.zero.add (.i 1):=by cases k <;> first | rfl | cases h5
 have r1:(wt k n 0).re=1:=by rw [e,zZ,zX]; rfl
 have r2:(wt k n 0).im=0:=by rw [e,yn,z_]; rfl
 have z1:(zx k n []).re=0:=zX k
 have z2:(zx k n []).im=0:=z_ k
 simp only [List.length_nil,List.nil_append] at a b
 rw [zJ,r1,r2,z1] at a
 rw [zO,r1,r2,z2] at b
 refine wU (zY k n r) (o0 h5 r 0) ?_ ?_
 ·rw [a]; omega
 ·rw [b]; omega
theorem rQ {lo n r t f c:Int} (hr:r=n∨r=-n) (h1:lo≤f) (h2:f≤lo+n - 1) (h3:lo≤t) (h4:t≤lo+n - 1) (e:f+c*r=t):c=0∧f=t:=by
 have hc:c=0:=by
  rcases (by omega:c=0∨1≤c∨c≤-1) with h | h | h
  ·exact h
  ·rcases hr with rfl | rfl
   ·have:=Int.mul_le_mul_of_nonneg_right h (show 0≤r by omega)
    omega
   ·have:=Int.mul_le_mul_of_nonneg_right h (show 0≤n by omega)
    rw [Int.mul_neg] at e
    omega
  ·rcases hr with rfl | rfl
   ·have:=Int.mul_le_mul_of_nonneg_right h (show 0≤r by omega)
    omega
   ·have:=Int.mul_le_mul_of_nonneg_right h (show 0≤n by omega)
    rw [Int.mul_neg] at e
    omega
 subst hc
 omega
theorem rV {k:Kd} {n f g:Int} {j:Nat} {c d:Nm} (h5:k.five=true) (hn:k.ok n) (f1:k.low n j≤f) (f2:f≤k.high n j) (g1:k.low n j≤g) (g2:g≤k.high n j) (tc:c.ty k) (td:d.ty k)
  (e:(Nm.i f).add ((k.ratN n j).mul c)=(Nm.i g).add ((k.ratN n j).mul d)):f=g∧c=d:=by
 have e1:=congrArg Nm.re e
 have e2:=congrArg Nm.im e
 rw [zZ,zZ,zJ,zJ] at e1
 rw [yn,yn,zO,zO] at e2
 by_cases hk:k=.pairs
 ·subst hk
  obtain ⟨a,b,rfl⟩:=tc
  obtain ⟨x,y,rfl⟩:=td
  simp only [Kd.ratN,Nm.re,Nm.im,Kd.low,Kd.high] at *
  have q1:f - n*(a - x) - (b - y)=g:=by rw [Int.mul_sub]; simp only [Int.neg_mul,Int.one_mul] at e1; omega
  have q2:(a - x) - n*(b - y)=0:=by rw [Int.mul_sub]; simp only [Int.neg_mul,Int.one_mul] at e2; omega
  generalize hu:a - x=u at *
  generalize hv:b - y=v at *
  have eu:u=n*v:=by omega
  rw [eu] at q1
  have e3:f+(-v)*(n*n+1)=g:=by
   have r1:n*(n*v)=v*(n*n):=by grind
   have r2:(-v)*(n*n+1)=-(v*(n*n)) - v:=by grind
   omega
  obtain ⟨h1,h2⟩:=rQ (lo:=0) (n:=n*n+1) (.inl rfl) f1 (by omega) g1 (by omega) e3
  have v0:v=0:=by omega
  rw [v0,Int.mul_zero] at eu
  exact ⟨h2,by rw [show a=x by omega,show b=y by omega]⟩
 ·have h4:=q8 h5 hk
  obtain ⟨a,rfl⟩:=xM hk tc
  obtain ⟨x,rfl⟩:=xM hk td
  have eR:k.ratN n j=.i (k.rat n j):=by cases k <;> first | rfl | exact absurd rfl hk
  rw [eR] at e1
  obtain ⟨z1,z2⟩:=qx h4 n j
  have q:f+(a - x)*k.rat n j=g:=by
   have e1':f+(k.rat n j*a - 0*0)=g+(k.rat n j*x - 0*0):=e1
   rw [Int.sub_mul,Int.mul_comm a,Int.mul_comm x]
   omega
  obtain ⟨h1,h2⟩:=rQ (lo:=k.low n j) (n:=k.size n j) z2 f1 (by omega) g1 (by omega) q
  exact ⟨h2,by rw [show a=x by omega]⟩
def Figs (k:Kd) (n:Int) (j:Nat) (r:List Int):Prop:=∀ p,p<r.length→k.low n ((j+p:Nat):Int)≤r.getD p 0∧r.getD p 0≤k.high n ((j+p:Nat):Int)
theorem Figs.cons {k:Kd} {n f:Int} {j:Nat} {r:List Int} (h:Figs k n j (f::r)):(k.low n j≤f∧f≤k.high n j)∧Figs k n (j+1) r:=by
 refine ⟨h 0 (by simp),fun p hp=>?_⟩
 have:=h (p+1) (by simp; exact hp)
 rw [show j+(p+1)=j+1+p by omega] at this
 exact this
theorem Ur {k:Kd} {n:Int} (h5:k.five=true) (hn:k.ok n):∀ (r s:List Int) (j:Nat),Figs k n j r→Figs k n j s→Vt k n j r=Vt k n j s→∀ p,r.getD p 0=s.getD p 0:=by
 have zz:∀ j:Nat,k.zero=(Nm.i 0).add ((k.ratN n j).mul k.zero):=fun j=>by
  refine wU (y7 k) (oE (uN (xh (jo h5)) (y7 k))) ?_ ?_
  ·rw [zZ,zJ,zX,z_,Int.mul_zero,Int.mul_zero]; rfl
  ·rw [yn,zO,zX,z_,Int.mul_zero,Int.mul_zero]; rfl
 have nilc:∀ (s:List Int) (j:Nat),Figs k n j s→k.zero=Vt k n j s→∀ p,(0:Int)=s.getD p 0:=by
  intro s
  induction s with
  | nil=>intro j _ _ p; rfl
  | cons g s ih=>
   intro j hs e p
   obtain ⟨⟨g1,g2⟩,hs'⟩:=hs.cons
   obtain ⟨l1,l2⟩:=uP hn j
   rw [zz j] at e
   obtain ⟨q1,q2⟩:=rV h5 hn l1 l2 g1 g2 (y7 k) (o0 h5 s (j+1)) e
   cases p with
   | zero=>exact q1
   | succ p=>exact ih (j+1) hs' q2 p
 intro r
 induction r with
 | nil=>intro s j _ hs e p; exact nilc s j hs e p
 | cons f r ih=>
  intro s j hr hs e p
  cases s with
  | nil=>exact (nilc (f::r) j hr e.symm p).symm
  | cons g s=>
   obtain ⟨⟨f1,f2⟩,hr'⟩:=hr.cons
   obtain ⟨⟨g1,g2⟩,hs'⟩:=hs.cons
   obtain ⟨q1,q2⟩:=rV h5 hn f1 f2 g1 g2 (o0 h5 r (j+1)) (o0 h5 s (j+1)) e
   cases p with
   | zero=>exact q1
   | succ p=>exact ih s (j+1) hr' hs' q2 p
theorem oI {r:List Int} {p:Nat} (h:r.length≤p):r.getD p 0=0:=by rw [List.getD_eq_getElem?_getD,List.getElem?_eq_none h]; rfl
theorem dj {r s:List Int} (h:∀ p,r.getD p 0=s.getD p 0) (hr:r=[]∨r.getD (r.length - 1) 0≠0) (hs:s=[]∨s.getD (s.length - 1) 0≠0):r=s:=by
 have hl:r.length=s.length:=by
  rcases (by omega:r.length=s.length∨r.length<s.length∨s.length<r.length) with z | z | z
  ·exact z
  ·rcases hs with hs | hs
   ·rw [hs] at z; simp at z
   ·exact absurd (by rw [← h]; exact oI (by omega)) hs
  ·rcases hr with hr | hr
   ·rw [hr] at z; simp at z
   ·exact absurd (by rw [h]; exact oI (by omega)) hr
 apply List.ext_getElem hl
 intro i h1 h2
 have:=h i
 rw [List.getD_eq_getElem?_getD,List.getD_eq_getElem?_getD,List.getElem?_eq_getElem h1,List.getElem?_eq_getElem h2] at this
 exact this
theorem yz (n:Int) (l:List Int) (z:Int):(zx .falling n (l++[z])).re=(zx .falling n l).re+z*wf n l.length:=by
 rw [wG,zZ]
 rfl
theorem Lg.nonneg {n:Int} {r:List Int} (h:Lg .falling n r) (h1:1≤n):0≤(zx .falling n r).re:=by
 generalize hl:r.length=m
 induction m generalizing r with
 | zero=>obtain rfl:r=[]:=List.length_eq_zero_iff.mp hl; exact Int.le_refl 0
 | succ m ih=>
  rcases zP r with rfl | ⟨l,z,rfl⟩
  ·cases hl
  ·have hz:=h.fig l.length (by rw [List.length_append]; simp)
   rw [getD_snoc_eq] at hz
   have hz0:0≤z:=hz.1
   have:=ih h.pop (by rw [List.length_append] at hl; exact Nat.succ.inj hl)
   rw [yz]
   have:=Int.mul_nonneg hz0 (show 0≤wf n l.length by have:=(yN h1 l.length).1; omega)
   omega
theorem Lg.lt {n:Int} (h1:1≤n):∀ (m:Nat) (r:List Int),r.length=m→Lg .falling n r→(zx .falling n r).re<wf n m:=by
 intro m
 induction m using Nat.strongRecOn with
 | ind m ih=>
  intro r hl h
  rcases zP r with rfl | ⟨l,z,rfl⟩
  ·subst hl; show (0:Int)<wf n 0; rw [o9]; decide
  ·have el:l.length+1=m:=by rw [List.length_append] at hl; exact hl
   have hz:=h.fig l.length (by rw [List.length_append]; simp)
   rw [getD_snoc_eq] at hz
   have hz0:0≤z:=hz.1
   have hz1:z≤n:=hz.2
   have il:=ih l.length (by omega) l rfl h.pop
   have wp:=(yN h1 l.length).1
   rw [yz,← el]
   rcases (by omega:z≤n - 1∨z=n) with c | c
   ·have k1:=Int.mul_le_mul_of_nonneg_right c (show 0≤wf n l.length by omega)
    have k2:(n - 1)*wf n l.length=n*wf n l.length - wf n l.length:=by rw [Int.sub_mul,Int.one_mul]
    have k3:n*wf n l.length<wf n (l.length+1):=by
     cases l.length with
     | zero=>rw [lN,o9]; omega
     | succ q=>rw [qv]; have:=(yN h1 q).1; omega
    omega
   ·subst c
    rcases zP l with rfl | ⟨l',y,rfl⟩
    ·show (0:Int)+z*wf z 0<wf z 1
     rw [o9,lN]; omega
    ·have hy:=h.fal rfl l'.length (by rw [List.length_append,List.length_append]; simp) (by
      have:=getD_snoc_eq (r:=l'++[y]) (z:=z)
      rw [List.length_append] at this
      exact this)
     rw [zM (by rw [List.length_append]; simp),getD_snoc_eq] at hy
     subst hy
     have i2:=ih l'.length (by rw [List.length_append] at el; simp at el; omega) l' rfl h.pop.pop
     rw [yz,Int.zero_mul,Int.add_zero,List.length_append]
     show _+z*wf z (l'.length+1)<wf z (l'.length+2)
     rw [qv]
     omega
theorem rP {n:Int} (h1:1≤n):∀ (m:Nat) (r s:List Int),r.length=m→s.length=m→Lg .falling n r→Lg .falling n s→(zx .falling n r).re=(zx .falling n s).re→r=s
 | 0,r,s,hr,hs,_,_,_=>by rw [List.length_eq_zero_iff.mp hr,List.length_eq_zero_iff.mp hs]
 | m+1,r,s,hr,hs,Lr,Ls,e=>by
  rcases zP r with rfl | ⟨l,z,rfl⟩
  ·cases hr
  rcases zP s with rfl | ⟨l',z',rfl⟩
  ·cases hs
  have e1:l.length=m:=by rw [List.length_append] at hr; exact Nat.succ.inj hr
  have e2:l'.length=m:=by rw [List.length_append] at hs; exact Nat.succ.inj hs
  rw [yz,yz,e1,e2] at e
  have a1:=Lr.pop.nonneg h1
  have a2:=Lr.pop.lt h1 m l e1
  have b1:=Ls.pop.nonneg h1
  have b2:=Ls.pop.lt h1 m l' e2
  have wp:=(yN h1 m).1
  have hz:z=z':=by
   rcases (by omega:z=z'∨z+1≤z'∨z'+1≤z) with c | c | c
   ·exact c
   ·have:=Int.mul_le_mul_of_nonneg_right c (show 0≤wf n m by omega)
    rw [Int.add_mul,Int.one_mul] at this
    omega
   ·have:=Int.mul_le_mul_of_nonneg_right c (show 0≤wf n m by omega)
    rw [Int.add_mul,Int.one_mul] at this
    omega
  subst hz
  rw [rP h1 m l l' e1 e2 Lr.pop Ls.pop (by omega)]
theorem Legal.lg {k:Kd} {n:Int} {r:List Int} (h:Legal k n r):Lg k n r:=⟨h.fig,h.fal⟩
theorem Legal.geF {n:Int} {r:List Int} (h:Legal .falling n r) (h1:1≤n) (hr:r≠[]):wf n (r.length - 1)≤(zx .falling n r).re:=by
 rcases zP r with rfl | ⟨l,z,rfl⟩
 ·exact absurd rfl hr
 ·have hz:=h.fig l.length (by rw [List.length_append]; simp)
  rw [getD_snoc_eq] at hz
  have hz0:0≤z:=hz.1
  have el:(l++[z]).length - 1=l.length:=by rw [List.length_append]; rfl
  rcases h.end_ with c | c
  ·exact absurd c hr
  ·rw [el,getD_snoc_eq] at c
   rw [yz,el]
   have a1:=h.lg.pop.nonneg h1
   have wp:=(yN h1 l.length).1
   have:=Int.mul_le_mul_of_nonneg_right (show 1≤z by omega) (show 0≤wf n l.length by omega)
   omega
theorem mG {n:Int} (h1:1≤n) {i j:Nat} (h:i≤j):wf n i≤wf n j:=by
 induction h with
 | refl=>exact Int.le_refl _
 | step _ ih=>exact Int.le_trans ih (yN h1 _).2
theorem S0 {k:Kd} {n:Int} {r s:List Int} (hn:k.ok n) (hr:Legal k n r) (hs:Legal k n s) (e:zx k n r=zx k n s):r=s:=by
 by_cases hk:k=.falling
 ·subst hk
  have h1:1≤n:=hn.1
  have e':=congrArg Nm.re e
  rcases (by omega:r.length=s.length∨r.length<s.length∨s.length<r.length) with z | z | z
  ·exact rP h1 _ r s z rfl hr.lg hs.lg e'
  ·have a:=hr.lg.lt h1 _ r rfl
   have b:=hs.geF h1 (by intro q; rw [q] at z; simp at z)
   have:=mG h1 (show r.length≤s.length - 1 by omega)
   omega
  ·have a:=hs.lg.lt h1 _ s rfl
   have b:=hr.geF h1 (by intro q; rw [q] at z; simp at z)
   have:=mG h1 (show s.length≤r.length - 1 by omega)
   omega
 ·have h5:k.five=true:=by cases k <;> first | rfl | exact absurd rfl hk
  rw [pF h5,pF h5] at e
  exact dj (Ur h5 hn r s 0 (fun p hp=>by rw [Nat.zero_add]; exact hr.fig p hp) (fun p hp=>by rw [Nat.zero_add]; exact hs.fig p hp) e) hr.end_ hs.end_
theorem kT {k:Kd} {n:Int} (hn:k.ok n) {j:Nat}:(k=.below∨k=.balanced∨k=.pairs)∨∃ x,wt k n j=.i x∧1≤x:=by
 obtain ⟨b1,b2⟩:=wT hn
 cases k with
 | below=>exact .inl (.inl rfl)
 | balanced=>exact .inl (.inr (.inl rfl))
 | pairs=>exact .inl (.inr (.inr rfl))
 | falling=>exact .inr ⟨_,rfl,(yN b1 j).1⟩
 | plain=>
  refine .inr ?_
  induction j with
  | zero=>exact ⟨_,rfl,by decide⟩
  | succ j ih=>
   obtain ⟨x,e,h⟩:=ih
   rw [xV rfl,e]
   exact ⟨_,rfl,by show 1≤n*x; have:=Int.mul_le_mul b1 h (by decide) (by omega); omega⟩
 | growing=>
  refine .inr ?_
  induction j with
  | zero=>exact ⟨_,rfl,by decide⟩
  | succ j ih=>
   obtain ⟨x,e,h⟩:=ih
   rw [xV rfl,e]
   exact ⟨_,rfl,by show 1≤(n+(j:Int))*x; have:=Int.mul_le_mul (show 1≤n+(j:Int) by omega) h (by decide) (by omega); omega⟩
def sG (k:Kd):Prop:=k=.plain∨k=.growing
theorem qr {k:Kd} {n:Int} (hk:sG k) (hn:k.ok n) (j:Nat):∃ w,wt k n j=.i w∧1≤w∧wt k n (j+1)=.i (k.rat n j*w)∧k.high n j=k.rat n j - 1∧k.low n j=0:=by
 rcases hk with rfl | rfl
 ·rcases kT hn (j:=j) with (h | h | h) | ⟨w,e,h⟩
  ·cases h
  ·cases h
  ·cases h
  ·exact ⟨w,e,h,by rw [xV rfl,e]; rfl,rfl,rfl⟩
 ·rcases kT hn (j:=j) with (h | h | h) | ⟨w,e,h⟩
  ·cases h
  ·cases h
  ·cases h
  ·exact ⟨w,e,h,by rw [xV rfl,e]; rfl,rfl,rfl⟩
theorem qH {k:Kd} (hk:sG k):k≠.pairs:=by rcases hk with rfl | rfl <;> (intro z; cases z)
theorem Yo {k:Kd} (hk:sG k):k.five=true:=by rcases hk with rfl | rfl <;> rfl
theorem qZ {k:Kd} {n:Int} {f:Nat→Int} (hk:sG k) (hn:k.ok n):∀ j:Nat,(∀ i:Nat,i<j→k.low n i≤f i∧f i≤k.high n i)→0≤(wF k n f j).re∧(wF k n f j).re<(wt k n j).re
 | 0,_=>by
  obtain ⟨w,e,h,_⟩:=qr hk hn 0
  rw [e]
  show 0≤(k.zero).re∧(k.zero).re<w
  rw [zX]
  omega
 | j+1,h=>by
  obtain ⟨a,b⟩:=qZ hk hn j fun i hi=>h i (by omega)
  obtain ⟨w,e,hw,e2,h1,h2⟩:=qr hk hn j
  obtain ⟨f1,f2⟩:=h j (by omega)
  rw [e2]
  have ew:(wF k n f (j+1)).re=(wF k n f j).re+f j*w:=by
   show ((wF k n f j).add ((Nm.i (f j)).mul (wt k n j))).re=_
   rw [zZ,e]
   rfl
  rw [ew]
  rw [e] at b
  have b':(wF k n f j).re<w:=b
  rw [h2] at f1
  rw [h1] at f2
  have m1:=Int.mul_nonneg f1 (show 0≤w by omega)
  have m2:=Int.mul_le_mul_of_nonneg_right f2 (show 0≤w by omega)
  rw [Int.sub_mul,Int.one_mul] at m2
  show 0≤_∧_<k.rat n j*w
  omega
theorem mt {k:Kd} {n:Int} {ts:List Nm} (hk:sG k) (hn:k.ok n) (ht:∀ t∈ts,tot k t) (j:Nat):0≤(wN k n ts j).re↔wo k (cAt k n ts j)=true:=by
 have h5:=Yo hk
 obtain ⟨t1,_⟩:=Z6 h5 hn ht j
 obtain ⟨c,ec⟩:=xM (qH hk) (xu k n ts j)
 obtain ⟨w,e,hw,_⟩:=qr hk hn j
 obtain ⟨a,b⟩:=qZ (f:=fAt k n ts) hk hn j fun i _=>by
  obtain ⟨s1,s2,_⟩:=vS (j:=i) h5 hn (w_ (xu k n ts i) (yV ht i))
  exact ⟨s1,s2⟩
 rw [e] at b
 have b':(wF k n (fAt k n ts) j).re<w:=b
 rw [ec,e,zJ] at t1
 have t1':(wN k n ts j).re=(wF k n (fAt k n ts) j).re+(w*c - 0*0):=t1
 rw [ec]
 have hh:wo k (.i c)=decide (0≤c):=by rcases hk with rfl | rfl <;> rfl
 rw [hh,decide_eq_true_iff,t1']
 constructor
 ·intro h
  rcases Int.lt_or_le c 0 with z | z
  ·have:=Int.mul_le_mul_of_nonneg_left (show c≤-1 by omega) (show 0≤w by omega)
   omega
  ·exact z
 ·intro h
  have:=Int.mul_nonneg (show 0≤w by omega) h
  omega
theorem oy {k:Kd} {m:Nm} (h5:k.five=true) (hk:¬ sG k) (hm:m.ty k):wo k m=true:=by
 cases k with
 | plain=>exact absurd (.inl rfl) hk
 | growing=>exact absurd (.inr rfl) hk
 | falling=>cases h5
 | below=>obtain ⟨a,rfl⟩:=hm; rfl
 | balanced=>obtain ⟨a,rfl⟩:=hm; rfl
 | pairs=>obtain ⟨a,b,rfl⟩:=hm; rfl
theorem jf {k:Kd} {n:Int} {ts:List Nm} {b:Nat} (h5:k.five=true) (hn:k.ok n) (ht:∀ t∈ts,tot k t) (hb:∀ t∈ts,t.re.natAbs≤2 ^ b∧t.im.natAbs≤2 ^ b) (b7:7≤b) (hw:sG k→0≤(yc k n ts).re):
  ∃ J,Fin k n ts J∧J≤ts.length+4*b+30:=by
 suffices z:wo k (cAt k n ts ts.length)=true by
  obtain ⟨J,F,hJ,_⟩:=eY h5 hn ht hb b7 z
  exact ⟨J,F,hJ⟩
 by_cases hk:sG k
 ·exact (mt hk hn ht _).mp (hw hk)
 ·exact oy h5 hk (xu k n ts _)
theorem kX (r:List Int):(r.map Nm.i).map Nm.dt=r.map Dt.int:=by rw [List.map_map]; rfl
theorem xO {k:Kd} {r:List Int}:∀ t∈r.map Nm.i,tot k t:=fun t h=>by
 obtain ⟨z,_,e⟩:=List.mem_map.mp h
 rw [← e]
 exact pO k z
theorem mK (k:Kd) (n:Int) (r:List Int):∀ j,wN k n (r.map Nm.i) j=yD k n r j
 | 0=>rfl
 | j+1=>by
  have e:(r.map Nm.i).getD j (.i 0)=.i (r.getD j 0):=by
   rw [List.getD_eq_getElem?_getD,List.getD_eq_getElem?_getD,List.getElem?_map]
   cases r[j]? <;> rfl
  unfold wN yD
  rw [mK k n r j,e]
theorem yy (k:Kd) (n:Int) (r:List Int):yc k n (r.map Nm.i)=zx k n r:=by
 unfold yc zx
 rw [List.length_map,mK]
theorem kA {k:Kd} {n:Int} {r:List Int} (hn:k.ok n) (h:Legal k n r):wo k (zx k n r)=true:=by
 by_cases hf:k=.falling
 ·subst hf
  have:=h.lg.nonneg hn.1
  obtain ⟨a,e⟩:=zY .falling n r
  rw [e] at this ⊢
  exact decide_eq_true this
 ·have h5:k.five=true:=by cases k <;> first | rfl | exact absurd rfl hf
  by_cases hk:sG k
  ·have a:=(qZ (f:=fun i=>r.getD i 0) hk hn r.length fun i hi=>h.fig i hi).1
   obtain ⟨x,e⟩:=xM (qH hk) (zY k n r)
   have:zx k n r=wF k n (fun i=>r.getD i 0) r.length:=va k n r _
   rw [← this,e] at a
   rw [e]
   have a':0≤x:=a
   rcases hk with rfl | rfl <;> exact decide_eq_true a'
  ·exact oy h5 hk (zY k n r)
theorem qa {k:Kd} {n:Int} {r:List Int} (hn:k.ok n) (h:Legal k n r) (hl:r.length≤2000):∀ t∈r,t.natAbs≤4000:=by
 intro t ht
 obtain ⟨i,hi,e⟩:=List.getElem_of_mem ht
 have f:=h.fig i hi
 have eg:r.getD i 0=t:=by rw [List.getD_eq_getElem?_getD,List.getElem?_eq_getElem hi,e]; rfl
 rw [eg] at f
 obtain ⟨b1,b2⟩:=wT hn
 have sq:n*n≤3600:=by have:=Int.mul_le_mul b2 b2 (by omega) (by omega); omega
 cases k <;> simp only [Kd.low,Kd.high] at f <;> omega
abbrev Stp:=Bool × Nat
def hf (h:List Int) (p:Nat):Int:=h.getD p 0
def pt (a:Nat) (c:Int) (i:Nat):Int:=if i=a then c else 0
def chg (n:Int):Stp→List (Nat × Int)
 | (true,p)=>[(p+1,1),(p,-n),(p - 1,-1)]
 | (false,0)=>[(1,1),(0,-n - 1)]
 | (false,1)=>[(2,1),(1,-n - 1),(0,n)]
 | (false,p+2)=>[(p+3,1),(p+2,-n - 1),(p+1,n - 1),(p,1)]
def w6:List (Nat × Int)→Nat→Int
 | [],_=>0
 | x::l,i=>pt x.1 x.2 i+w6 l i
def dlt (n:Int) (s:Stp) (i:Nat):Int:=w6 (chg n s) i
def Can (n:Int):Stp→(Nat→Int)→Prop
 | (true,p),f=>0<p∧n≤f p∧0<f (p - 1)
 | (false,p),f=>n<f p
def sm (w f:Nat→Int):Nat→Int
 | 0=>0
 | m+1=>sm w f m+f m*w m
def ls (w:Nat→Int):List (Nat × Int)→Int
 | []=>0
 | x::l=>x.2*w x.1+ls w l
theorem sj (w f g:Nat→Int):∀ m,sm w (fun i=>f i+g i) m=sm w f m+sm w g m
 | 0=>rfl
 | m+1=>by
  show sm w (fun i=>f i+g i) m+(f m+g m)*w m=(sm w f m+f m*w m)+(sm w g m+g m*w m)
  rw [sj w f g m,Int.add_mul]
  omega
theorem jd (w f:Nat→Int) (c:Int):∀ m,sm w (fun i=>c*f i) m=c*sm w f m
 | 0=>by show (0:Int)=c*0; rw [Int.mul_zero]
 | m+1=>by
  show sm w (fun i=>c*f i) m+(c*f m)*w m=c*(sm w f m+f m*w m)
  rw [jd w f c m,Int.mul_add,Int.mul_assoc]
theorem Zu (w:Nat→Int) (a:Nat) (c:Int):∀ m,sm w (pt a c) m=if a<m then c*w a else 0
 | 0=>by rw [if_neg (Nat.not_lt_zero _)]; rfl
 | m+1=>by
  show sm w (pt a c) m+pt a c m*w m=_
  rw [Zu w a c m]
  unfold pt
  by_cases h:m=a
  ·subst h
   rw [if_neg (Nat.lt_irrefl _),if_pos rfl,if_pos (Nat.lt_succ_self _)]
   omega
  ·rw [if_neg h,Int.zero_mul]
   by_cases h2:a<m
   ·rw [if_pos h2,if_pos (by omega)]; omega
   ·rw [if_neg h2,if_neg (by omega)]; omega
theorem mM (w:Nat→Int) (m:Nat):∀ l:List (Nat × Int),(∀ x∈l,x.1<m)→sm w (w6 l) m=ls w l
 | [],_=>by
  show sm w (fun _=>0) m=0
  induction m with
  | zero=>rfl
  | succ m ih=>show sm w (fun _=>0) m+0*w m=0; rw [ih (fun _ h=>nomatch h)]; omega
 | x::l,h=>by
  show sm w (fun i=>pt x.1 x.2 i+w6 l i) m=x.2*w x.1+ls w l
  rw [sj,mM w m l (fun y hy=>h y (List.mem_cons_of_mem _ hy))]
  rw [show sm w (fun i=>pt x.1 x.2 i) m=_ from Zu w x.1 x.2 m,if_pos (h x List.mem_cons_self)]
theorem mr {n:Int} {s:Stp} {m:Nat} (h:s.2+2≤m):∀ x∈chg n s,x.1<m:=by
 intro x hx
 match s,h,hx with
 | (true,p),h,hx=>
  have h:p+2≤m:=h
  rcases List.mem_cons.mp hx with rfl | hx
  ·show p+1<m; omega
  rcases List.mem_cons.mp hx with rfl | hx
  ·show p<m; omega
  rw [List.mem_singleton.mp hx]
  show p - 1<m; omega
 | (false,0),h,hx=>
  have h:0+2≤m:=h
  rcases List.mem_cons.mp hx with rfl | hx
  ·show 1<m; omega
  rw [List.mem_singleton.mp hx]
  show 0<m; omega
 | (false,1),h,hx=>
  have h:1+2≤m:=h
  rcases List.mem_cons.mp hx with rfl | hx
  ·show 2<m; omega
  rcases List.mem_cons.mp hx with rfl | hx
  ·show 1<m; omega
  rw [List.mem_singleton.mp hx]
  show 0<m; omega
 | (false,p+2),h,hx=>
  have h:p+2+2≤m:=h
  rcases List.mem_cons.mp hx with rfl | hx
  ·show p+3<m; omega
  rcases List.mem_cons.mp hx with rfl | hx
  ·show p+2<m; omega
  rcases List.mem_cons.mp hx with rfl | hx
  ·show p+1<m; omega
  rw [List.mem_singleton.mp hx]
  show p<m; omega
theorem SK {n:Int} {s:Stp} (h:s.1=true→0<s.2):ls (wf n) (chg n s)=0:=by
 match s,h with
 | (true,0),h=>exact absurd (h rfl) (Nat.lt_irrefl _)
 | (true,q+1),_=>
  show 1*wf n (q+2)+(-n*wf n (q+1)+(-1*wf n q+0))=0
  rw [qv]
  grind
 | (false,0),_=>
  show 1*wf n 1+((-n - 1)*wf n 0+0)=0
  rw [lN,o9]
  omega
 | (false,1),_=>
  show 1*wf n (0+2)+((-n - 1)*wf n 1+(n*wf n 0+0))=0
  rw [qv,lN,o9]
  grind
 | (false,q+2),_=>
  show 1*wf n ((q+1)+2)+((-n - 1)*wf n (q+2)+((n - 1)*wf n (q+1)+(1*wf n q+0)))=0
  rw [qv n (q+1),qv n q]
  grind
def cst (n:Int) (i:Nat):Int:=if n=1 then (if i=0 then 7 else 4*i+8) else i+1
theorem vn (n:Int) (i:Nat):1≤cst n i∧cst n i≤4*i+8:=by
 unfold cst
 split
 ·split <;> omega
 ·omega
theorem tO (i:Nat):cst 1 i=if i=0 then (7:Int) else 4*(i:Int)+8:=by unfold cst; rw [if_pos rfl]
theorem tN {n:Int} (h:n≠1) (i:Nat):cst n i=i+1:=by unfold cst; rw [if_neg h]
theorem SL {n:Int} (hn:1≤n) {s:Stp} (h:s.1=true→0<s.2):ls (cst n) (chg n s)≤-1:=by
 by_cases h1:n=1
 ·subst h1
  match s,h with
  | (true,0),h=>exact absurd (h rfl) (Nat.lt_irrefl _)
  | (true,q+1),_=>
   show 1*cst 1 (q+2)+(-1*cst 1 (q+1)+(-1*cst 1 q+0))≤-1
   rw [tO,tO,tO,if_neg (by omega),if_neg (by omega)]
   split <;> omega
  | (false,0),_=>
   show 1*cst 1 1+((-1 - 1)*cst 1 0+0)≤-1
   rw [tO,tO]; decide
  | (false,1),_=>
   show 1*cst 1 2+((-1 - 1)*cst 1 1+(1*cst 1 0+0))≤-1
   rw [tO,tO,tO]; decide
  | (false,q+2),_=>
   show 1*cst 1 (q+3)+((-1 - 1)*cst 1 (q+2)+((1 - 1)*cst 1 (q+1)+(1*cst 1 q+0)))≤-1
   rw [tO,tO,tO,tO,if_neg (by omega),if_neg (by omega),if_neg (by omega)]
   split <;> omega
 ·match s,h with
  | (true,0),h=>exact absurd (h rfl) (Nat.lt_irrefl _)
  | (true,q+1),_=>
   show 1*cst n (q+2)+(-n*cst n (q+1)+(-1*cst n q+0))≤-1
   rw [tN h1,tN h1,tN h1]
   have hq:0≤n*(q:Int):=Int.mul_nonneg (by omega) (by omega)
   have e:1*(((q+2:Nat):Int)+1)+(-n*(((q+1:Nat):Int)+1)+(-1*((q:Int)+1)+0))=2 - n*q - 2*n:=by
    rw [show ((q+2:Nat):Int)=(q:Int)+2 by omega,show ((q+1:Nat):Int)=(q:Int)+1 by omega]
    grind
   rw [e]
   omega
  | (false,0),_=>
   show 1*cst n 1+((-n - 1)*cst n 0+0)≤-1
   rw [tN h1,tN h1]
   omega
  | (false,1),_=>
   show 1*cst n 2+((-n - 1)*cst n 1+(n*cst n 0+0))≤-1
   rw [tN h1,tN h1,tN h1]
   omega
  | (false,q+2),_=>
   show 1*cst n (q+3)+((-n - 1)*cst n (q+2)+((n - 1)*cst n (q+1)+(1*cst n q+0)))≤-1
   rw [tN h1,tN h1,tN h1,tN h1]
   have e:1*(((q+3:Nat):Int)+1)+((-n - 1)*(((q+2:Nat):Int)+1)+((n - 1)*(((q+1:Nat):Int)+1)+(1*((q:Int)+1)+0)))=-n:=by
    rw [show ((q+3:Nat):Int)=(q:Int)+3 by omega,show ((q+2:Nat):Int)=(q:Int)+2 by omega,show ((q+1:Nat):Int)=(q:Int)+1 by omega]
    grind
   rw [e]
   omega
theorem fC {n:Int} {p:Nat} (h:0<p):dlt n (true,p) p=-n∧dlt n (true,p) (p - 1)=-1∧∀ i,i≠p→i≠p - 1→0≤dlt n (true,p) i:=by
 refine ⟨?_,?_,fun i h1 h2=>?_⟩
 ·show pt (p+1) 1 p+(pt p (-n) p+(pt (p - 1) (-1) p+0))=-n
  unfold pt
  rw [if_neg (by omega),if_pos rfl,if_neg (by omega)]
  omega
 ·show pt (p+1) 1 (p - 1)+(pt p (-n) (p - 1)+(pt (p - 1) (-1) (p - 1)+0))=-1
  unfold pt
  rw [if_neg (by omega),if_neg (by omega),if_pos rfl]
  omega
 ·show 0≤pt (p+1) 1 i+(pt p (-n) i+(pt (p - 1) (-1) i+0))
  unfold pt
  rw [if_neg h1,if_neg h2]
  split <;> omega
theorem oR {n:Int} (hn:1≤n) (p:Nat):dlt n (false,p) p=-n - 1∧∀ i,i≠p→0≤dlt n (false,p) i:=by
 match p with
 | 0=>
  refine ⟨?_,fun i h1=>?_⟩
  ·show pt 1 1 0+(pt 0 (-n - 1) 0+0)=_
   unfold pt
   rw [if_neg (by omega),if_pos rfl]
   omega
  ·show 0≤pt 1 1 i+(pt 0 (-n - 1) i+0)
   unfold pt
   rw [if_neg h1]
   split <;> omega
 | 1=>
  refine ⟨?_,fun i h1=>?_⟩
  ·show pt 2 1 1+(pt 1 (-n - 1) 1+(pt 0 n 1+0))=_
   unfold pt
   rw [if_neg (by omega),if_pos rfl,if_neg (by omega)]
   omega
  ·show 0≤pt 2 1 i+(pt 1 (-n - 1) i+(pt 0 n i+0))
   unfold pt
   rw [if_neg h1]
   split <;> split <;> omega
 | q+2=>
  refine ⟨?_,fun i h1=>?_⟩
  ·show pt (q+3) 1 (q+2)+(pt (q+2) (-n - 1) (q+2)+(pt (q+1) (n - 1) (q+2)+(pt q 1 (q+2)+0)))=_
   unfold pt
   rw [if_neg (by omega),if_pos rfl,if_neg (by omega),if_neg (by omega)]
   omega
  ·show 0≤pt (q+3) 1 i+(pt (q+2) (-n - 1) i+(pt (q+1) (n - 1) i+(pt q 1 i+0)))
   unfold pt
   rw [if_neg h1]
   split <;> split <;> split <;> omega
def Oft (n:Int):Stp→(Nat→Int)→Int→Prop
 | (true,p),f,m=>0<p∧m*n≤f p∧m≤f (p - 1)
 | (false,p),f,m=>m*(n+1)≤f p
theorem Oft.up {n m:Int} {s:Stp} {f:Nat→Int} (h:Oft n s f m):s.1=true→0<s.2:=by
 match s,h with
 | (true,p),h=>exact fun _=>h.1
 | (false,p),_=>exact fun z=>Bool.noConfusion z
theorem Oft.nonneg {n m:Int} (hn:1≤n) (hm:0≤m) {s:Stp} {f:Nat→Int} (h:Oft n s f m) (hf0:∀ i,0≤f i) (i:Nat):0≤f i+m*dlt n s i:=by
 have pos:∀ d:Int,0≤d→0≤f i+m*d:=fun d hd=>by
  have:=Int.mul_nonneg hm hd
  have:=hf0 i
  omega
 match s,h with
 | (true,p),⟨h1,h2,h3⟩=>
  obtain ⟨a,b,c⟩:=fC (n:=n) h1
  by_cases e1:i=p
  ·subst e1; rw [a,Int.mul_neg]; omega
  by_cases e2:i=p - 1
  ·subst e2; rw [b,Int.mul_neg,Int.mul_one]; omega
  exact pos _ (c i e1 e2)
 | (false,p),h=>
  obtain ⟨a,c⟩:=oR hn p
  by_cases e1:i=p
  ·subst e1
   rw [a,show -n - 1=-(n+1) by omega,Int.mul_neg]
   have:m*(n+1)≤f i:=h
   omega
  exact pos _ (c i e1)
theorem Oft.can {n m j:Int} (hn:1≤n) {s:Stp} {f:Nat→Int} (h:Oft n s f m) (hj0:0≤j) (hj:j<m):Can n s (fun i=>f i+j*dlt n s i):=by
 match s,h with
 | (true,p),⟨h1,h2,h3⟩=>
  obtain ⟨a,b,c⟩:=fC (n:=n) h1
  have k:=Int.mul_le_mul_of_nonneg_right (show j+1≤m by omega) (show 0≤n by omega)
  rw [Int.add_mul,Int.one_mul] at k
  refine ⟨h1,?_,?_⟩
  ·show n≤f p+j*dlt n (true,p) p
   rw [a,Int.mul_neg]; omega
  ·show 0<f (p - 1)+j*dlt n (true,p) (p - 1)
   rw [b,Int.mul_neg,Int.mul_one]; omega
 | (false,p),h=>
  obtain ⟨a,c⟩:=oR hn p
  have h:m*(n+1)≤f p:=h
  have k:=Int.mul_le_mul_of_nonneg_right (show j+1≤m by omega) (show 0≤n+1 by omega)
  rw [Int.add_mul,Int.one_mul] at k
  show n<f p+j*dlt n (false,p) p
  rw [a,show -n - 1=-(n+1) by omega,Int.mul_neg]
  omega
def Walk (n:Int):(Nat→Int)→List Stp→(Nat→Int)→Prop
 | f,[],g=>f=g
 | f,s::ss,g=>Can n s f∧Walk n (fun i=>f i+dlt n s i) ss g
theorem Walk.append {n:Int} {g k:Nat→Int} {ts:List Stp} (h2:Walk n g ts k):∀ {ss:List Stp} {f:Nat→Int},Walk n f ss g→Walk n f (ss++ts) k
 | [],_,h=>by rw [show _=g from h]; exact h2
 | s::ss,_,h=>⟨h.1,Walk.append h2 h.2⟩
theorem pL {n:Int} {s:Stp}:∀ (m:Nat) (f:Nat→Int),(∀ j:Nat,j<m→Can n s (fun i=>f i+j*dlt n s i))→Walk n f (List.replicate m s) (fun i=>f i+m*dlt n s i)
 | 0,f,_=>by
  show f=_
  funext i
  rw [show ((0:Nat):Int)=0 from rfl,Int.zero_mul,Int.add_zero]
 | m+1,f,h=>by
  refine ⟨?_,?_⟩
  ·have:=h 0 (Nat.succ_pos _)
   have e:(fun i=>f i+((0:Nat):Int)*dlt n s i)=f:=by
    funext i
    rw [show ((0:Nat):Int)=0 from rfl,Int.zero_mul,Int.add_zero]
   rw [e] at this
   exact this
  ·have:=pL m (fun i=>f i+dlt n s i) (fun j hj=>by
    have:=h (j+1) (by omega)
    have e:(fun i=>f i+((j+1:Nat):Int)*dlt n s i)=fun i=>f i+dlt n s i+j*dlt n s i:=by
     funext i
     rw [show ((j+1:Nat):Int)=(j:Int)+1 by omega,Int.add_mul,Int.one_mul]
     omega
    rw [e] at this
    exact this)
   have e:(fun i=>f i+((m+1:Nat):Int)*dlt n s i)=fun i=>f i+dlt n s i+m*dlt n s i:=by
    funext i
    rw [show ((m+1:Nat):Int)=(m:Int)+1 by omega,Int.add_mul,Int.one_mul]
    omega
   rw [e]
   exact this
theorem y3 {h:List Int} {i:Nat} (hi:h.length≤i):hf h i=0:=by unfold hf; rw [List.getD_eq_getElem?_getD,List.getElem?_eq_none hi]; rfl
theorem si (w:Nat→Int) {f:Nat→Int} {k:Nat} (h:∀ i,k≤i→f i=0):∀ m,k≤m→sm w f m=sm w f k
 | 0,hm=>by rw [show k=0 by omega]
 | m+1,hm=>by
  by_cases e:k=m+1
  ·rw [e]
  ·show sm w f m+f m*w m=_
   rw [h m (by omega),Int.zero_mul,si w h m (by omega)]
   omega
def hw (n:Int) (h:List Int):Int:=sm (wf n) (hf h) h.length
def pot (n:Int) (h:List Int):Int:=sm (cst n) (hf h) h.length
theorem T_ {h:List Int} (h0:∀ z∈h,0≤z) (i:Nat):0≤hf h i:=by
 unfold hf
 rw [List.getD_eq_getElem?_getD]
 cases q:h[i]? with
 | none=>exact Int.le_refl _
 | some z=>exact h0 z (List.mem_of_getElem? q)
theorem pR {w f:Nat→Int} (hw:∀ i,0≤w i) (hf:∀ i,0≤f i):∀ m,0≤sm w f m
 | 0=>Int.le_refl _
 | m+1=>Int.add_nonneg (pR hw hf m) (Int.mul_nonneg (hf m) (hw m))
theorem je {w f:Nat→Int} (hw:∀ i,0≤w i) (hf:∀ i,0≤f i) {i:Nat}:∀ m,i<m→f i*w i≤sm w f m
 | 0,h=>absurd h (Nat.not_lt_zero _)
 | m+1,h=>by
  show _≤sm w f m+f m*w m
  by_cases e:i=m
  ·subst e
   have:=pR hw hf i
   omega
  ·have:=je hw hf (i:=i) m (by omega)
   have:=Int.mul_nonneg (hf m) (hw m)
   omega
theorem jc {n:Int} (hn:1≤n) {f:Nat→Int} (hf:∀ i,0≤f i):∀ m,sm (wf n) f m≤sm (fun _=>1) f m*wf n m
 | 0=>by show (0:Int)≤0*_; rw [Int.zero_mul]; exact Int.le_refl _
 | m+1=>by
  obtain ⟨p1,p2⟩:=yN hn m
  have ih:=jc hn hf m
  have t0:=pR (w:=fun _=>1) (fun _=>by decide) hf (m+1)
  have k:=Int.mul_le_mul_of_nonneg_left p2 t0
  have e:sm (fun _=>1) f (m+1)*wf n m=sm (fun _=>1) f m*wf n m+f m*wf n m:=by
   show (sm (fun _=>1) f m+f m*1)*wf n m=_
   rw [Int.mul_one,Int.add_mul]
  show sm (wf n) f m+f m*wf n m≤_
  omega
theorem Zv {w v f:Nat→Int} (hf:∀ i,0≤f i) (h:∀ i,w i≤v i):∀ m,sm w f m≤sm v f m
 | 0=>Int.le_refl _
 | m+1=>by
  have:=Zv hf h m
  have:=Int.mul_le_mul_of_nonneg_left (h m) (hf m)
  show sm w f m+f m*w m≤sm v f m+f m*v m
  omega
theorem mH {n:Int} (hn:1≤n) (m:Nat):∀ b:Nat,((2 ^ b:Nat):Int)*wf n m≤wf n (m+2*b)
 | 0=>by rw [show ((2 ^ 0:Nat):Int)=1 from rfl,Int.one_mul]; exact Int.le_refl _
 | b+1=>by
  have ih:=mH hn m b
  obtain ⟨a1,b1⟩:=yN hn (m+2*b)
  have:wf n (m+2*b+1)≤n*wf n (m+2*b+1):=by
   have:=Int.mul_le_mul_of_nonneg_right hn (show 0≤wf n (m+2*b+1) by omega)
   omega
  have e:wf n (m+2*(b+1))=n*wf n (m+2*b+1)+wf n (m+2*b):=qv n (m+2*b)
  have hp:((2 ^ (b+1):Nat):Int)*wf n m=2*(((2 ^ b:Nat):Int)*wf n m):=by rw [Nat.pow_succ,Int.natCast_mul,Int.mul_comm ((2 ^ b:Nat):Int),Int.mul_assoc]; rfl
  omega
theorem pK {n:Int} (hn:1≤n) (m:Nat):∀ k,wf n m≤wf n (m+k)
 | 0=>Int.le_refl _
 | k+1=>Int.le_trans (pK hn m k) (yN hn (m+k)).2
theorem jA {n:Int} (hn:1≤n) {h l:List Int} (h0:∀ i,0≤hf h i) (l0:∀ i,0≤hf l i) (hp:pot n h≤15000000) (e:hw n l=hw n h) {p:Nat} (hpos:0<hf l p):p<h.length+48:=by
 rcases Nat.lt_or_ge p (h.length+48) with z | z
 ·exact z
 exfalso
 have hpl:p<l.length:=by
  rcases Nat.lt_or_ge p l.length with z | z
  ·exact z
  ·rw [y3 z] at hpos; omega
 have w0:∀ i,0≤wf n i:=fun i=>by have:=(yN hn i).1; omega
 have g1:=je w0 l0 l.length hpl
 have g2:wf n p≤hf l p*wf n p:=by
  have:=Int.mul_le_mul_of_nonneg_right (show 1≤hf l p by omega) (w0 p)
  omega
 have t:=jc hn h0 h.length
 have tp:sm (fun _=>1) (hf h) h.length≤pot n h:=Zv h0 (fun i=>(vn n i).1) _
 have gr:=mH hn h.length 24
 have mo:=pK hn (h.length+2*24) (p - (h.length+2*24))
 rw [show h.length+2*24+(p - (h.length+2*24))=p by omega] at mo
 have w1:=(yN hn h.length).1
 have k:=Int.mul_le_mul_of_nonneg_right (show sm (fun _=>1) (hf h) h.length≤15000000 by omega) (show 0≤wf n h.length by omega)
 have e2:((2 ^ 24:Nat):Int)=16777216:=by decide
 rw [e2] at gr
 have e:sm (wf n) (hf l) l.length=sm (wf n) (hf h) h.length:=e
 omega
theorem kG {n m:Int} (hn:1≤n) (hm:1≤m) {l l':List Int} {s:Stp} (l0:∀ i,0≤hf l i) (ho:Oft n s (hf l) m) (hl:l'.length=max l.length (s.2+2)) (he:∀ i,hf l' i=hf l i+m*dlt n s i):
  (∀ i,0≤hf l' i)∧hw n l'=hw n l∧pot n l'+m≤pot n l∧Walk n (hf l) (List.replicate m.toNat s) (hf l'):=by
 have ef:hf l'=fun i=>hf l i+m*dlt n s i:=funext he
 have sums:∀ w:Nat→Int,sm w (hf l') l'.length=sm w (hf l) l.length+m*ls w (chg n s):=fun w=>by
  rw [ef,sj,jd,show sm w (fun i=>dlt n s i) l'.length=_ from mM w l'.length (chg n s) (mr (by omega)),si w (fun i hi=>y3 hi) l'.length (by omega)]
 refine ⟨fun i=>?_,?_,?_,?_⟩
 ·rw [he]; exact ho.nonneg hn (by omega) l0 i
 ·show sm (wf n) (hf l') l'.length=sm (wf n) (hf l) l.length
  rw [sums,SK ho.up,Int.mul_zero,Int.add_zero]
 ·show sm (cst n) (hf l') l'.length+m≤sm (cst n) (hf l) l.length
  rw [sums]
  have:=Int.mul_le_mul_of_nonneg_left (SL hn ho.up) (show 0≤m by omega)
  omega
 ·have:=pL (n:=n) (s:=s) m.toNat (hf l) (fun j hj=>ho.can hn (by omega) (by omega))
  rw [show ((m.toNat:Nat):Int)=m from Int.toNat_of_nonneg (by omega)] at this
  rw [ef]
  exact this
theorem m7 (l:List Int) (i:Nat):hf (trim l) i=hf l i:=by
 generalize hl:l.length=m
 induction m generalizing l with
 | zero=>rw [List.length_eq_zero_iff.mp hl]; rfl
 | succ m ih=>
  rcases zP l with rfl | ⟨r,z,rfl⟩
  ·cases hl
  ·by_cases hz:z=0
   ·subst hz
    rw [xN,ih r (by rw [List.length_append] at hl; exact Nat.succ.inj hl)]
    unfold hf
    rw [List.getD_eq_getElem?_getD,List.getD_eq_getElem?_getD]
    by_cases h1:i<r.length
    ·rw [List.getElem?_append_left h1]
    ·rw [List.getElem?_eq_none (by omega)]
     rw [List.getElem?_append_right (by omega)]
     by_cases h2:i - r.length=0
     ·rw [h2]; rfl
     ·rw [List.getElem?_eq_none (by simp; omega)]
   ·rw [vQ hz]
theorem aM (n:Int) (l:List Int):hw n (trim l)=hw n l:=by
 have e:hf (trim l)=hf l:=funext (m7 l)
 show sm (wf n) (hf (trim l)) (trim l).length=sm (wf n) (hf l) l.length
 rw [← si (wf n) (fun i hi=>y3 hi) l.length (vR l),e]
structure SZ (n:Int) (h:List Int) (ss:List Stp) (r:List Int):Prop where
 leg:Legal .falling n r
 eqw:hw n r=hw n h
 wlk:Walk n (hf h) ss (hf r)
 len:r.length≤h.length+60
 few:ss.length≤15000000
def yt (n:Int) (f:Nat→Int) (p:Nat):Option Stp:=if 0<p∧n≤f p∧0<f (p - 1) then some (true,p) else if n<f p then some (false,p) else none
theorem u6 {n:Int} {f:Nat→Int} {p:Nat} (h:yt n f p=none):f p≤n∧(0<p→n≤f p→f (p - 1)≤0):=by
 unfold yt at h
 split at h
 ·cases h
 ·rename_i h1
  split at h
  ·cases h
  ·rename_i h2
   refine ⟨by omega,fun a b=>?_⟩
   rcases Int.lt_or_le 0 (f (p - 1)) with z | z
   ·exact absurd ⟨a,b,z⟩ h1
   ·exact z
theorem pP {n:Int} {f:Nat→Int} {p:Nat} {s:Stp} (h:yt n f p=some s):s.2=p∧Can n s f:=by
 unfold yt at h
 split at h
 ·rename_i h1; cases h; exact ⟨rfl,h1⟩
 ·split at h
  ·rename_i h2; cases h; exact ⟨rfl,h2⟩
  ·cases h
theorem aJ {n:Int} {l:List Int} (l0:∀ i,0≤hf l i) (h:∀ q,q<l.length→yt n (hf l) q=none):Lg .falling n l:=by
 refine ⟨fun p hp=>⟨l0 p,(u6 (h p hp)).1⟩,fun _ p hp e=>?_⟩
 have:=(u6 (h (p+1) hp)).2 (by omega) (by unfold hf; rw [e]; exact Int.le_refl _)
 have k:=l0 p
 rw [show p+1 - 1=p by omega] at this
 unfold hf at this k
 omega
theorem ln {n:Int} {s:Stp} {i:Nat} (h:s.2+1<i):dlt n s i=0:=by
 have key:∀ l:List (Nat × Int),(∀ x∈l,x.1<i)→w6 l i=0:=by
  intro l
  induction l with
  | nil=>intro _; rfl
  | cons x l ih=>
   intro hl
   show pt x.1 x.2 i+w6 l i=0
   rw [ih (fun y hy=>hl y (List.mem_cons_of_mem _ hy))]
   unfold pt
   rw [if_neg (by have:=hl x List.mem_cons_self; omega)]
   rfl
 exact key _ (mr (by omega))
theorem mF (n:Int) (r:List Int):∀ j,yD .falling n r j=.i (sm (wf n) (hf r) j)
 | 0=>rfl
 | j+1=>by
  show (yD .falling n r j).add ((Nm.i (r.getD j 0)).mul (.i (wf n j)))=_
  rw [mF n r j]
  rfl
theorem Yn {n B:Int} {h:List Int} (hb:∀ z∈h,0≤z∧z≤B) (hB:0≤B):pot n h≤h.length*(B*(4*h.length+8)):=by
 have key:∀ m:Nat,m≤h.length→sm (cst n) (hf h) m≤m*(B*(4*h.length+8)):=by
  intro m
  induction m with
  | zero=>intro _; show (0:Int)≤0*_; rw [Int.zero_mul]; exact Int.le_refl _
  | succ m ih=>
   intro hm
   have ih:=ih (by omega)
   have c:=vn n m
   have f1:0≤hf h m∧hf h m≤B:=by
    unfold hf
    rw [List.getD_eq_getElem?_getD,List.getElem?_eq_getElem (by omega)]
    exact hb _ (List.getElem_mem _)
   have k1:=Int.mul_le_mul f1.2 (show cst n m≤4*(h.length:Int)+8 by omega) (by omega) hB
   show sm (cst n) (hf h) m+hf h m*cst n m≤((m+1:Nat):Int)*_
   rw [show ((m+1:Nat):Int)=(m:Int)+1 by omega,Int.add_mul,Int.one_mul]
   omega
 exact key h.length (Nat.le_refl _)
def ng:Bool→Str
 | true=>.ofString "up"
 | false=>.ofString "part"
def yW (s:Stp):Dt:=.tup [.str (ng s.1),.int s.2]
def chD (x:Nat × Int):Dt:=.tup [.int x.1,.int x.2]
def UQ:Option Stp→Dt
 | none=>.non
 | some s=>yW s
theorem dr {Q:Dt→Prop} {d e:Dt} (q:Q d) (h:e=d):Q e:=h ▸ q
theorem oU (a b:List (Nat × Int)) (j:Nat):w6 (a++b) j=w6 a j+w6 b j:=by
 induction a with
 | nil=>show w6 b j=0+w6 b j; omega
 | cons x a ih=>show pt x.1 x.2 j+w6 (a++b) j=pt x.1 x.2 j+w6 a j+w6 b j; omega
theorem kN {l:List (Nat × Int)} {i:Nat} {x:Nat × Int} (h:l[i]? = some x) (j:Nat):w6 (l.take (i+1)) j=w6 (l.take i) j+pt x.1 x.2 j:=by
 rw [List.take_succ,h,oU]
 show _+(pt x.1 x.2 j+0)=_
 omega
theorem Ul {n:Int} (h1:1≤n) (h2:n≤60) {s:Stp}:∀ x∈chg n s,-1000≤x.2∧x.2≤1000:=by
 intro x hx
 have o1:(-1000:Int)≤1∧(1:Int)≤1000:=by decide
 have o2:(-1000:Int)≤-1∧(-1:Int)≤1000:=by decide
 match s,hx with
 | (true,p),hx=>
  rcases List.mem_cons.mp hx with rfl | hx
  ·exact o1
  rcases List.mem_cons.mp hx with rfl | hx
  ·show -1000≤-n∧-n≤1000; omega
  rw [List.mem_singleton.mp hx]
  exact o2
 | (false,0),hx=>
  rcases List.mem_cons.mp hx with rfl | hx
  ·exact o1
  rw [List.mem_singleton.mp hx]
  show -1000≤-n - 1∧-n - 1≤1000; omega
 | (false,1),hx=>
  rcases List.mem_cons.mp hx with rfl | hx
  ·exact o1
  rcases List.mem_cons.mp hx with rfl | hx
  ·show -1000≤-n - 1∧-n - 1≤1000; omega
  rw [List.mem_singleton.mp hx]
  show -1000≤n∧n≤1000; omega
 | (false,p+2),hx=>
  rcases List.mem_cons.mp hx with rfl | hx
  ·exact o1
  rcases List.mem_cons.mp hx with rfl | hx
  ·show -1000≤-n - 1∧-n - 1≤1000; omega
  rcases List.mem_cons.mp hx with rfl | hx
  ·show -1000≤n - 1∧n - 1≤1000; omega
  rw [List.mem_singleton.mp hx]
  exact o1
theorem VX (l:List Int) (k i:Nat):hf (l++List.replicate k 0) i=hf l i:=by
 unfold hf
 rw [List.getD_eq_getElem?_getD,List.getD_eq_getElem?_getD]
 by_cases h:i<l.length
 ·rw [List.getElem?_append_left h]
 ·rw [List.getElem?_append_right (by omega),List.getElem?_eq_none (show l.length≤i by omega),List.getElem?_replicate]
  split <;> rfl
theorem VW {l:List Int} {p:Nat} (h:p<l.length) (c:Int) (i:Nat):hf (l.set p (hf l p+c)) i=hf l i+pt p c i:=by
 unfold hf pt
 rw [List.getD_eq_getElem?_getD,List.getD_eq_getElem?_getD,List.getD_eq_getElem?_getD]
 by_cases e:i=p
 ·subst e
  rw [List.getElem?_set_self h,if_pos rfl]
  rfl
 ·rw [List.getElem?_set_ne (fun z=>e z.symm),if_neg e]
  omega
theorem sX {l:List Int} {p:Nat} (h:p<l.length):(l.map Dt.int)[p]? = some (.int (hf l p)):=by
 unfold hf
 rw [List.getElem?_map,List.getElem?_eq_getElem h,List.getD_eq_getElem?_getD,List.getElem?_eq_getElem h]
 rfl
theorem jn (k:Nat) (s:Stp):(List.replicate k [yW s]).flatten=(List.replicate k s).map yW:=by
 induction k with
 | zero=>rfl
 | succ k ih=>rw [List.replicate_succ,List.flatten_cons,ih]; rfl
theorem rR (k:Nat) (s:Stp):(List.replicate k [UQ (some s)]).flatten=(List.replicate k s).map yW:=jn k s
theorem Can.pos {n:Int} (hn:1≤n) {s:Stp} {f:Nat→Int} (h:Can n s f):0<f s.2:=by
 match s,h with
 | (true,p),⟨_,h2,_⟩=>show 0<f p; omega
 | (false,p),h=>
  have h:n<f p:=h
  show 0<f p; omega
theorem Oft.le_pot {n m:Int} (hn:1≤n) {s:Stp} {l:List Int} (l0:∀ i,0≤hf l i) (hm:0≤m) (h:Oft n s (hf l) m) (hs:s.2<l.length):m≤pot n l:=by
 have a:m≤hf l s.2:=by
  match s,h with
  | (true,p),⟨_,h2,_⟩=>
   have:=Int.mul_le_mul_of_nonneg_left hn hm
   show m≤hf l p; omega
  | (false,p),h=>
   have h:m*(n+1)≤hf l p:=h
   have:=Int.mul_le_mul_of_nonneg_left (show 1≤n+1 by omega) hm
   show m≤hf l p; omega
 have b:=je (w:=cst n) (fun i=>by have:=(vn n i).1; omega) l0 l.length hs
 have c:=Int.mul_le_mul_of_nonneg_left (vn n s.2).1 (l0 s.2)
 show m≤sm (cst n) (hf l) l.length
 omega
theorem sZ (a b:Int):a=b*a.fdiv b+a.fmod b:=by have:=Int.fmod_def a b; omega
theorem m9 {a b:Int} (hb:0<b):a.fdiv b*b≤a:=by
 have:=sZ a b
 have:=Int.fmod_nonneg_of_pos a hb
 rw [Int.mul_comm]
 omega
theorem oN {a b:Int} (hb:0<b) (h:b≤a):1≤a.fdiv b:=by
 have e:=sZ a b
 have f:=Int.fmod_lt_of_pos a hb
 rcases Int.lt_or_le 0 (a.fdiv b) with z | z
 ·exact z
 ·have:=Int.mul_le_mul_of_nonneg_left z (show 0≤b by omega)
  omega
def xa (a b:List Int):List Int:=(List.range (max a.length b.length)).map fun p=>a.getD p 0+b.getD p 0
theorem vU (a b:List Int):(xa a b).length=max a.length b.length:=by unfold xa; rw [List.length_map,List.length_range]
theorem aN (a b:List Int) (p:Nat):hf (xa a b) p=hf a p+hf b p:=by
 by_cases h:p<max a.length b.length
 ·unfold hf xa
  rw [List.getD_eq_getElem?_getD,List.getElem?_map,List.getElem?_range h]
  rfl
 ·rw [y3 (by rw [vU]; omega),y3 (by omega),y3 (by omega)]
  rfl
theorem mD (k:Kd) (n:Int) (ns:List Int):∀ j,(yD k n ns j).re=sm (fun i=>(wt k n i).re) (hf ns) j
 | 0=>zX k
 | j+1=>by
  show ((yD k n ns j).add ((Nm.i (ns.getD j 0)).mul (wt k n j))).re=_
  rw [zZ,zJ,mD k n ns j]
  show _+(hf ns j*(wt k n j).re - 0*(wt k n j).im)=_
  rw [Int.zero_mul,Int.sub_zero]
  rfl
theorem mE (k:Kd) (n:Int) (ns:List Int):∀ j,(yD k n ns j).im=sm (fun i=>(wt k n i).im) (hf ns) j
 | 0=>z_ k
 | j+1=>by
  show ((yD k n ns j).add ((Nm.i (ns.getD j 0)).mul (wt k n j))).im=_
  rw [yn,zO,mE k n ns j]
  show _+(hf ns j*(wt k n j).im+0*(wt k n j).re)=_
  rw [Int.zero_mul,Int.add_zero]
  rfl
theorem tZ {k:Kd} {n:Int} {r:List Int} {m:Nat} (h:r.length≤m):(zx k n r).re=sm (fun i=>(wt k n i).re) (hf r) m:=by
 rw [si _ (fun i hi=>y3 hi) m h]; exact mD k n r _
theorem t_ {k:Kd} {n:Int} {r:List Int} {m:Nat} (h:r.length≤m):(zx k n r).im=sm (fun i=>(wt k n i).im) (hf r) m:=by
 rw [si _ (fun i hi=>y3 hi) m h]; exact mE k n r _
theorem oY {k:Kd} {a b:Nm} (ha:a.ty k) (hb:b.ty k):(a.add b).ty k:=w_ ha (xh hb)
theorem o7 (k:Kd) (n:Int) (a b:List Int):zx k n (xa a b)=(zx k n a).add (zx k n b):=by
 have e:hf (xa a b)=fun p=>hf a p+hf b p:=funext (aN a b)
 have hl:=vU a b
 refine wU (zY k n _) (oY (zY k n a) (zY k n b)) ?_ ?_
 ·rw [zZ,tZ (m:=(xa a b).length) (Nat.le_refl _),tZ (r:=a) (m:=(xa a b).length) (by omega),tZ (r:=b) (m:=(xa a b).length) (by omega),e,sj]
 ·rw [yn,t_ (m:=(xa a b).length) (Nat.le_refl _),t_ (r:=a) (m:=(xa a b).length) (by omega),t_ (r:=b) (m:=(xa a b).length) (by omega),e,sj]
theorem vf {k:Kd} {n:Int} {r:List Int} (hn:k.ok n) (h:Legal k n r) (hk:sG k):0≤(zx k n r).re:=by
 have:=kA hn h
 obtain ⟨a,e⟩:=xM (qH hk) (zY k n r)
 rw [e] at this ⊢
 rcases hk with rfl | rfl <;> exact of_decide_eq_true this
theorem qu (n:Int) (r:List Int):zx .falling n r=.i (hw n r):=mF n r r.length
theorem kz (k:Kd) (n:Int):Legal k n []:=⟨fun p h=>absurd h (Nat.not_lt_zero _),fun _ p h=>absurd h (Nat.not_lt_zero _),.inl rfl⟩
theorem vd {n B:Int} {h:List Int} (hb:∀ z∈h,0≤z∧z≤B) (h0:0≤B) (hB:B≤80) (hl:h.length≤200):pot n h≤15000000:=by
 have p:=Yn (n:=n) hb h0
 have k1:=Int.mul_le_mul hB (show 4*(h.length:Int)+8≤808 by omega) (by omega) (by decide)
 have k2:=Int.mul_le_mul (show (h.length:Int)≤200 by omega) k1 (Int.mul_nonneg h0 (by omega)) (by decide)
 omega
theorem sD {a b:List Int} {z:Int} (h:z∈xa a b):∃ p,z=hf a p+hf b p:=by
 unfold xa at h
 obtain ⟨p,_,rfl⟩:=List.mem_map.mp h
 exact ⟨p,rfl⟩
theorem q9 {k:Kd} {n:Int} {r:List Int} (hn:k.ok n) (h:Legal k n r) (hl:r.length≤2000) (p:Nat):(hf r p).natAbs≤4000:=by
 by_cases hp:p<r.length
 ·refine qa hn h hl _ ?_
  unfold hf
  rw [List.getD_eq_getElem?_getD,List.getElem?_eq_getElem hp]
  exact List.getElem_mem _
 ·rw [y3 (by omega)]; decide
theorem sY {n:Int} {r:List Int} (hn:Kd.falling.ok n) (h:Legal .falling n r) (p:Nat):0≤hf r p∧hf r p≤n:=by
 by_cases hp:p<r.length
 ·exact h.fig p hp
 ·have:=hn.1
  rw [y3 (by omega)]
  exact ⟨Int.le_refl _,by show 0≤n; simp only [Kd.lo] at this; omega⟩
theorem eT {k:Kd} {a b:Nm} (ha:tot k a) (hb:tot k b):tot k (a.add b):=fun hk=>by
 obtain ⟨x,rfl⟩:=ha hk
 obtain ⟨y,rfl⟩:=hb hk
 exact ⟨_,rfl⟩
def xQ (a b:List Nm):List Nm:=(List.range (max a.length b.length)).map fun p=>(a.getD p (.i 0)).add (b.getD p (.i 0))
theorem ox (a b:List Nm):(xQ a b).length=max a.length b.length:=by unfold xQ; rw [List.length_map,List.length_range]
theorem gH (a b:List Nm) (p:Nat):(xQ a b).getD p (.i 0)=(a.getD p (.i 0)).add (b.getD p (.i 0)):=by
 by_cases h:p<max a.length b.length
 ·unfold xQ
  rw [List.getD_eq_getElem?_getD,List.getElem?_map,List.getElem?_range h]
  rfl
 ·have e:∀ {l:List Nm},l.length≤p→l.getD p (.i 0)=.i 0:=fun h=>by rw [List.getD_eq_getElem?_getD,List.getElem?_eq_none h]; rfl
  rw [e (by rw [ox]; omega),e (by omega),e (by omega)]
  rfl
theorem gG {a b:List Nm} {t:Nm} (h:t∈xQ a b):∃ p,t=(a.getD p (.i 0)).add (b.getD p (.i 0)):=by
 unfold xQ at h
 obtain ⟨p,_,rfl⟩:=List.mem_map.mp h
 exact ⟨p,rfl⟩
theorem gE {k:Kd} {a b:List Nm} (ha:∀ t∈a,tot k t) (hb:∀ t∈b,tot k t):∀ t∈xQ a b,tot k t:=fun t h=>by
 obtain ⟨p,rfl⟩:=gG h
 exact eT (yV ha p) (yV hb p)
theorem mJ (k:Kd) (n:Int) (a b:List Nm):∀ j,(wN k n (xQ a b) j).re=(wN k n a j).re+(wN k n b j).re∧(wN k n (xQ a b) j).im=(wN k n a j).im+(wN k n b j).im
 | 0=>by
  show (k.zero).re=(k.zero).re+(k.zero).re∧(k.zero).im=(k.zero).im+(k.zero).im
  rw [zX,z_]
  exact ⟨rfl,rfl⟩
 | j+1=>by
  obtain ⟨h1,h2⟩:=mJ k n a b j
  unfold wN
  rw [gH]
  simp only [zZ,yn,zJ,zO,h1,h2]
  constructor <;> grind
theorem rN {k:Kd} {n:Int} {a:List Nm} (ha:∀ t∈a,tot k t) {m:Nat} (h:a.length≤m):wN k n a m=yc k n a:=by
 obtain ⟨d,rfl⟩:∃ d,m=a.length+d:=⟨m - a.length,by omega⟩
 exact o_ ha d
theorem pI {k:Kd} {n:Int} {a b:List Nm} (ha:∀ t∈a,tot k t) (hb:∀ t∈b,tot k t):yc k n (xQ a b)=(yc k n a).add (yc k n b):=by
 have hl:=ox a b
 obtain ⟨h1,h2⟩:=mJ k n a b (xQ a b).length
 rw [rN ha (by omega),rN hb (by omega)] at h1 h2
 exact wU (sd (gE ha hb) _) (oY (sd ha _) (sd hb _)) (h1.trans (zZ ..).symm) (h2.trans (yn ..).symm)
theorem uM (a b:List Int):xQ (a.map Nm.i) (b.map Nm.i)=(xa a b).map Nm.i:=by
 have e:∀ (l:List Int) (p:Nat),(l.map Nm.i).getD p (.i 0)=.i (l.getD p 0):=fun l p=>by
  rw [List.getD_eq_getElem?_getD,List.getD_eq_getElem?_getD,List.getElem?_map]
  cases l[p]? <;> rfl
 unfold xQ xa
 rw [List.map_map,List.length_map,List.length_map]
 refine List.map_congr_left fun p _=>?_
 rw [e,e]
 rfl
theorem xX (r:List Int):zt r=vz (r.map Nm.i):=by unfold zt vz; rw [kX]
theorem aG {k:Kd} {t w:Nm} (ht:t.ty k) (hw:tot k w):(t.mul w).ty k:=by
 by_cases hk:k=.pairs
 ·subst hk
  obtain ⟨a,b,rfl⟩:=ht
  cases w <;> exact ⟨_,_,rfl⟩
 ·obtain ⟨a,rfl⟩:=hw hk
  obtain ⟨b,rfl⟩:=xM hk ht
  exact xW hk
def wB (a:List Int) (f:Nm):List Nm:=a.map fun z=>(Nm.i z).mul f
theorem wO (a:List Int) (f:Nm):(wB a f).length=a.length:=List.length_map _
theorem p6 {k:Kd} {a:List Int} {f:Nm} (hf:tot k f):∀ t∈wB a f,tot k t:=fun t h hk=>by
 obtain ⟨z,_,rfl⟩:=List.mem_map.mp h
 obtain ⟨y,rfl⟩:=hf hk
 exact ⟨_,rfl⟩
theorem jm (a:List Int) (f:Nm) {p:Nat} (h:p<a.length):(wB a f).getD p (.i 0)=(Nm.i (a.getD p 0)).mul f:=by
 unfold wB
 rw [List.getD_eq_getElem?_getD,List.getElem?_map,List.getD_eq_getElem?_getD,List.getElem?_eq_getElem h]
 rfl
theorem jk (a:List Int) (f:Nm) {p:Nat} (h:a.length≤p):(wB a f).getD p (.i 0)=.i 0:=by
 rw [List.getD_eq_getElem?_getD,List.getElem?_eq_none (by rw [wO]; exact h)]
 rfl
theorem db (a:List Int) (f:Nm) (p:Nat):((wB a f).getD p (.i 0)).re=hf a p*f.re∧((wB a f).getD p (.i 0)).im=hf a p*f.im:=by
 by_cases h:p<a.length
 ·rw [jm a f h,zJ,zO]
  show a.getD p 0*f.re - 0*f.im=_∧a.getD p 0*f.im+0*f.re=_
  rw [Int.zero_mul,Int.zero_mul,Int.sub_zero,Int.add_zero]
  exact ⟨rfl,rfl⟩
 ·rw [jk a f (by omega),y3 (by omega),Int.zero_mul,Int.zero_mul]
  exact ⟨rfl,rfl⟩
theorem mI (k:Kd) (n:Int) (a:List Int) (f:Nm):∀ j,(wN k n (wB a f) j).re=(yD k n a j).re*f.re - (yD k n a j).im*f.im∧(wN k n (wB a f) j).im=(yD k n a j).re*f.im+(yD k n a j).im*f.re
 | 0=>by
  show (k.zero).re=(k.zero).re*_ - (k.zero).im*_∧(k.zero).im=(k.zero).re*_+(k.zero).im*_
  rw [zX,z_,Int.zero_mul,Int.zero_mul]
  exact ⟨rfl,rfl⟩
 | j+1=>by
  obtain ⟨h1,h2⟩:=mI k n a f j
  obtain ⟨r1,r2⟩:=db a f j
  unfold wN yD
  simp only [zZ,yn,zJ,zO,h1,h2,r1,r2]
  show _=(_+(hf a j*_ - 0*_))*_ - (_+(hf a j*_+0*_))*_∧_=(_+(hf a j*_ - 0*_))*_+(_+(hf a j*_+0*_))*_
  constructor <;> grind
theorem pH {k:Kd} {n:Int} (a:List Int) {f:Nm} (hf:tot k f):yc k n (wB a f)=(zx k n a).mul f:=by
 obtain ⟨h1,h2⟩:=mI k n a f a.length
 have e:yc k n (wB a f)=wN k n (wB a f) a.length:=by unfold yc; rw [wO]
 rw [e]
 exact wU (sd (p6 hf) _) (aG (zY k n a) hf) (h1.trans (zJ ..).symm) (h2.trans (zO ..).symm)
def hv (k:Kd) (n:Int) (o:List Int):Nat→Nat→Nm
 | 0,_=>k.zero
 | m+1,p=>(Nm.i (o.getD p 0)).add ((k.ratN n p).mul (hv k n o m (p+1)))
theorem dk (k:Kd) (n:Int) (p:Int):tot k (k.ratN n p):=fun hk=>by cases k <;> first | exact ⟨_,rfl⟩ | exact absurd rfl hk
theorem ZH (k:Kd) (n:Int) (o:List Int):∀ m p,(hv k n o m p).ty k
 | 0,_=>y7 k
 | m+1,p=>by
  have h:=uN (dk k n p) (ZH k n o m (p+1))
  unfold hv
  by_cases hk:k=.pairs
  ·subst hk
   obtain ⟨a,b,e⟩:=h
   rw [e]
   exact ⟨_,_,rfl⟩
  ·obtain ⟨a,e⟩:=xM hk h
   rw [e]
   exact xW hk
theorem oG {k:Kd} {n:Int} {o:List Int} (h5:k.five=true):∀ m p,p+m=o.length→(zx k n o).re=(yD k n o p).re+((wt k n p).re*(hv k n o m p).re - (wt k n p).im*(hv k n o m p).im)∧(zx k n o).im=(yD k n o p).im+((wt k n p).re*(hv k n o m p).im+(wt k n p).im*(hv k n o m p).re)
 | 0,p,h=>by
  obtain rfl:p=o.length:=h
  show (yD k n o o.length).re=_+(_*(k.zero).re - _*(k.zero).im)∧(yD k n o o.length).im=_+(_*(k.zero).im+_*(k.zero).re)
  rw [zX,z_,Int.mul_zero,Int.mul_zero]
  constructor <;> omega
 | m+1,p,h=>by
  obtain ⟨h1,h2⟩:=oG (n:=n) (o:=o) h5 m (p+1) (by omega)
  rw [h1,h2,xV h5]
  have e0:hv k n o (m+1) p=(Nm.i (o.getD p 0)).add ((k.ratN n p).mul (hv k n o m (p+1))):=rfl
  rw [e0]
  simp only [zZ,yn,zJ,zO]
  have e:yD k n o (p+1)=(yD k n o p).add ((Nm.i (o.getD p 0)).mul (wt k n p)):=rfl
  rw [e]
  simp only [zZ,yn,zJ,zO]
  have i1:(Nm.i (o.getD p 0)).re=o.getD p 0:=rfl
  have i2:(Nm.i (o.getD p 0)).im=0:=rfl
  rw [i1,i2]
  generalize hv k n o m (p+1)=V
  generalize k.ratN n p=R
  generalize wt k n p=W
  generalize yD k n o p=S
  constructor <;> grind
theorem VV {k:Kd} {n:Int} {o:List Int} (h5:k.five=true):zx k n o=hv k n o o.length 0:=by
 obtain ⟨h1,h2⟩:=oG (n:=n) (o:=o) h5 o.length 0 (Nat.zero_add _)
 have z1:(yD k n o 0).re=0:=zX k
 have z2:(yD k n o 0).im=0:=z_ k
 have e:wt k n 0=k.zero.add (.i 1):=by cases k <;> first | rfl | cases h5
 have r1:(wt k n 0).re=1:=by rw [e,zZ,zX]; rfl
 have r2:(wt k n 0).im=0:=by rw [e,yn,z_]; rfl
 rw [z1,r1,r2] at h1
 rw [z2,r1,r2] at h2
 exact wU (zY k n o) (ZH k n o _ _) (by omega) (by omega)
theorem Uq {x c:Int} {y A:Nat} (h:c.natAbs≤A) (hy:x.natAbs≤y):(c*x).natAbs≤A*y:=by rw [Int.natAbs_mul]; exact Nat.mul_le_mul h hy
def few (k:Kd) (x y:Nat):Prop:=x≤63∧y≤63∧x+y≤100∧(k=.pairs→x+y≤50)
def uS (a:List Int) (c:Int):List Int:=a.map (· * c)
theorem jl (a:List Int) (c:Int):wB a (.i c)=(uS a c).map Nm.i:=by unfold wB uS; rw [List.map_map]; rfl
theorem aO (a:List Int) (c:Int) (p:Nat):hf (uS a c) p=hf a p*c:=by
 unfold hf uS
 rw [List.getD_eq_getElem?_getD,List.getD_eq_getElem?_getD,List.getElem?_map]
 cases a[p]? with
 | none=>show (0:Int)=0*c; rw [Int.zero_mul]
 | some z=>rfl
theorem lS {a:List Int} {i:Nat} (h:i<a.length):a.take (i+1)=a.take i++[a.getD i 0]:=by
 rw [List.take_succ,List.getD_eq_getElem?_getD,List.getElem?_eq_getElem h]
 rfl
def hzn (k:Kd) (n:Int):Nat→List Int→Int
 | _,[]=>0
 | p,d::ds=>d+k.rat n p*hzn k n (p+1) ds
def tz (n:Int):Nat→List Int→Int
 | _,[]=>0
 | p,d::ds=>d*wf n p+tz n (p+1) ds
theorem qf {o ds:List Int} {d:Int} {p:Nat} (h:o.drop p=d::ds):o.getD p 0=d∧o.drop (p+1)=ds:=by
 have hp:p<o.length:=by
  rcases Nat.lt_or_ge p o.length with z | z
  ·exact z
  ·rw [List.drop_of_length_le z] at h; cases h
 rw [List.drop_eq_getElem_cons hp] at h
 injection h with h1 h2
 exact ⟨by rw [List.getD_eq_getElem?_getD,List.getElem?_eq_getElem hp]; exact h1,h2⟩
theorem ZI {k:Kd} {n:Int} {o:List Int} (h4:k.four=true):∀ (l:List Int) (p:Nat),o.drop p=l→hv k n o l.length p=.i (hzn k n p l)
 | [],p,_=>by cases k <;> first | rfl | cases h4
 | d::ds,p,h=>by
  obtain ⟨h1,h2⟩:=qf h
  show (Nm.i (o.getD p 0)).add ((k.ratN n p).mul (hv k n o ds.length (p+1)))=_
  rw [h1,ZI h4 ds (p+1) h2]
  cases k <;> first | rfl | cases h4
theorem rX {k:Kd} (h:k.four=true):k.five=true:=by cases k <;> first | rfl | cases h
theorem oF {k:Kd} {n:Int} (h4:k.four=true) (l:List Int):zx k n l=.i (hzn k n 0 l):=by rw [VV (rX h4),ZI h4 l 0 rfl]
theorem Zt {n:Int} {o:List Int}:∀ (l:List Int) (p:Nat),o.drop p=l→sm (wf n) (hf o) (p+l.length)=sm (wf n) (hf o) p+tz n p l
 | [],p,_=>by show sm (wf n) (hf o) p=_+(0:Int); rw [Int.add_zero]
 | d::ds,p,h=>by
  obtain ⟨h1,h2⟩:=qf h
  have:=Zt (n:=n) ds (p+1) h2
  rw [List.length_cons,show p+(ds.length+1)=p+1+ds.length by omega,this]
  show sm (wf n) (hf o) p+hf o p*wf n p+tz n (p+1) ds=sm (wf n) (hf o) p+(d*wf n p+tz n (p+1) ds)
  rw [show hf o p=d from h1,Int.add_assoc]
theorem Zq (n:Int) (l:List Int):hw n l=tz n 0 l:=by
 have:=Zt (n:=n) (o:=l) l 0 rfl
 rw [Nat.zero_add] at this
 show sm (wf n) (hf l) l.length=_
 rw [this]
 show (0:Int)+_=_
 rw [Int.zero_add]
theorem lp (a m:Int) (h:1≤m):a=m*a.fdiv m+a.fmod m∧0≤a.fmod m∧a.fmod m<m:=by
 have:=Int.mul_fdiv_add_fmod a m
 exact ⟨this.symm,Int.fmod_nonneg_of_pos a (by omega),Int.fmod_lt_of_pos a (by omega)⟩
theorem jr {a m q e B:Int} (h:a=m*q+e) (h0:0≤e) (h1:e<m) (hB:0≤B) (ha:a≤B*m) (hb:-(B*m)≤a):-B≤q∧q≤B:=by
 constructor
 ·apply Classical.byContradiction
  intro z
  have:=Int.mul_le_mul_of_nonneg_left (show q≤-B - 1 by omega) (show 0≤m by omega)
  rw [Int.mul_sub,Int.mul_neg,Int.mul_comm m B,Int.mul_one] at this
  omega
 ·apply Classical.byContradiction
  intro z
  have:=Int.mul_le_mul_of_nonneg_left (show B+1≤q by omega) (show 0≤m by omega)
  rw [Int.mul_add,Int.mul_comm m B,Int.mul_one] at this
  omega
theorem jq {a m q e:Int} (hm:1≤m) (h:a=m*q+e) (h1:e<m) (ha:0≤a):0≤q:=by
 apply Classical.byContradiction
 intro z
 have:=Int.mul_le_mul_of_nonneg_left (show q≤-1 by omega) (show 0≤m by omega)
 omega
theorem mS {k:Kd} {n:Int} {p:Nat} (hn:k.ok n) (h:p≤1000):(k.rat n p).natAbs≤1100:=by
 obtain ⟨b1,b2⟩:=wT hn
 cases k <;> simp only [Kd.rat] <;> omega
def Quo (k:Kd) (n:Int) (r:List Int) (m:Int) (qs:List Int) (e:Int):Prop:=
 qs.length=r.length∧(∀ z∈qs,-6000≤z∧z≤6000)∧(k=.falling→∀ z∈qs,0≤z∧z≤30)∧0≤e∧e<m∧(zx k n r).re=m*(zx k n qs).re+e
def lL (k:Kd) (n:Int) (r:List Int) (m:Int):Prop:=k.ok n∧Legal k n r∧(r.length≤500∧(k=.falling→r.length≤200))∧1≤m∧m.natAbs<2 ^ 9000
def Fg (k:Kd) (n:Int) (r:List Int):Prop:=∀ p,p<r.length→k.low n p≤r.getD p 0∧r.getD p 0≤k.high n p
theorem Fg.put {k:Kd} {n:Int} {r:List Int} (hn:k.ok n) (h:Fg k n r) (j:Nat):Fg k n (r.set j 0):=fun p hp=>by
 rw [List.length_set] at hp
 by_cases q:j=p
 ·subst q
  rw [yB hp]
  exact uP hn j
 ·rw [yA q]
  exact h p hp
def Fl (k:Kd) (n:Int) (r:List Int) (i:Nat):Prop:=k.isF=true→∀ q:Nat,r.length≤q+1+i→q+1<r.length→r.getD (q+1) 0=n→r.getD q 0=0
theorem Fl.put {k:Kd} {n:Int} {r:List Int} {i j:Nat} (hn:k.ok n) (h:Fl k n r i) (hj:j+i<r.length):Fl k n (r.set j 0) i:=fun hk q h1 h2 h3=>by
 rw [List.length_set] at h1 h2
 by_cases e:j=q
 ·subst e; rw [yB (by omega)]
 ·rw [yA e]
  by_cases e2:j=q+1
  ·subst e2
   rw [yB (by omega)] at h3
   have:=hn.1
   cases k <;> simp only [Kd.lo] at this <;> first | omega | cases hk
  ·rw [yA e2] at h3
   exact h hk q h1 h2 h3
theorem Fg.snoc {k:Kd} {n f:Int} {r:List Int} {i:Nat} (hlr:r.length=i) (hp:∀ p,p<i→k.low n p≤r.getD p 0∧r.getD p 0≤k.high n p) (hf:k.low n i≤f∧f≤k.high n i):
  ∃ r':List Int,r.map Dt.int++[.int f]=r'.map Dt.int∧r'.length=i+1∧∀ p,p<i+1→k.low n p≤r'.getD p 0∧r'.getD p 0≤k.high n p:=by
 refine ⟨r++[f],by rw [List.map_append]; rfl,by rw [List.length_append,hlr]; rfl,fun p hp'=>?_⟩
 rcases (by omega:p<i∨p=i) with z | z
 ·rw [zM (by omega)]
  exact hp p z
 ·subst z
  rw [← hlr,getD_snoc_eq,hlr]
  exact hf
def tV:DSp:=fun ds Q=>∃ z,ds=[.int z]∧∀ r:Int,0≤r→Q (.int r)
def eI:DSp:=fun ds Q=>∃ z,ds=[.int z]∧∀ k n,Kd.ok k n→Q (.tup [.int (Kd.num k),.int n])
def mz:DSp:=fun ds Q=>∃ k n,∃ p:Nat,ds=[.int (Kd.num k),.int n,.int p]∧Kd.ok k n∧Q (.tup [.int (k.low n p),.int (k.high n p)])
def lJ:DSp:=fun ds Q=>∃ k n cs,ds=[.int (Kd.num k),.int n,zt cs]∧Kd.ok k n∧cs.length≤1000∧∀ r,Legal k n r→r.length≤cs.length→Q (zt r)
theorem fe {k:Kd} {n m:Int} {p:Nat} (hn:k.ok n) (h0:0≤m.fmod 9) (h5:m.fmod 9<5):∃ f,atI [Dt.int 0,.int (k.high n p),.int (k.low n p),.int (k.high n p),.int 1] (m.fmod 9)=some (.int f)∧k.low n p≤f∧f≤k.high n p:=by
 obtain ⟨l1,l2⟩:=uP hn p
 have h1:(1:Int)≤k.high n p:=by
  obtain ⟨a,b⟩:=hn
  cases k <;> simp only [Kd.lo,Kd.hi,Kd.high] at * <;> first | omega | (have:=Int.mul_le_mul a a (by omega) (by omega); omega)
 rcases (by omega:m.fmod 9=0∨m.fmod 9=1∨m.fmod 9=2∨m.fmod 9=3∨m.fmod 9=4) with e | e | e | e | e <;> rw [e]
 ·exact ⟨0,rfl,l1,l2⟩
 ·exact ⟨_,rfl,by omega,Int.le_refl _⟩
 ·exact ⟨_,rfl,Int.le_refl _,by omega⟩
 ·exact ⟨_,rfl,by omega,Int.le_refl _⟩
 ·exact ⟨1,rfl,by omega,h1⟩
def pw (p:Str × Bool):Dt:=.tup [.str p.1,.bl p.2]
def pM (l:List (Str × Bool)):List Dt:=(l.filter fun p=>p.2).map fun p=>Dt.str p.1
theorem vM {ρ:DS} {Q:Dt→Prop} (l:List (Str × Bool)) (q:Q (.lst (pM l))):vL [] (fun _ q=>q (l.map pw).length fun i e=>(l.map pw)[i]? = some e) Sf (u9 (V9 1)) (V9 0) ρ Q:=by
 refine ⟨fun i es=>es=pM (l.take i),rfl,?_,?_⟩
 ·rintro i e es hi he rfl
  rw [List.getElem?_map] at he
  obtain ⟨⟨w,t⟩,hp,rfl⟩:=Option.map_eq_some_iff.mp he
  refine ⟨_,⟨_,_,rfl,rfl⟩,_,rfl,t,rfl,?_⟩
  have ek:pM (l.take (i+1))=pM (l.take i)++if t=true then [Dt.str w] else []:=by
   unfold pM
   rw [take_succ_filter (fun p:Str × Bool=>p.2) l i (w,t) hp,List.map_append]
   cases t <;> rfl
  cases t with
  | true=>exact ifT rfl ⟨_,rfl,ek.symm⟩
  | false=>exact ifF rfl (by rw [if_neg Bool.false_ne_true,List.append_nil] at ek; exact ek.symm)
 ·rintro es rfl
  rw [List.length_map,List.take_length]
  exact q
theorem fX {k:Kd} {n:Int} {r:List Int} (m:Nat):¬ Legal k n (r++List.replicate (m+1) 0):=fun h=>by
 have e:r++List.replicate (m+1) 0=(r++List.replicate m 0)++[(0:Int)]:=by rw [List.replicate_succ',List.append_assoc]
 rw [e] at h
 rcases h.end_ with z | z
 ·simp at z
 ·rw [List.length_append,List.length_singleton,Nat.add_sub_cancel] at z
  exact z getD_snoc_eq
theorem Zi {k:Kd} {n x:Int} {r:List Int} {a:Nat} (ha:a≤r.length) (hx:x<k.low n a∨k.high n a<x):¬ Legal k n (r.take a++[x]++r.drop (a+1)):=fun h=>by
 have hl:(r.take a).length=a:=by rw [List.length_take]; omega
 have e:(r.take a++[x]++r.drop (a+1)).getD a 0=x:=by
  rw [List.append_assoc,List.getD_eq_getElem?_getD,List.getElem?_append_right (by omega),hl,Nat.sub_self]
  rfl
 have:=h.fig a (by rw [List.length_append,List.length_append,hl]; show a<a+1+_; omega)
 rw [e] at this
 omega
theorem fY {n x:Int} {r:List Int} (hx:x≠0):¬ Legal .falling n (r++[x,n]):=fun h=>by
 have e1:(r++[x,n]).getD (r.length+1) 0=n:=by
  rw [List.getD_eq_getElem?_getD,List.getElem?_append_right (by omega),Nat.add_sub_cancel_left]
  rfl
 have e0:(r++[x,n]).getD r.length 0=x:=by
  rw [List.getD_eq_getElem?_getD,List.getElem?_append_right (Nat.le_refl _),Nat.sub_self]
  rfl
 have:=h.fal rfl r.length (by rw [List.length_append]; show _<r.length+2; omega) e1
 rw [e0] at this
 exact hx this
theorem fO {r:List Int} (a:Nat):ph (r.map Dt.int) none (some (a:Int))=(r.take a).map Dt.int:=by
 unfold ph
 rw [HT.sIx_nat,HT.sIx_none,List.drop_zero,Nat.sub_zero,List.length_map,← List.map_take]
 congr 1
 rcases Nat.le_total a r.length with h | h
 ·rw [Nat.min_eq_left h]
 ·rw [Nat.min_eq_right h,List.take_length,List.take_of_length_le h]
theorem fQ {r:List Int} (a:Nat):ph (r.map Dt.int) (some (a:Int)) none=(r.drop a).map Dt.int:=by
 unfold ph
 rw [HT.sIx_nat,HT.sIx_none,List.length_map,← List.map_drop,← List.map_take]
 congr 1
 rcases Nat.le_total a r.length with h | h
 ·rw [Nat.min_eq_left h,List.take_of_length_le (by rw [List.length_drop]; omega)]
 ·rw [Nat.min_eq_right h,List.drop_length,List.drop_of_length_le h,List.take_nil]
def nms (c:Nat):Dt:=match c with
 | 0=>.lst []
 | 1=>.lst [.str (.ofString "NoWriting")]
 | 2=>.lst [.str (.ofString "NoPairs")]
 | _=>.lst [.str (.ofString "Nought")]
theorem qT (c:Nat):okE 40 (nms c)=true:=by
 match c with
 | 0=>rfl
 | 1=>rfl
 | 2=>rfl
 | _+3=>rfl
def Due (k:Kd) (n t:Int) (r:List Int) (d:Dt) (c:Nat):Prop:=
 (∃ s:List Int,d=zt s∧s.length≤100∧(t=0∨t=1∨t=2)∧((c=0∧Legal k n r∧Legal k n s∧(t=1→s=r)∧(t=2→s=[1]))∨(c=1∧(¬ Legal k n r∨¬ Legal k n s))))∨
 (∃ m:Int,d=.int m∧t=3∧((k=.pairs∧c=2)∨(k≠.pairs∧¬ Legal k n r∧c=1)∨(k≠.pairs∧Legal k n r∧m<1∧c=3)∨(k≠.pairs∧Legal k n r∧1≤m∧m.natAbs<2 ^ 9000∧c=0)))
theorem Z9 {a b c d e f z:Int} (P:Int→Prop) (h:P a∧P b∧P c∧P d∧P e∧P f):∃ m,atI [Dt.int a,.int b,.int c,.int d,.int e,.int f] (z.fmod 6)=some (.int m)∧P m:=by
 have a0:=Int.fmod_nonneg_of_pos z (show (0:Int)<6 by decide)
 have a1:=Int.fmod_lt_of_pos z (show (0:Int)<6 by decide)
 obtain ⟨h1,h2,h3,h4,h5,h6⟩:=h
 rcases (by omega:z.fmod 6=0∨z.fmod 6=1∨z.fmod 6=2∨z.fmod 6=3∨z.fmod 6=4∨z.fmod 6=5) with e | e | e | e | e | e <;> rw [e]
 ·exact ⟨_,rfl,h1⟩
 ·exact ⟨_,rfl,h2⟩
 ·exact ⟨_,rfl,h3⟩
 ·exact ⟨_,rfl,h4⟩
 ·exact ⟨_,rfl,h5⟩
 ·exact ⟨_,rfl,h6⟩
def prz (k:Kd) (c:Nat):Nat:=match k with
 | .pairs=>2
 | _=>c
theorem Zz {k:Kd} {c:Nat} (h:k≠.pairs):prz k c=c:=by cases k <;> first | rfl | exact absurd rfl h
theorem lY {a:List Int} {z:Int} (h:z∈xa a (uS a (-1))):z=0:=by
 obtain ⟨p,rfl⟩:=sD h
 rw [aO]; omega
theorem ky {k:Kd} {n:Int} (hn:k.ok n):Legal k n [1]:=by
 refine ⟨fun p hp=>?_,fun _ p hp=>absurd hp (by show ¬ p+1<1; omega),.inr (by decide)⟩
 obtain rfl:p=0:=by have:p<1:=hp; omega
 obtain ⟨l1,l2⟩:=uP hn 0
 have l1:k.low n 0≤0:=l1
 have h1:(1:Int)≤k.high n 0:=by
  obtain ⟨a,b⟩:=hn
  cases k <;> simp only [Kd.lo,Kd.hi,Kd.high] at * <;> first | omega | (have:=Int.mul_le_mul a a (by omega) (by omega); omega)
 show k.low n 0≤1∧1≤k.high n 0
 omega
theorem gF {a:List Nm}:xQ [] a=a.map fun t=>(Nm.i 0).add t:=by
 unfold xQ
 show (List.range (max 0 a.length)).map _=_
 rw [Nat.zero_max]
 apply List.ext_getElem?
 intro i
 rw [List.getElem?_map,List.getElem?_map]
 by_cases h:i<a.length
 ·rw [List.getElem?_range h,List.getElem?_eq_getElem h,Option.map_some,Option.map_some,List.getD_eq_getElem?_getD,List.getD_eq_getElem?_getD,List.getElem?_eq_getElem h]
  rfl
 ·rw [List.getElem?_eq_none (by rw [List.length_range]; omega),List.getElem?_eq_none (by omega)]
  rfl
theorem gT (a:List Int):uS a 1=a:=by
 unfold uS
 rw [show (fun z:Int=>z*1)=id from funext fun z=>Int.mul_one z,List.map_id]
theorem mU (a:List Int):xQ [] (wB a (.i 1))=a.map Nm.i:=by
 rw [jl,gT,gF,List.map_map]
 refine List.map_congr_left fun z _=>?_
 show Nm.i (0+z)=Nm.i z
 rw [Int.zero_add]
theorem eW (a:List Int):xQ (a.map Nm.i) []=a.map Nm.i:=by
 have e:=uM a []
 have e:xQ (a.map Nm.i) []=_:=e
 rw [e]
 congr 1
 unfold xa
 show (List.range (max a.length 0)).map _=_
 rw [Nat.max_zero]
 apply List.ext_getElem?
 intro i
 rw [List.getElem?_map]
 by_cases h:i<a.length
 ·rw [List.getElem?_range h,List.getElem?_eq_getElem h,Option.map_some,List.getD_eq_getElem?_getD,List.getElem?_eq_getElem h]
  show some (a[i]+0)=_
  rw [Int.add_zero]
 ·rw [List.getElem?_eq_none (by rw [List.length_range]; omega),List.getElem?_eq_none (by omega)]
  rfl
structure Adr where
 Plain:Addr
 Below:Addr
 Balanced:Addr
 Growing:Addr
 Falling:Addr
 Pairs:Addr
 OddError:Addr
 NoWay:Addr
 NoNumber:Addr
 NoWriting:Addr
 TooLess:Addr
 NoRatio:Addr
 NoFalling:Addr
 NoPairs:Addr
 Nought:Addr
 NoSpan:Addr
 NoTotal:Addr
 NoText:Addr
 NoRow:Addr
structure Txt (K:PySem.W.Frag) (mg:Str→Option Value) (A:Adr):Prop where
 kt:Zl K
 isinstance:mg "isinstance"=none
 n_int:mg "int"=none
 n_bool:mg "bool"=none
 n_tuple:mg "tuple"=none
 n_list:mg "list"=none
 len:mg "len"=none
 range:mg "range"=none
 n_enumerate:mg "enumerate"=none
 n_min:mg "min"=none
 n_max:mg "max"=none
 n_ValueError:mg "ValueError"=none
 Qm:Cls K A.Plain
 Oh:NoAttr K A.Plain "base"
 Qn:Cls K A.Below
 Oi:NoAttr K A.Below "base"
 Qk:Cls K A.Balanced
 PJ:NoAttr K A.Balanced "half"
 Qo:Cls K A.Growing
 Oj:NoAttr K A.Growing "first"
 R8:Cls K A.Falling
 Qe:NoAttr K A.Falling "most"
 Qf:Cls K A.Pairs
 Qp:NoAttr K A.Pairs "most"
 Qq:mg "Falling"=some (.ref A.Falling)
 Nv:mg "Pairs"=some (.ref A.Pairs)
 Nw:tj K A.Plain
 QG:PySem.W.kitOne K (.ref A.Plain) (.ref A.Falling)=some false
 QH:PySem.W.kitOne K (.ref A.Plain) (.ref A.Pairs)=some false
 Ny:tj K A.Below
 QI:PySem.W.kitOne K (.ref A.Below) (.ref A.Falling)=some false
 QJ:PySem.W.kitOne K (.ref A.Below) (.ref A.Pairs)=some false
 Nz:tj K A.Balanced
 QK:PySem.W.kitOne K (.ref A.Balanced) (.ref A.Falling)=some false
 QL:PySem.W.kitOne K (.ref A.Balanced) (.ref A.Pairs)=some false
 NA:tj K A.Growing
 QM:PySem.W.kitOne K (.ref A.Growing) (.ref A.Falling)=some false
 QN:PySem.W.kitOne K (.ref A.Growing) (.ref A.Pairs)=some false
 Np:tj K A.Falling
 Qx:PySem.W.kitOne K (.ref A.Falling) (.ref A.Falling)=some true
 QO:PySem.W.kitOne K (.ref A.Falling) (.ref A.Pairs)=some false
 NB:tj K A.Pairs
 QP:PySem.W.kitOne K (.ref A.Pairs) (.ref A.Falling)=some false
 QQ:PySem.W.kitOne K (.ref A.Pairs) (.ref A.Pairs)=some true
 NC:mg "OddError"=some (.ref A.OddError)
 ND:mg "NoWay"=some (.ref A.NoWay)
 NE:mg "NoNumber"=some (.ref A.NoNumber)
 Nq:mg "NoWriting"=some (.ref A.NoWriting)
 Nr:mg "TooLess"=some (.ref A.TooLess)
 NG:mg "NoRatio"=some (.ref A.NoRatio)
 NH:mg "NoFalling"=some (.ref A.NoFalling)
 Nt:mg "NoPairs"=some (.ref A.NoPairs)
 Nu:mg "Nought"=some (.ref A.Nought)
 NI:mg "NoSpan"=some (.ref A.NoSpan)
 NJ:mg "NoTotal"=some (.ref A.NoTotal)
 NK:mg "NoText"=some (.ref A.NoText)
 NL:mg "NoRow"=some (.ref A.NoRow)
 QR:ExcK K A.TooLess
 PK:wz K A.TooLess
 PL:PySem.W.exmOne K (.ref A.TooLess) (.ref A.OddError)=some true
 PM:PySem.W.kitOne K (.ref A.TooLess) (.ref A.OddError)=some true
 PN:PySem.W.kitOne K (.ref A.TooLess) (.ref A.NoWay)=some false
 PP:PySem.W.kitOne K (.ref A.TooLess) (.ref A.NoNumber)=some false
 PQ:PySem.W.kitOne K (.ref A.TooLess) (.ref A.NoWriting)=some false
 PR:PySem.W.kitOne K (.ref A.TooLess) (.ref A.TooLess)=some true
 PU:PySem.W.kitOne K (.ref A.TooLess) (.ref A.NoRatio)=some false
 PV:PySem.W.kitOne K (.ref A.TooLess) (.ref A.NoFalling)=some false
 PX:PySem.W.kitOne K (.ref A.TooLess) (.ref A.NoPairs)=some false
 PY:PySem.W.kitOne K (.ref A.TooLess) (.ref A.Nought)=some false
 PZ:PySem.W.kitOne K (.ref A.TooLess) (.ref A.NoSpan)=some false
 P0:PySem.W.kitOne K (.ref A.TooLess) (.ref A.NoTotal)=some false
 P3:PySem.W.kitOne K (.ref A.TooLess) (.ref A.NoText)=some false
 P4:PySem.W.kitOne K (.ref A.TooLess) (.ref A.NoRow)=some false
 P5:PySem.W.kitOne K (.ref A.TooLess) (.type "ValueError")=some true
 QS:ExcK K A.NoWriting
 R_:wz K A.NoWriting
 QT:PySem.W.exmOne K (.ref A.NoWriting) (.ref A.OddError)=some true
 P6:PySem.W.kitOne K (.ref A.NoWriting) (.ref A.OddError)=some true
 QU:PySem.W.kitOne K (.ref A.NoWriting) (.ref A.NoWay)=some false
 QV:PySem.W.kitOne K (.ref A.NoWriting) (.ref A.NoNumber)=some false
 QW:PySem.W.kitOne K (.ref A.NoWriting) (.ref A.NoWriting)=some true
 QX:PySem.W.kitOne K (.ref A.NoWriting) (.ref A.TooLess)=some false
 QY:PySem.W.kitOne K (.ref A.NoWriting) (.ref A.NoRatio)=some false
 QZ:PySem.W.kitOne K (.ref A.NoWriting) (.ref A.NoFalling)=some false
 Q0:PySem.W.kitOne K (.ref A.NoWriting) (.ref A.NoPairs)=some false
 Q2:PySem.W.kitOne K (.ref A.NoWriting) (.ref A.Nought)=some false
 Q3:PySem.W.kitOne K (.ref A.NoWriting) (.ref A.NoSpan)=some false
 Q4:PySem.W.kitOne K (.ref A.NoWriting) (.ref A.NoTotal)=some false
 Q5:PySem.W.kitOne K (.ref A.NoWriting) (.ref A.NoText)=some false
 Q6:PySem.W.kitOne K (.ref A.NoWriting) (.ref A.NoRow)=some false
 Q7:PySem.W.kitOne K (.ref A.NoWriting) (.type "ValueError")=some true
 Q8:ExcK K A.NoPairs
 Qa:wz K A.NoPairs
 Q9:PySem.W.exmOne K (.ref A.NoPairs) (.ref A.OddError)=some true
 P7:PySem.W.kitOne K (.ref A.NoPairs) (.ref A.OddError)=some true
 Q_:PySem.W.kitOne K (.ref A.NoPairs) (.ref A.NoWay)=some false
 Pa:PySem.W.kitOne K (.ref A.NoPairs) (.ref A.NoNumber)=some false
 Pb:PySem.W.kitOne K (.ref A.NoPairs) (.ref A.NoWriting)=some false
 Pc:PySem.W.kitOne K (.ref A.NoPairs) (.ref A.TooLess)=some false
 Pd:PySem.W.kitOne K (.ref A.NoPairs) (.ref A.NoRatio)=some false
 Pe:PySem.W.kitOne K (.ref A.NoPairs) (.ref A.NoFalling)=some false
 Pf:PySem.W.kitOne K (.ref A.NoPairs) (.ref A.NoPairs)=some true
 Pg:PySem.W.kitOne K (.ref A.NoPairs) (.ref A.Nought)=some false
 Ph:PySem.W.kitOne K (.ref A.NoPairs) (.ref A.NoSpan)=some false
 Pi:PySem.W.kitOne K (.ref A.NoPairs) (.ref A.NoTotal)=some false
 Pj:PySem.W.kitOne K (.ref A.NoPairs) (.ref A.NoText)=some false
 Pk:PySem.W.kitOne K (.ref A.NoPairs) (.ref A.NoRow)=some false
 Pl:PySem.W.kitOne K (.ref A.NoPairs) (.type "ValueError")=some true
 Pm:ExcK K A.Nought
 Qb:wz K A.Nought
 Pn:PySem.W.exmOne K (.ref A.Nought) (.ref A.OddError)=some true
 P8:PySem.W.kitOne K (.ref A.Nought) (.ref A.OddError)=some true
 Po:PySem.W.kitOne K (.ref A.Nought) (.ref A.NoWay)=some false
 Pp:PySem.W.kitOne K (.ref A.Nought) (.ref A.NoNumber)=some false
 Pq:PySem.W.kitOne K (.ref A.Nought) (.ref A.NoWriting)=some false
 Pr:PySem.W.kitOne K (.ref A.Nought) (.ref A.TooLess)=some false
 Ps:PySem.W.kitOne K (.ref A.Nought) (.ref A.NoRatio)=some false
 Pt:PySem.W.kitOne K (.ref A.Nought) (.ref A.NoFalling)=some false
 Pu:PySem.W.kitOne K (.ref A.Nought) (.ref A.NoPairs)=some false
 Pw:PySem.W.kitOne K (.ref A.Nought) (.ref A.Nought)=some true
 Px:PySem.W.kitOne K (.ref A.Nought) (.ref A.NoSpan)=some false
 Py:PySem.W.kitOne K (.ref A.Nought) (.ref A.NoTotal)=some false
 Pz:PySem.W.kitOne K (.ref A.Nought) (.ref A.NoText)=some false
 PD:PySem.W.kitOne K (.ref A.Nought) (.ref A.NoRow)=some false
 PF:PySem.W.kitOne K (.ref A.Nought) (.type "ValueError")=some true
def Adr.at (A:Adr):Kd→Addr
 | .plain=>A.Plain | .below=>A.Below | .balanced=>A.Balanced | .growing=>A.Growing | .falling=>A.Falling | .pairs=>A.Pairs
def zF (A:Adr) (k:Kd) (n:Int):Dt:=.way (A.at k) k.fld n
def xU (A:Adr) (k:Kd) (g:Int→Int→Int):DSp:=fun ds Q=>∃ n p,ds=[zF A k n,.int p]∧k.ok n∧Q (.int (g n p))
def wy (A:Adr) (k:Kd) (g:Int→Int→Nm):DSp:=fun ds Q=>∃ n p,ds=[zF A k n,.int p]∧k.ok n∧Q (g n p).dt
def Us:DSp:=fun ds Q=>∃ o p,ds=[o,p]∧Q (.int 0)
def SS:DSp:=fun ds Q=>∃ o,ds=[o]∧Q (.int 0)
def SR:DSp:=fun ds Q=>∃ o,ds=[o]∧Q (.tup [.int 0,.int 0])
def ST (k:Kd):DSp:=fun ds Q=>∃ o,ds=[o]∧Q k.zero.dt
theorem sT {K:PySem.W.Frag} {mg:Str→Option Value} {A:Adr} (T:Txt K mg A) (k:Kd):tj K (A.at k):=by
 cases k
 ·exact T.Nw
 ·exact T.Ny
 ·exact T.Nz
 ·exact T.NA
 ·exact T.Np
 ·exact T.NB
theorem kiF {K:PySem.W.Frag} {mg:Str→Option Value} {A:Adr} (T:Txt K mg A) (k:Kd):PySem.W.kitOne K (.ref (A.at k)) (.ref A.Falling)=some k.isF:=by
 cases k
 ·exact T.QG
 ·exact T.QI
 ·exact T.QK
 ·exact T.QM
 ·exact T.Qx
 ·exact T.QP
def ZX (A:Adr):DSp:=fun ds Q=>∃ k n r,ds=[zF A k n,zt r]∧k.ok n∧r.length≤1000∧Q (.bl (oB k n r))
def eL (A:Adr):DSp:=fun ds Q=>∃ k n r,ds=[zF A k n,zt r]∧k.ok n∧r.length≤1000∧∀ b:Bool,(b=true↔∀ p,p<r.length→k.low n p≤r.getD p 0∧r.getD p 0≤k.high n p)→Q (.bl b)
def lG (A:Adr):DSp:=fun ds Q=>∃ n r,ds=[zF A .falling n,zt r]∧Kd.falling.ok n∧r.length≤1000∧∀ b:Bool,(b=true↔∀ p,p+1<r.length→r.getD (p+1) 0=n→r.getD p 0=0)→Q (.bl b)
theorem ZM (k:Kd):(("low":Str) == k.fld)=false:=by cases k <;> decide +kernel
theorem fk (k:Kd):(("high":Str) == k.fld)=false:=by cases k <;> decide +kernel
def eB (A:Adr):DSp:=fun ds Q=>∃ k n t j,ds=[zF A k n,.int t,.int ((j:Nat):Int)]∧k.four=true∧k.ok n∧j≤100000∧Q (.tup [.int (sF k n j (.i t)),(sC k n j (.i t)).dt])
def eD (A:Adr):DSp:=fun ds Q=>∃ n d m j,ds=[zF A .pairs n,d,.int ((j:Nat):Int)]∧sQ d=some m∧Kd.pairs.ok n∧Q (.tup [.int (sF .pairs n j m),(sC .pairs n j m).dt])
def lD (A:Adr) (k:Kd):DSp:=fun ds Q=>∃ n m j,ds=[zF A k n,Nm.dt m,.int ((j:Nat):Int)]∧m.ty k∧k.ok n∧j≤100000∧Q (.tup [.int (sF k n j m),(sC k n j m).dt])
theorem aW (k:Kd):(("split":Str) == k.fld)=false:=by cases k <;> decide +kernel
theorem q_ (k:Kd):(("ratio":Str) == k.fld)=false:=by cases k <;> decide +kernel
theorem s9 (k:Kd):(("nought":Str) == k.fld)=false:=by cases k <;> decide +kernel
theorem Se (k:Kd):(("has":Str) == k.fld)=false:=by cases k <;> decide +kernel
def SU (A:Adr):DSp:=fun ds Q=>∃ k n ts J,ds=[zF A k n,vz ts]∧k.five=true∧k.ok n∧(∀ t∈ts,tot k t)∧Fin k n ts J∧J≤50000∧Q (.tup [zt (wE k n ts J),.lst (oV k n ts (J+1))])
def qm (A:Adr):DSp:=fun ds Q=>∃ k n ts J,ds=[zF A k n,vz ts]∧k.five=true∧k.ok n∧(∀ t∈ts,tot k t)∧Fin k n ts J∧J≤50000∧Q (zt (eZ k n ts J))
def NF (A:Adr) (k:Kd) (R:Addr→Prop):Prop:=False
theorem gK {A:Adr} {k:Kd} {R R':Addr→Prop} (h:∀ C,R C→R' C) (z:NF A k R):NF A k R':=z.elim
def ZY (A:Adr):DSp:=fun ds Q=>∃ n s,ds=[zF A .falling n,yW s]∧Kd.falling.ok n∧(s.1=true→0<s.2)∧Q (.lst ((chg n s).map chD))
def o3 (A:Adr):DSp:=fun ds Q=>∃ n l,∃ p:Nat,ds=[zF A .falling n,zt l,.int p]∧Kd.falling.ok n∧p<l.length∧Q (UQ (yt n (hf l) p))
def lF (A:Adr):DSp:=fun ds Q=>∃ n l s,ds=[zF A .falling n,zt l,yW s]∧Kd.falling.ok n∧s.2<l.length∧Can n s (hf l)∧∀ m:Int,1≤m→Oft n s (hf l) m→Q (.int m)
def SV (A:Adr):ASp:=fun d0 es0 ds Q=>∃ n l s m,d0=zF A .falling n∧es0=l.map Dt.int∧ds=[yW s,.int m]∧Kd.falling.ok n∧(s.1=true→0<s.2)∧s.2≤5000∧∀ l',l'.length=max l.length (s.2+2)→(∀ i,hf l' i=hf l i+m*dlt n s i)→Q (l'.map Dt.int)
def lI (A:Adr):yp:=fun ds Q R=>∃ k n h,ds=[zF A k n,zt h]∧k.ok n∧(NF A k R∨(k=.falling∧(∃ z∈h,z<0)∧R A.TooLess)∨(k=.falling∧(∀ z∈h,0≤z)∧Q .non))
def ZV (A:Adr):yp:=fun ds Q R=>∃ k n h,ds=[zF A k n,zt h]∧k.ok n∧h.length≤1000∧(NF A k R∨(k=.falling∧(∃ z∈h,z<0)∧R A.TooLess)∨(k=.falling∧(∀ z∈h,0≤z)∧pot n h≤15000000∧∀ ss r,SZ n h ss r→Q (.tup [.lst (ss.map yW),zt r])))
def qp (A:Adr):yp:=fun ds Q R=>∃ k n h,ds=[zF A k n,zt h]∧k.ok n∧h.length≤1000∧(NF A k R∨(k=.falling∧(∃ z∈h,z<0)∧R A.TooLess)∨(k=.falling∧(∀ z∈h,0≤z)∧pot n h≤15000000∧∀ ss r,SZ n h ss r→Q (zt r)))
def xv (A:Adr):DSp:=fun ds Q=>∃ k n ts b,ds=[zF A k n,vz ts]∧k.ok n∧ts.length≤900∧(∀ t∈ts,tot k t)∧(∀ t∈ts,t.re.natAbs≤2 ^ b∧t.im.natAbs≤2 ^ b)∧7≤b∧b≤1000∧(sG k→0≤(yc k n ts).re)∧(k=.falling→∃ h,ts=h.map Nm.i∧(∀ z∈h,0≤z)∧pot n h≤15000000)∧∀ r,Legal k n r→zx k n r=yc k n ts→r.length≤ts.length+4*b+60→Q (zt r)
def uo:DSp:=fun ds Q=>∃ a b,ds=[vz a,vz b]∧a.length≤1000∧b.length≤1000∧Q (vz (xQ a b))
def um:DSp:=fun ds Q=>∃ a f,ds=[zt a,Nm.dt f]∧a.length≤1000∧(-1000000≤f.re∧f.re≤1000000∧-1000000≤f.im∧f.im≤1000000)∧Q (vz (wB a f))
theorem o6 {A:Adr} {ds:List Dt} {Q:Dt→Prop} (h:xv A ds Q):xv A ds Q:=h
theorem kiP {K:PySem.W.Frag} {mg:Str→Option Value} {A:Adr} (T:Txt K mg A) (k:Kd):PySem.W.kitOne K (.ref (A.at k)) (.ref A.Pairs)=some (match k with | .pairs=>true | _=>false):=by
 cases k
 ·exact T.QH
 ·exact T.QJ
 ·exact T.QL
 ·exact T.QN
 ·exact T.QO
 ·exact T.QQ
def eG (A:Adr):DSp:=fun ds Q=>∃ k n r m,ds=[zF A k n,zt r,.int m]∧k.four=true∧lL k n r m∧∀ qs e,Quo k n r m qs e→Q (.tup [zt qs,.int e])
def eH (A:Adr):DSp:=fun ds Q=>∃ n r m,ds=[zF A .falling n,zt r,.int m]∧lL .falling n r m∧∀ qs e,Quo .falling n r m qs e→Q (.tup [zt qs,.int e])
def ZW (A:Adr):DSp:=fun ds Q=>∃ k n r m,ds=[zF A k n,zt r,.int m]∧k≠.pairs∧lL k n r m∧∀ qs e,Quo k n r m qs e→Q (.tup [zt qs,.int e])
def eh (A:Adr):DSp:=fun ds Q=>∃ k n,ds=[.int (Kd.num k),.int n]∧k.ok n∧Q (zF A k n)
theorem TZ (i:Int):∃ k:Kd,k.num=i.fmod 6:=by
 have a0:=Int.fmod_nonneg_of_pos i (show (0:Int)<6 by decide)
 have a1:=Int.fmod_lt_of_pos i (show (0:Int)<6 by decide)
 rcases (by omega:i.fmod 6=0∨i.fmod 6=1∨i.fmod 6=2∨i.fmod 6=3∨i.fmod 6=4∨i.fmod 6=5) with e | e | e | e | e | e <;> rw [e]
 ·exact ⟨.plain,rfl⟩
 ·exact ⟨.below,rfl⟩
 ·exact ⟨.balanced,rfl⟩
 ·exact ⟨.growing,rfl⟩
 ·exact ⟨.falling,rfl⟩
 ·exact ⟨.pairs,rfl⟩
def uq (A:Adr):yp:=fun ds Q R=>∃ k n,∃ rs:List (List Int),ds=[zF A k n,.lst (rs.map zt)]∧k.ok n∧(∀ r∈rs,r.length≤1000)∧(((∀ r∈rs,Legal k n r)∧Q .non)∨((∃ r∈rs,¬ Legal k n r)∧R A.NoWriting))
def ZU (A:Adr):DSp:=fun ds Q=>∃ n r,ds=[zF A .falling n,zt r]∧r.length≤1000∧(∀ z∈r,z=0)∧Q (zt r)
def lE (A:Adr):yp:=fun ds Q R=>∃ k n a b,ds=[zF A k n,zt a,zt b]∧k.ok n∧a.length≤200∧b.length≤200∧((Legal k n a∧Legal k n b∧∀ r,Q (zt r))∨((¬ Legal k n a∨¬ Legal k n b)∧R A.NoWriting))
def eK (A:Adr):yp:=fun ds Q R=>∃ k n a b,ds=[zF A k n,zt a,zt b]∧k.ok n∧a.length≤200∧b.length≤200∧((Legal k n a∧Legal k n b∧b=a∧∀ r,Q (zt r))∨((¬ Legal k n a∨¬ Legal k n b)∧R A.NoWriting))
def eo (A:Adr):yp:=fun ds Q R=>∃ k n a b,ds=[zF A k n,zt a,zt b]∧k.ok n∧a.length≤200∧b.length≤200∧((Legal k n a∧Legal k n b∧b=[1]∧∀ r,Q (zt r))∨((¬ Legal k n a∨¬ Legal k n b)∧R A.NoWriting))
def ey (A:Adr):DSp:=fun ds Q=>∃ k n a,ds=[zF A k n,zt a,zt [1]]∧k.five=true∧k.ok n∧Legal k n a∧a.length≤200∧∀ r,Q (zt r)
def lC (A:Adr):DSp:=fun ds Q=>∃ n a,ds=[zF A .falling n,zt a,zt [1]]∧Kd.falling.ok n∧Legal .falling n a∧a.length≤200∧∀ r,Q (zt r)
def eE (A:Adr):yp:=fun ds Q R=>∃ k n r m,ds=[zF A k n,zt r,.int m]∧k.ok n∧r.length≤200∧((k=.pairs∧R A.NoPairs)∨(k≠.pairs∧¬ Legal k n r∧R A.NoWriting)∨(k≠.pairs∧Legal k n r∧m<1∧R A.Nought)∨(k≠.pairs∧Legal k n r∧1≤m∧m.natAbs<2 ^ 9000∧∀ d,Q d))
def RZ (A:Adr) (c:Nat) (Q:Dt→Prop) (R:Addr→Prop):Prop:=match c with
 | 0=>∀ d,Q d
 | 1=>R A.NoWriting
 | 2=>R A.NoPairs
 | _=>R A.Nought
def lK (A:Adr):yp:=fun ds Q R=>∃ k n t r d c,ds=[zF A k n,.int t,zt r,d]∧k.ok n∧r.length≤100∧Due k n t r d c∧RZ A c Q R
def eM (A:Adr):DSp:=fun ds Q=>∃ k n t r d c,ds=[zF A k n,.int t,zt r,d]∧k.ok n∧r.length≤100∧Due k n t r d c∧Q (nms c)
def eJ (A:Adr):DSp:=fun ds Q=>∃ C,ds=[.exc C]∧((C=A.NoWriting∧Q (nms 1))∨(C=A.NoPairs∧Q (nms 2))∨(C=A.Nought∧Q (nms 3)))
def eA:DSp:=fun ds Q=>∃ k n r c,ds=[.int (Kd.num k),.int n,zt r,.int c]∧k.ok n∧r.length≤90∧0≤c∧∀ r',¬ Legal k n r'→r'.length≤100→Q (zt r')
section
variable {P:Program} {w:World} {K:PySem.W.Frag} {mg:Str→Option Value} {base:Heap} {f:Addr} {fd:FuncData} {A:Adr}
abbrev wI:Stmt:=top 68
theorem qz:zi ["_law_cell"] ["_law_cell"] (defScope wI):=by walk_at "sc"
theorem qM (T:Txt K mg A) (F:Fun K "_law_mixed" "_law_mixed" wI f fd):FnOk P w K mg base CX0 1 f fd ["_law_cell"] (zq K (tV)):=by
 refine okD F qz (by walk_at "ln") fun _ _ _ _ _ _ hr ds Q h=>?_
 obtain ⟨z,rfl,q⟩:=h
 refine ⟨_,(zg (zl (zj yh (zj xA (dv 0) ze) ze))),?_⟩
 walk_at "rd"
 exact q _ (Int.fmod_nonneg_of_pos _ (by decide))
abbrev vC:Stmt:=top 69
theorem sc_law_pick:zi ["_law_cell","_law_mixed_here","_law_kind","_law_rest","_law_some"] ["_law_cell"] (defScope vC):=by walk_at "sc"
theorem oj (T:Txt K mg A) (G__law_mixed:DOk P w K mg base 1 "_law_mixed" (tV)) (F:Fun K "_law_pick" "_law_pick" vC f fd):FnOk P w K mg base CX0 2 f fd ["_law_cell"] (zq K (eI)):=by
 refine okD F sc_law_pick (by walk_at "ln") fun _ _ _ _ _ _ hr ds Q h=>?_
 obtain ⟨z,rfl,q⟩:=h
 refine ⟨_,(zf (zo (i:=1) sc_law_pick.nd rfl (Or.inl rfl) (zk G__law_mixed (hr.mono (by decide)) rfl (za (dv 0) zd)))
 (zf (zo (i:=2) sc_law_pick.nd rfl (Or.inl rfl) (zj yh (dv 1) ze))
 (zf (zo (i:=3) sc_law_pick.nd rfl (Or.inl rfl) (zj yI (dv 1) ze))
 (zf (zo (i:=4) sc_law_pick.nd rfl (Or.inl rfl) (zj yh (zj yI (dv 3) ze) ze))
 (z5 (zB (zr (yL hr) (zj yh (dv 3) ze) ze (zp _)) (zg (zo (i:=4) sc_law_pick.nd rfl (Or.inl rfl) (zj yh (zj yI (dv 3) ze) ze))) zn)
 (zf (zB (zr (yL hr) (dv 2) ze (zp _)) (zg (zl (zy (za (dv 2) (za (zj zU ze (zj yh (dv 4) ze)) zd))))) zn)
 (zf (zB (zr (ou) (dv 2) ze (zp _)) (zg (zl (zy (za (dv 2) (za (zj zU ze (zj yh (dv 4) ze)) zd))))) zn)
 (zg (zl (zy (za (dv 2) (za (zj zU ze (dv 4)) zd)))))))))))),?_⟩
 refine ⟨_,rfl,z,rfl,fun m hm=>?_⟩
 obtain ⟨k,hk⟩:=TZ m
 walk_at "rd"
 dsimp only
 rw [← hk]
 refine ⟨fun ρ=>∃ s:Int,ρ=[.some (.int z),.some (.int m),.some (.int k.num),.some (.int (m.fdiv 6)),.some (.int s)]∧0≤s∧s≤58,?_,?_⟩
 ·have b0:=Int.fmod_nonneg_of_pos ((m.fdiv 6).fdiv 2) (show (0:Int)<59 by decide)
  have b1:=Int.fmod_lt_of_pos ((m.fdiv 6).fdiv 2) (show (0:Int)<59 by decide)
  have c0:=Int.fmod_nonneg_of_pos ((m.fdiv 6).fdiv 2) (show (0:Int)<3 by decide)
  have c1:=Int.fmod_lt_of_pos ((m.fdiv 6).fdiv 2) (show (0:Int)<3 by decide)
  walk_at "rd"
  refine ifB (fun _=>?_) (fun _=>⟨_,rfl,by omega,by omega⟩)
  walk_at "rd"
  exact ⟨by omega,by omega⟩
 ·rintro ρ ⟨s,rfl,s0,s1⟩
  have c0:=Int.fmod_nonneg_of_pos s (show (0:Int)<30 by decide)
  have c1:=Int.fmod_lt_of_pos s (show (0:Int)<30 by decide)
  have d0:=Int.fmod_nonneg_of_pos s (show (0:Int)<9 by decide)
  have d1:=Int.fmod_lt_of_pos s (show (0:Int)<9 by decide)
  cases k
  all_goals walk_at "rd"
  ·exact q .plain _ ⟨by show (2:Int)≤_; omega,by show _≤(60:Int); omega⟩
  ·exact q .below _ ⟨by show (2:Int)≤_; omega,by show _≤(60:Int); omega⟩
  ·exact q .balanced _ ⟨by show (1:Int)≤_; omega,by show _≤(30:Int); omega⟩
  ·exact q .growing _ ⟨by show (2:Int)≤_; omega,by show _≤(60:Int); omega⟩
  ·exact q .falling _ ⟨by show (1:Int)≤_; omega,by show _≤(9:Int); omega⟩
  ·exact q .pairs _ ⟨by show (1:Int)≤_; omega,by show _≤(9:Int); omega⟩
abbrev xG:Stmt:=top 67
theorem su:zi ["_law_script","_law_k"] ["_law_script","_law_k"] (defScope xG):=by walk_at "sc"
theorem sK (T:Txt K mg A) (F:Fun K "_law_cell_at" "_law_cell_at" xG f fd):FnOk P w K mg base CX0 1 f fd ["_law_script","_law_k"] (zq K (eN)):=by
 refine okD F su (by walk_at "ln") fun _ _ _ _ _ _ hr ds Q h=>?_
 obtain ⟨ns,k,rfl,hk,q⟩:=h
 refine ⟨_,(zf (zB (zr (sP) (dv 1) (yK rfl T.len (dv 0)) (zp _)) (zg (zl (zC (dv 0) (dv 1) (fun _ _=>rfl)))) zn)
 (zg (zl ze))),?_⟩
 walk_at "rd"
 refine T0 (fun hlt=>?_) (fun _=>q 0)
 have hlt:k<(ns.map Dt.int).length:=of_decide_eq_true hlt
 rw [List.length_map] at hlt
 exact ⟨_,rfl,_,rfl,_,_,_,rfl,rfl,uj hk hlt,q _⟩
abbrev vF:Stmt:=top 16
theorem p5:zi ["value"] ["value"] (defScope vF):=by walk_at "sc"
theorem om (T:Txt K mg A) (F:Fun K "is_whole" "is_whole" vF f fd):FnOk P w K mg base CX0 1 f fd ["value"] (zq K (xg)):=by
 refine okD F p5 (by walk_at "ln") fun _ _ _ _ _ _ hr ds Q h=>?_
 obtain ⟨d,b,rfl,hw,q⟩:=h
 refine ⟨_,(zg (zl (rc (mi (T:=.int) T.kt T.isinstance T.n_int PyProof.Rows.boot_int (dv 0)) (mh (fG (mi (T:=.bool) T.kt T.isinstance T.n_bool PyProof.Rows.boot_bool (dv 0))))))),?_⟩
 cases d <;> cases hw
 all_goals
  walk_at "rd"
  exact q
abbrev uC:Stmt:=top 22
theorem nv:zi ["number","least","most"] ["number","least","most"] (defScope uC):=by walk_at "sc"
theorem nN (T:Txt K mg A) (G_is_whole:DOk P w K mg base 1 "is_whole" (xg)) (F:Fun K "bounded" "bounded" uC f fd):FnOk P w K mg base CX0 2 f fd ["number","least","most"] (zq K (yQ)):=by
 refine okD F nv (by walk_at "ln") fun _ _ _ _ _ _ hr ds Q h=>?_
 obtain ⟨n,lo,hi,rfl,h1,h2,q⟩:=h
 refine ⟨_,(zf (zB (DW.dt (oQ (s_ (z9 (zk G_is_whole (hr.mono (by decide)) rfl (za (dv 0) zd)))) (oQ (zr (sP) (dv 0) (dv 1) (zp _)) (pd (zr (ou) (dv 0) (dv 2) (zp _)))))) (zg w4) zn)
 (zg (zl (dv 0)))),?_⟩
 walk_at "rd"
 rw [decide_eq_false (by omega:¬ n<lo)]
 walk_at "rd"
 rw [decide_eq_false (by omega:¬ hi<n)]
 walk_at "rd"
 exact q
abbrev y8:Stmt:=inClass (top 24) 0
theorem rn:zi ["self","base"] ["self","base"] (defScope y8):=by walk_at "sc"
theorem rG (T:Txt K mg A) (G_bounded:DOk P w K mg base 2 "bounded" (yQ)) (F:Fun K "__init__" "Plain.__init__" y8 f fd):FnOk P w K mg base CX0 3 f fd ["self","base"] (xx A.Plain "base" (Kd.ok .plain)):=by
 refine vg F rn T.Qm T.Oh (fun cdv A outer s H E hr=>?_)
 obtain ⟨te,p,l⟩:=((zk G_bounded (hr.mono (by decide)) rfl (za (dv 1) (za ze (za ze zd)))):DE (yC CX0 P w K mg base ["self","base"] "Plain.__init__" (defScope y8) f cdv A outer s H E).nox _ _)
 refine ⟨te,_,wd (uH (pv 0) p rfl),l,fun i hi=>?_⟩
 exact ⟨_,rfl,_,_,_,rfl,hi.1,hi.2,rfl⟩
abbrev y_:Stmt:=inClass (top 25) 0
theorem rB:zi ["self","base"] ["self","base"] (defScope y_):=by walk_at "sc"
theorem rL (T:Txt K mg A) (G_bounded:DOk P w K mg base 2 "bounded" (yQ)) (F:Fun K "__init__" "Below.__init__" y_ f fd):FnOk P w K mg base CX0 3 f fd ["self","base"] (xx A.Below "base" (Kd.ok .below)):=by
 refine vg F rB T.Qn T.Oi (fun cdv A outer s H E hr=>?_)
 obtain ⟨te,p,l⟩:=((zk G_bounded (hr.mono (by decide)) rfl (za (dv 1) (za ze (za ze zd)))):DE (yC CX0 P w K mg base ["self","base"] "Below.__init__" (defScope y_) f cdv A outer s H E).nox _ _)
 refine ⟨te,_,wd (uH (pv 0) p rfl),l,fun i hi=>?_⟩
 exact ⟨_,rfl,_,_,_,rfl,hi.1,hi.2,rfl⟩
abbrev yq:Stmt:=inClass (top 26) 0
theorem ut:zi ["self","half"] ["self","half"] (defScope yq):=by walk_at "sc"
theorem uK (T:Txt K mg A) (G_bounded:DOk P w K mg base 2 "bounded" (yQ)) (F:Fun K "__init__" "Balanced.__init__" yq f fd):FnOk P w K mg base CX0 3 f fd ["self","half"] (xx A.Balanced "half" (Kd.ok .balanced)):=by
 refine vg F ut T.Qk T.PJ (fun cdv A outer s H E hr=>?_)
 obtain ⟨te,p,l⟩:=((zk G_bounded (hr.mono (by decide)) rfl (za (dv 1) (za ze (za ze zd)))):DE (yC CX0 P w K mg base ["self","half"] "Balanced.__init__" (defScope yq) f cdv A outer s H E).nox _ _)
 refine ⟨te,_,wd (uH (pv 0) p rfl),l,fun i hi=>?_⟩
 exact ⟨_,rfl,_,_,_,rfl,hi.1,hi.2,rfl⟩
abbrev yE:Stmt:=inClass (top 27) 0
theorem tq:zi ["self","first"] ["self","first"] (defScope yE):=by walk_at "sc"
theorem tG (T:Txt K mg A) (G_bounded:DOk P w K mg base 2 "bounded" (yQ)) (F:Fun K "__init__" "Growing.__init__" yE f fd):FnOk P w K mg base CX0 3 f fd ["self","first"] (xx A.Growing "first" (Kd.ok .growing)):=by
 refine vg F tq T.Qo T.Oj (fun cdv A outer s H E hr=>?_)
 obtain ⟨te,p,l⟩:=((zk G_bounded (hr.mono (by decide)) rfl (za (dv 1) (za ze (za ze zd)))):DE (yC CX0 P w K mg base ["self","first"] "Growing.__init__" (defScope yE) f cdv A outer s H E).nox _ _)
 refine ⟨te,_,wd (uH (pv 0) p rfl),l,fun i hi=>?_⟩
 exact ⟨_,rfl,_,_,_,rfl,hi.1,hi.2,rfl⟩
abbrev yF:Stmt:=inClass (top 28) 0
theorem tw:zi ["self","most"] ["self","most"] (defScope yF):=by walk_at "sc"
theorem tI (T:Txt K mg A) (G_bounded:DOk P w K mg base 2 "bounded" (yQ)) (F:Fun K "__init__" "Falling.__init__" yF f fd):FnOk P w K mg base CX0 3 f fd ["self","most"] (xx A.Falling "most" (Kd.ok .falling)):=by
 refine vg F tw T.R8 T.Qe (fun cdv A outer s H E hr=>?_)
 obtain ⟨te,p,l⟩:=((zk G_bounded (hr.mono (by decide)) rfl (za (dv 1) (za ze (za ze zd)))):DE (yC CX0 P w K mg base ["self","most"] "Falling.__init__" (defScope yF) f cdv A outer s H E).nox _ _)
 refine ⟨te,_,wd (uH (pv 0) p rfl),l,fun i hi=>?_⟩
 exact ⟨_,rfl,_,_,_,rfl,hi.1,hi.2,rfl⟩
abbrev y9:Stmt:=inClass (top 29) 0
theorem rq:zi ["self","most"] ["self","most"] (defScope y9):=by walk_at "sc"
theorem rJ (T:Txt K mg A) (G_bounded:DOk P w K mg base 2 "bounded" (yQ)) (F:Fun K "__init__" "Pairs.__init__" y9 f fd):FnOk P w K mg base CX0 3 f fd ["self","most"] (xx A.Pairs "most" (Kd.ok .pairs)):=by
 refine vg F rq T.Qf T.Qp (fun cdv A outer s H E hr=>?_)
 obtain ⟨te,p,l⟩:=((zk G_bounded (hr.mono (by decide)) rfl (za (dv 1) (za ze (za ze zd)))):DE (yC CX0 P w K mg base ["self","most"] "Pairs.__init__" (defScope y9) f cdv A outer s H E).nox _ _)
 refine ⟨te,_,wd (uH (pv 0) p rfl),l,fun i hi=>?_⟩
 exact ⟨_,rfl,_,_,_,rfl,hi.1,hi.2,rfl⟩
abbrev uy:Stmt:=top 70
theorem nt:zi ["_law_kind","_law_by"] ["_law_kind","_law_by"] (defScope uy):=by walk_at "sc"
theorem nJ (T:Txt K mg A) (Ol:KOk P w K mg base 3 "Plain" A.Plain "base" (Kd.ok .plain)) (Om:KOk P w K mg base 3 "Below" A.Below "base" (Kd.ok .below)) (On:KOk P w K mg base 3 "Balanced" A.Balanced "half" (Kd.ok .balanced)) (Oo:KOk P w K mg base 3 "Growing" A.Growing "first" (Kd.ok .growing)) (Op:KOk P w K mg base 3 "Falling" A.Falling "most" (Kd.ok .falling)) (Oq:KOk P w K mg base 3 "Pairs" A.Pairs "most" (Kd.ok .pairs)) (F:Fun K "_law_way" "_law_way" uy f fd):FnOk P w K mg base CX0 5 f fd ["_law_kind","_law_by"] (zq K (eh A)):=by
 refine okD F nt (by walk_at "ln") fun _ _ _ _ _ _ hr ds Q h=>?_
 obtain ⟨k,n,rfl,hn,q⟩:=h
 refine ⟨_,(zf (zB (zr (yL hr) (dv 0) ze (zp _)) (zg (zl (vm Ol (hr.mono (by decide)) rfl (za (dv 1) zd)))) zn)
 (zf (zB (zr (yL hr) (dv 0) ze (zp _)) (zg (zl (vm Om (hr.mono (by decide)) rfl (za (dv 1) zd)))) zn)
 (zf (zB (zr (yL hr) (dv 0) ze (zp _)) (zg (zl (vm On (hr.mono (by decide)) rfl (za (dv 1) zd)))) zn)
 (zf (zB (zr (yL hr) (dv 0) ze (zp _)) (zg (zl (vm Oo (hr.mono (by decide)) rfl (za (dv 1) zd)))) zn)
 (zf (zB (zr (yL hr) (dv 0) ze (zp _)) (zg (zl (vm Op (hr.mono (by decide)) rfl (za (dv 1) zd)))) zn)
 (zg (zl (vm Oq (hr.mono (by decide)) rfl (za (dv 1) zd))))))))),?_⟩
 cases k
 all_goals
  walk_at "rd"
  exact ⟨hn,q⟩
abbrev vB:Stmt:=top 71
theorem pY:zi ["_law_kind","_law_by","_law_place"] ["_law_kind","_law_by","_law_place"] (defScope vB):=by walk_at "sc"
theorem oi (T:Txt K mg A) (F:Fun K "_law_span" "_law_span" vB f fd):FnOk P w K mg base CX0 1 f fd ["_law_kind","_law_by","_law_place"] (zq K (mz)):=by
 refine okD F pY (by walk_at "ln") fun _ _ _ _ _ _ hr ds Q h=>?_
 obtain ⟨k,n,p,rfl,hn,q⟩:=h
 refine ⟨_,(zf (zB (zr (yL hr) (dv 0) ze (zp _)) (zg (zl (zy (za (zj zS ze (dv 1)) (za (dv 1) zd))))) zn)
 (zf (zB (zr (yL hr) (dv 0) ze (zp _)) (zg (zl (zy (za ze (za (zj zS (zj zU (dv 1) (dv 2)) ze) zd))))) zn)
 (zf (zB (zr (yL hr) (dv 0) ze (zp _)) (zg (zl (zy (za ze (za (dv 1) zd))))) zn)
 (zf (zB (zr (yL hr) (dv 0) ze (zp _)) (zg (zl (zy (za ze (za (zj xA (dv 1) (dv 1)) zd))))) zn)
 (zg (zl (zy (za ze (za (zj zS (dv 1) ze) zd))))))))),?_⟩
 obtain ⟨b1,b2⟩:=wT hn
 have e0:(0:Int) - n=-n:=by omega
 cases k
 all_goals
  repeat (first | (walk_at "rd1") | refine ⟨small (by omega) (by omega) _,?_⟩)
  first
  | exact q
  | (dsimp only; rw [e0]; exact q)
abbrev xF:Stmt:=top 72
theorem sc_law_figures:zi ["_law_kind","_law_by","_law_cells","_law_row","_law_place","_law_mixed_here","_law_low","_law_high","_law_some"] ["_law_kind","_law_by","_law_cells"] (defScope xF):=by walk_at "sc"
theorem sJ (T:Txt K mg A) (G__law_mixed:DOk P w K mg base 1 "_law_mixed" (tV)) (G__law_span:DOk P w K mg base 1 "_law_span" (mz)) (F:Fun K "_law_figures" "_law_figures" xF f fd):FnOk P w K mg base CX0 2 f fd ["_law_kind","_law_by","_law_cells"] (zq K (lJ)):=by
 refine okD F sc_law_figures (by walk_at "ln") fun _ _ _ _ _ _ hr ds Q h=>?_
 obtain ⟨k,n,cs,rfl,hn,hl,q⟩:=h
 refine ⟨_,(zf (yb (i:=3) sc_law_figures.nd rfl (Or.inl rfl) (wu zd))
 (zf (lf (j:=4) rfl sc_law_figures.nd rfl (Or.inl rfl) PassesOwn.never rfl T.range (yK rfl T.len (dv 2)) (zf (zo (i:=5) sc_law_figures.nd rfl (Or.inl rfl) (zk G__law_mixed (hr.mono (by decide)) rfl (za (zC (dv 2) (dv 4) (fun _ _=>rfl)) zd)))
 (zf (ma (i:=6) (j:=7) rfl sc_law_figures.nd rfl rfl (Or.inl rfl) (Or.inl rfl) (zk G__law_span (hr.mono (by decide)) rfl (za (dv 0) (za (dv 1) (za (dv 4) zd)))))
 (zf (zo (i:=8) sc_law_figures.nd rfl (Or.inl rfl) (zE (za ze (za (dv 7) (za (dv 6) (za (dv 7) (za ze zd)))))))
 (zg (zB (zr (sP) (zj yh (dv 5) ze) ze (zp _)) (zg (wq 3 (zC (dv 8) (zj yh (dv 5) ze) (fun _ _=>rfl)))) (zg (wq 3 (zj zU (dv 6) (zj yh (zj yI (dv 5) ze) (zj zU (zj zS (dv 7) (dv 6)) ze)))))))))))
 (zf (vk (j:=4) rfl sc_law_figures.nd rfl (Or.inl rfl) PassesOwn.never rfl T.range (za (zj zS (wv 3 rfl T.len) ze) (za ze (za (zR ze) zd))) (zg (zB (DW.dt (y4 (zr (yL hr) (dv 0) ze (zp _)) (yJ (zr (yL hr) (pf 3 (dv 4) (fun _ _=>rfl)) (dv 1) (zp _))))) (zg (V2 3 (zj zS (dv 4) ze) ze)) zn)))
 (zf (xS PassesOwn.never (DW.dt (y4 (zr (ou) (wv 3 rfl T.len) ze (zp _)) (yJ (zr (yL hr) (pf 3 (zR ze) (fun _ _=>rfl)) ze (zp _))))) (zg (fu 3)))
 (zg (ue 3)))))),?_⟩
 have ll:=zD cs
 walk_at "rd"
 refine ⟨_,fun i ρ=>∃ (r:List Int) (v4 v5 v6 v7 v8:Sl),ρ=[.some (.int k.num),.some (.int n),.some (zt cs),.own (r.map Dt.int),v4,v5,v6,v7,v8]∧r.length=i∧∀ p,p<i→k.low n p≤r.getD p 0∧r.getD p 0≤k.high n p,rfl,by omega,by omega,⟨[],_,_,_,_,_,rfl,rfl,fun p hp=>absurd hp (Nat.not_lt_zero _)⟩,?_,?_⟩
 ·rintro i ρ' hi ⟨r,v4,v5,v6,v7,v8,rfl,hlr,hp⟩
  have hi':i<cs.length:=by omega
  refine ⟨_,rfl,_,rfl,_,_,_,rfl,rfl,sE hi',_,rfl,fun m hm=>?_⟩
  refine ⟨_,rfl,_,rfl,_,rfl,k,n,i,rfl,hn,_,_,rfl,?_⟩
  have m0:=Int.fmod_nonneg_of_pos m (show (0:Int)<9 by decide)
  obtain ⟨l1,l2⟩:=uP hn i
  walk_at "rd"
  refine ifB (fun h=>?_) (fun h=>?_)
  ·obtain ⟨f,ef,hf⟩:=fe hn m0 (of_decide_eq_true h) (p:=i)
   refine ⟨_,rfl,_,rfl,_,rfl,_,_,rfl,rfl,ly (by decide),_,_,_,rfl,rfl,ef,by rw [zD]; omega,?_⟩
   obtain ⟨r',e1,e2,e3⟩:=Fg.snoc hlr hp hf
   exact ⟨r',_,_,_,_,_,by rw [e1]; rfl,e2,e3⟩
  ·have hp0:(0:Int)<k.high n i - k.low n i+1:=by omega
   have f0:=Int.fmod_nonneg_of_pos (m.fdiv 9) hp0
   have f1:=Int.fmod_lt_of_pos (m.fdiv 9) hp0
   walk_at "rd"
   refine ⟨(by show k.high n i - k.low n i+1≠0; omega),?_⟩
   walk_at "rd"
   refine ⟨by rw [zD]; omega,?_⟩
   obtain ⟨r',e1,e2,e3⟩:=Fg.snoc hlr hp (f:=k.low n i+(m.fdiv 9).fmod (k.high n i - k.low n i+1)) ⟨by omega,by omega⟩
   exact ⟨r',_,_,_,_,_,by rw [← e1]; rfl,e2,e3⟩
 ·rintro ρ' ⟨r0,v4,v5,v6,v7,v8,rfl,hl0,hp0⟩
  rw [Int.toNat_natCast,ll] at hl0 hp0
  have hF0:Fg k n r0:=fun p hp=>hp0 p (by omega)
  have l0:=zD r0
  walk_at "rd"
  refine ⟨_,_,fun i ρ=>∃ (r:List Int) (v4:Sl),ρ=[.some (.int k.num),.some (.int n),.some (zt cs),.own (r.map Dt.int),v4,v5,v6,v7,v8]∧r.length=r0.length∧Fg k n r∧Fl k n r i,rfl,by omega,by omega,by decide,by decide,⟨r0,_,rfl,rfl,hF0,fun _ q h1 h2=>by omega⟩,?_,?_⟩
  ·rintro i ρ' hi ⟨r,v4,rfl,hr1,hF,hL⟩
   have lr:=zD r
   obtain ⟨p,hp⟩:∃ p:Nat,p+i+1=r0.length:=⟨r0.length - 1 - i,by omega⟩
   have ep:((List.map Dt.int r0).length:Int) - 1 - i=p:=by omega
   rw [ep]
   have h0:0<p:=by omega
   have done:(k.isF=true→r.getD p 0≠n∨r.getD (p - 1) 0=0)→Fl k n r (i+1):=fun hz hk q h1 h2 h3=>by
    rcases (by omega:r.length≤q+1+i∨q+1=p) with z | z
    ·exact hL hk q z h2 h3
    ·subst z
     rcases hz hk with hz | hz
     ·exact absurd h3 hz
     ·exact hz
   by_cases hk:k=.falling
   ·subst hk
    refine ⟨_,rfl,rfl,rfl,_,rfl,ifT rfl ?_⟩
    refine ⟨_,rfl,_,rfl,_,_,rfl,uj (by omega) (by omega),_,rfl,rfl,rfl,_,rfl,?_⟩
    rw [Int.toNat_natCast]
    refine ifB (fun h4=>?_) (fun h4=>⟨r,_,rfl,hr1,hF,done fun _=>.inl (qR h4)⟩)
    refine ⟨_,rfl,_,rfl,_,_,rfl,rfl,_,_,rfl,aL (by omega) (by rw [zD]; omega),?_⟩
    have e1:((p:Int) - 1).toNat=p - 1:=by omega
    rw [e1,pT]
    refine ⟨r.set (p - 1) 0,_,rfl,by rw [List.length_set]; exact hr1,hF.put hn _,fun hk q h1 h2 h3=>?_⟩
    rw [List.length_set] at h1 h2
    rcases (by omega:r.length≤q+1+i∨q+1=p) with z | z
    ·exact (hL.put hn (show p - 1+i<r.length by omega)) hk q (by rw [List.length_set]; exact z) (by rw [List.length_set]; exact h2) h3
    ·subst z
     exact yB (by omega)
   ·have en:eqD (.int k.num) (.int 4)=false:=by cases k <;> first | rfl | exact absurd rfl hk
    exact ⟨_,rfl,rfl,rfl,_,rfl,ifF en (ifF rfl ⟨r,_,rfl,hr1,hF,done fun h=>absurd (by cases k <;> first | rfl | cases h) hk⟩)⟩
  ·rintro ρ' ⟨r,v4,rfl,hr1,hF,hL⟩
   refine o8 rfl ?_
   have:=vR r
   have hg:Lg k n r:=⟨hF,fun hk q h1 h2=>hL hk q (by omega) h1 h2⟩
   exact ⟨_,rfl,q _ hg.trim (by omega)⟩
abbrev x8:Stmt:=top 76
theorem sc_law_spoilt:zi ["_law_kind","_law_by","_law_row","_law_mixed_here","_law_at","_law_low","_law_high","_law_far"] ["_law_kind","_law_by","_law_row","_law_mixed_here"] (defScope x8):=by walk_at "sc"
theorem rE (T:Txt K mg A) (G__law_span:DOk P w K mg base 1 "_law_span" (mz)) (F:Fun K "_law_spoilt" "_law_spoilt" x8 f fd):FnOk P w K mg base CX0 2 f fd ["_law_kind","_law_by","_law_row","_law_mixed_here"] (zq K (eA)):=by
 refine okD F sc_law_spoilt (by walk_at "ln") fun _ _ _ _ _ _ hr ds Q h=>?_
 obtain ⟨k,n,r,c,rfl,hn,hl,c0,q⟩:=h
 refine ⟨_,(zf (zB (zr (yL hr) (zj yh (dv 3) ze) ze (zp _)) (zg (zl (zj vv (dv 2) (zE (za ze zd))))) zn)
 (z5 (zB (DW.dt (y4 (zr (yL hr) (zj yh (dv 3) ze) ze (zp _)) (yJ (zr (yL hr) (dv 0) ze (zp _))))) (zg (zl (zj vv (dv 2) (zE (za ze (za (dv 1) zd)))))) zn)
 (zf (zo (i:=4) sc_law_spoilt.nd rfl (Or.inl rfl) (zj yh (zj yI (dv 3) ze) (zj zU (yK rfl T.len (dv 2)) ze)))
 (zf (ma (i:=5) (j:=6) rfl sc_law_spoilt.nd rfl rfl (Or.inl rfl) (Or.inl rfl) (zk G__law_span (hr.mono (by decide)) rfl (za (dv 0) (za (dv 1) (za (dv 4) zd)))))
 (zf (zo (i:=7) sc_law_spoilt.nd rfl (Or.inl rfl) (zC (zE (za (zj zU (zj zU (dv 6) ze) (zj yh (zj yI (dv 3) ze) ze)) (za (zj zS (zj zS (dv 5) ze) (zj yh (zj yI (dv 3) ze) ze)) zd))) (zj yh (zj yI (dv 3) ze) ze) (fun _ _=>rfl)))
 (zg (zl (zj vv (zj vv (rb (dv 2) lm (tU (dv 4))) (zE (za (dv 7) zd))) (rb (dv 2) (tU (zj zU (dv 4) ze)) lm))))))))),?_⟩
 have ll:=zD r
 obtain ⟨b1,b2⟩:=wT hn
 have hp:(0:Int)<(r.length:Int)+1:=by omega
 have a0:=Int.fmod_nonneg_of_pos (c.fdiv 4) hp
 have a1:=Int.fmod_lt_of_pos (c.fdiv 4) hp
 obtain ⟨a,ea⟩:∃ a:Nat,(c.fdiv 4).fmod ((r.length:Int)+1)=a:=⟨_,(Int.toNat_of_nonneg a0).symm⟩
 have ha:a≤r.length:=by omega
 have z0:=Int.fmod_nonneg_of_pos (c.fdiv 800) (show (0:Int)<3 by decide)
 have t0:=Int.fmod_nonneg_of_pos (c.fdiv 400) (show (0:Int)<2 by decide)
 have t1:=Int.fmod_lt_of_pos (c.fdiv 400) (show (0:Int)<2 by decide)
 refine ⟨_,rfl,_,_,rfl,rfl,ly (by decide),rfl,rfl,_,rfl,ifB (fun _=>?_) (fun _=>?_)⟩
 ·walk_at "rd"
  refine ⟨by rw [ll]; show _+1≤_; omega,?_⟩
  dsimp only
  have e:r.map Dt.int++[Dt.int 0]=(r++List.replicate (0+1) 0).map Dt.int:=by rw [List.map_append]; rfl
  rw [e]
  exact q _ (fX 0) (by rw [List.length_append,List.length_replicate]; omega)
 refine ⟨fun ρ=>ρ=[.some (.int k.num),.some (.int n),.some (zt r),.some (.int c),.none,.none,.none,.none],?_,?_⟩
 ·refine ⟨_,rfl,_,_,rfl,rfl,ly (by decide),rfl,rfl,_,rfl,ifB (fun _=>?_) (fun _=>ifF rfl rfl)⟩
  refine ⟨_,rfl,rfl,rfl,_,rfl,ifB (fun h=>?_) (fun _=>rfl)⟩
  obtain rfl:k=.falling:=by cases k <;> first | rfl | exact absurd (qS h) (by decide)
  walk_at "rd"
  refine ⟨by rw [ll]; show _+2≤_; omega,?_⟩
  dsimp only
  have e:r.map Dt.int++[Dt.int 1,.int n]=(r++[1,n]).map Dt.int:=by rw [List.map_append]; rfl
  rw [e]
  exact q _ (fY (by decide)) (by rw [List.length_append]; show _+2≤_; omega)
 rintro ρ rfl
 refine ⟨_,rfl,_,_,rfl,rfl,lz (by decide),_,rfl,_,rfl,?_⟩
 rw [ll]
 refine ⟨_,_,rfl,rfl,_,_,rfl,rfl,(by show (r.length:Int)+1≠0; omega),?_⟩
 dsimp only
 rw [ea]
 refine ⟨_,rfl,_,rfl,_,rfl,k,n,a,rfl,hn,_,_,rfl,?_⟩
 obtain ⟨x,ex,hx⟩:∃ x:Int,atI [Dt.int (k.high n a+1+(c.fdiv 800).fmod 3),.int (k.low n a - 1 - (c.fdiv 800).fmod 3)] ((c.fdiv 400).fmod 2)=some (.int x)∧(x<k.low n a∨k.high n a<x):=by
  rcases (by omega:(c.fdiv 400).fmod 2=0∨(c.fdiv 400).fmod 2=1) with e | e <;> rw [e]
  ·exact ⟨_,rfl,.inr (by omega)⟩
  ·exact ⟨_,rfl,.inl (by omega)⟩
 walk_at "rd"
 refine ⟨_,_,_,rfl,rfl,ex,?_⟩
 walk_at "rd"
 rw [fO,show [Dt.int x]=[x].map Dt.int from rfl]
 have l1:(r.take a).length=a:=by rw [List.length_take]; omega
 refine ⟨by rw [zD,l1]; show _+1≤_; omega,?_⟩
 refine ⟨_,rfl,_,rfl,_,_,rfl,rfl,_,rfl,_,rfl,?_⟩
 rw [show ((a:Int)+1)=((a+1:Nat):Int) by omega,fQ,oX]
 refine ⟨_,_,rfl,rfl,?_,?_⟩
 rotate_left
 ·rw [oX]
  refine q _ (Zi ha hx) ?_
  rw [List.length_append,List.length_append,List.length_drop,l1]; show _+1+_≤_; omega
 ·rw [zD,zD,List.length_append,List.length_drop,l1]; show _+1+_≤_; omega
abbrev zK:Stmt:=top 46
theorem sc_has_mosts_above_noughts_alone:zi ["way","row","place"] ["way","row"] (defScope zK):=by walk_at "sc"
theorem yH (T:Txt K mg A) (F:Fun K "has_mosts_above_noughts_alone" "has_mosts_above_noughts_alone" zK f fd):FnOk P w K mg base CX0 1 f fd ["way","row"] (zq K (lG A)):=by
 refine okD F sc_has_mosts_above_noughts_alone (by walk_at "ln") fun _ _ _ _ _ _ hr ds Q h=>?_
 obtain ⟨n,r,rfl,hn,hl,q⟩:=h
 refine ⟨_,(zf (fv (j:=2) rfl sc_has_mosts_above_noughts_alone.nd rfl (Or.inl rfl) PassesOwn.never rfl T.range (za ze (za (yK rfl T.len (dv 1)) zd)) (zg (zB (DW.dt (y4 (zr (yL hr) (zC (dv 1) (dv 2) (fun _ _=>rfl)) (zL (dv 0)) (zp _)) (yJ (zr (kb hr) (zC (dv 1) (zj zS (dv 2) ze) (fun _ _=>rfl)) ze (zp _))))) (zg (zl vy)) zn)))
 (zg (zl vy))),?_⟩
 walk_at "rd"
 have ll:=zD r
 refine ⟨_,_,fun i ρ=>∃ v,ρ=[.some (zF A .falling n),.some (zt r),v]∧∀ p:Nat,p<i→r.getD (p+1) 0=n→r.getD p 0=0,rfl,by decide,by decide,by omega,by omega,⟨_,rfl,fun p hp=>absurd hp (Nat.not_lt_zero _)⟩,?_,?_⟩
 ·rintro i ρ' hi ⟨v,rfl,hp⟩
  rw [ll] at hi
  have e1:(1+(i:Int)).toNat=i+1:=by omega
  have e2:(1+(i:Int) - 1).toNat=i:=by omega
  refine ⟨_,rfl,_,rfl,_,_,_,rfl,rfl,uj (by omega) (by omega),_,rfl,_,_,_,rfl,rfl,T.R8,T.Qe,rfl,rfl,_,rfl,?_⟩
  rw [e1]
  refine ifB (fun h=>?_) (fun h=>ifF rfl ?_)
  ·refine ⟨_,rfl,_,rfl,_,_,rfl,rfl,_,_,_,rfl,rfl,uj (by omega) (by omega),rfl,rfl,_,rfl,?_⟩
   rw [e2]
   refine ifB (fun h'=>?_) (fun h'=>?_)
   ·refine q false ⟨fun z=>(Bool.false_ne_true z).elim,fun z=>?_⟩
    exact absurd (z i (by omega) (qS h)) (qR (UW h'))
   ·refine ⟨.some (.int (1+i)),rfl,fun p hp'=>?_⟩
    rcases (by omega:p<i∨p=i) with z | z
    ·exact hp p z
    ·subst z
     exact fun _=>qS (UX h')
  ·refine ⟨.some (.int (1+i)),rfl,fun p hp'=>?_⟩
   rcases (by omega:p<i∨p=i) with z | z
   ·exact hp p z
   ·subst z
    exact fun z=>absurd z (qR h)
 ·rintro ρ' ⟨v,rfl,hp⟩
  rw [ll] at hp
  exact q true ⟨fun _ p hp'=>hp p (by omega),fun _=>rfl⟩
abbrev uE:Stmt:=inClass (top 23) 1
theorem nA:zi ["self","place"] ["self","place"] (defScope uE):=by walk_at "sc"
theorem xq (T:Txt K mg A) (F:Fun K "low" "Way.low" uE f fd):FnOk P w K mg base CX0 1 f fd ["self","place"] (zq K (Us)):=by
 refine okD F nA (by walk_at "ln") fun _ _ _ _ _ _ hr ds Q h=>?_
 obtain ⟨o,p,rfl,q⟩:=h
 refine ⟨_,(zg (zl ze)),?_⟩
 exact q
abbrev xo:Stmt:=inClass (top 26) 1
theorem tD:zi ["self","place"] ["self","place"] (defScope xo):=by walk_at "sc"
theorem tK (T:Txt K mg A) (F:Fun K "low" "Balanced.low" xo f fd):FnOk P w K mg base CX0 1 f fd ["self","place"] (zq K (xU A .balanced (Kd.low .balanced))):=by
 refine okD F tD (by walk_at "ln") fun _ _ _ _ _ _ hr ds Q h=>?_
 obtain ⟨n,p,rfl,hn,q⟩:=h
 refine ⟨_,(zg (zl (zR (zL (dv 0))))),?_⟩
 exact ⟨_,rfl,_,_,_,rfl,rfl,T.Qk,T.PJ,_,rfl,q⟩
abbrev wa:Stmt:=inClass (top 24) 1
theorem rp:zi ["self","place"] ["self","place"] (defScope wa):=by walk_at "sc"
theorem rH (T:Txt K mg A) (F:Fun K "high" "Plain.high" wa f fd):FnOk P w K mg base CX0 1 f fd ["self","place"] (zq K (xU A .plain (Kd.high .plain))):=by
 refine okD F rp (by walk_at "ln") fun _ _ _ _ _ _ hr ds Q h=>?_
 obtain ⟨n,p,rfl,hn,q⟩:=h
 refine ⟨_,(zg (zl (zj zS (zL (dv 0)) ze))),?_⟩
 exact ⟨_,rfl,_,_,_,rfl,rfl,T.Qm,T.Oh,_,_,rfl,rfl,q⟩
abbrev wc:Stmt:=inClass (top 25) 1
theorem rC:zi ["self","place"] ["self","place"] (defScope wc):=by walk_at "sc"
theorem rM (T:Txt K mg A) (F:Fun K "high" "Below.high" wc f fd):FnOk P w K mg base CX0 1 f fd ["self","place"] (zq K (xU A .below (Kd.high .below))):=by
 refine okD F rC (by walk_at "ln") fun _ _ _ _ _ _ hr ds Q h=>?_
 obtain ⟨n,p,rfl,hn,q⟩:=h
 refine ⟨_,(zg (zl (zj zS (zL (dv 0)) ze))),?_⟩
 exact ⟨_,rfl,_,_,_,rfl,rfl,T.Qn,T.Oi,_,_,rfl,rfl,q⟩
abbrev y1:Stmt:=inClass (top 26) 2
theorem uu:zi ["self","place"] ["self","place"] (defScope y1):=by walk_at "sc"
theorem uL (T:Txt K mg A) (F:Fun K "high" "Balanced.high" y1 f fd):FnOk P w K mg base CX0 1 f fd ["self","place"] (zq K (xU A .balanced (Kd.high .balanced))):=by
 refine okD F uu (by walk_at "ln") fun _ _ _ _ _ _ hr ds Q h=>?_
 obtain ⟨n,p,rfl,hn,q⟩:=h
 refine ⟨_,(zg (zl (zL (dv 0)))),?_⟩
 exact ⟨_,rfl,_,_,_,rfl,rfl,T.Qk,T.PJ,q⟩
abbrev xm:Stmt:=inClass (top 27) 1
theorem tu:zi ["self","place"] ["self","place"] (defScope xm):=by walk_at "sc"
theorem tH (T:Txt K mg A) (F:Fun K "high" "Growing.high" xm f fd):FnOk P w K mg base CX0 1 f fd ["self","place"] (zq K (xU A .growing (Kd.high .growing))):=by
 refine okD F tu (by walk_at "ln") fun _ _ _ _ _ _ hr ds Q h=>?_
 obtain ⟨n,p,rfl,hn,q⟩:=h
 refine ⟨_,(zg (zl (zj zS (zj zU (zL (dv 0)) (dv 1)) ze))),?_⟩
 exact ⟨_,rfl,_,_,_,rfl,rfl,T.Qo,T.Oj,_,rfl,_,_,rfl,rfl,_,_,rfl,rfl,q⟩
abbrev xn:Stmt:=inClass (top 28) 1
theorem tx:zi ["self","place"] ["self","place"] (defScope xn):=by walk_at "sc"
theorem tJ (T:Txt K mg A) (F:Fun K "high" "Falling.high" xn f fd):FnOk P w K mg base CX0 1 f fd ["self","place"] (zq K (xU A .falling (Kd.high .falling))):=by
 refine okD F tx (by walk_at "ln") fun _ _ _ _ _ _ hr ds Q h=>?_
 obtain ⟨n,p,rfl,hn,q⟩:=h
 refine ⟨_,(zg (zl (zL (dv 0)))),?_⟩
 exact ⟨_,rfl,_,_,_,rfl,rfl,T.R8,T.Qe,q⟩
abbrev wb:Stmt:=inClass (top 29) 2
theorem rA:zi ["self","place"] ["self","place"] (defScope wb):=by walk_at "sc"
theorem rK (T:Txt K mg A) (F:Fun K "high" "Pairs.high" wb f fd):FnOk P w K mg base CX0 1 f fd ["self","place"] (zq K (xU A .pairs (Kd.high .pairs))):=by
 refine okD F rA (by walk_at "ln") fun _ _ _ _ _ _ hr ds Q h=>?_
 obtain ⟨n,p,rfl,hn,q⟩:=h
 refine ⟨_,(zg (zl (zj xA (zL (dv 0)) (zL (dv 0))))),?_⟩
 obtain ⟨h1,h2⟩:=wT hn
 exact ⟨_,rfl,_,_,_,rfl,rfl,T.Qf,T.Qp,_,rfl,_,_,_,rfl,rfl,T.Qf,T.Qp,_,_,rfl,rfl,small (by omega) (by omega) _,q⟩
abbrev yk:Stmt:=top 45
theorem sc_has_figures_alone:zi ["way","row","place","thing"] ["way","row"] (defScope yk):=by walk_at "sc"
theorem wS (T:Txt K mg A) (HLo:∀ k:Kd,MOk P w K mg base 1 (A.at k) "low" (xU A k (k.low))∧MOk P w K mg base 1 (A.at k) "high" (xU A k (k.high))) (F:Fun K "has_figures_alone" "has_figures_alone" yk f fd):FnOk P w K mg base CX0 2 f fd ["way","row"] (zq K (eL A)):=by
 refine okD F sc_has_figures_alone (by walk_at "ln") fun _ _ _ _ _ _ hr ds Q h=>?_
 obtain ⟨k,n,r,rfl,hn,hl,q⟩:=h
 refine ⟨_,(zf (uX (i:=2) (j:=3) rfl sc_has_figures_alone.nd rfl rfl (Or.inl rfl) (Or.inl rfl) PassesOwn.never rfl T.n_enumerate (za (dv 1) zd) (zg (zB (DW.dt (oQ (zr (sP) (dv 3) (xf hr (dv 0) (za (dv 2) zd)) (zp _)) (pd (zr (ou) (dv 3) (xf hr (dv 0) (za (dv 2) zd)) (zp _))))) (zg (zl vy)) zn)))
 (zg (zl vy))),?_⟩
 obtain ⟨M1,M2⟩:=HLo k
 walk_at "rd"
 refine ⟨_,_,fun i ρ=>∃ v u,ρ=[.some (zF A k n),.some (zt r),v,u]∧∀ p:Nat,p<i→k.low n p≤r.getD p 0∧r.getD p 0≤k.high n p,rfl,rfl,⟨_,_,rfl,fun p hp=>absurd hp (Nat.not_lt_zero _)⟩,?_,?_⟩
 ·rintro i x ρ' hx ⟨v,u,rfl,hp⟩
  obtain ⟨rfl,hi⟩:=g7 hx
  refine ⟨_,rfl,_,rfl,_,_,_,_,rfl,ZM k,M1.mono (by decide),_,rfl,n,i,rfl,hn,_,_,rfl,rfl,_,rfl,?_⟩
  refine ifB (fun h=>ifT rfl ?_) (fun h=>?_)
  ·refine q false ⟨fun z=>(Bool.false_ne_true z).elim,fun z=>?_⟩
   have:=z i hi
   have h:=of_decide_eq_true h
   omega
  ·refine ⟨_,rfl,_,rfl,_,_,_,_,rfl,fk k,M2.mono (by decide),_,rfl,n,i,rfl,hn,_,_,rfl,rfl,_,rfl,?_⟩
   have h:=of_decide_eq_false h
   refine ifB (fun h'=>?_) (fun h'=>?_)
   ·refine q false ⟨fun z=>(Bool.false_ne_true z).elim,fun z=>?_⟩
    have:=z i hi
    have h':=of_decide_eq_true h'
    omega
   ·have h':=of_decide_eq_false h'
    refine ⟨.some (.int i),.some (.int (r.getD i 0)),rfl,fun p hp'=>?_⟩
    rcases (by omega:p<i∨p=i) with z | z
    ·exact hp p z
    ·subst z
     omega
 ·rintro ρ' ⟨v,u,rfl,hp⟩
  rw [zD] at hp
  exact q true ⟨fun _=>hp,fun _=>rfl⟩
abbrev x9:Stmt:=top 47
theorem rk:zi ["way","row"] ["way","row"] (defScope x9):=by walk_at "sc"
theorem rF (T:Txt K mg A) (G_has_mosts_above_noughts_alone:DOk P w K mg base 1 "has_mosts_above_noughts_alone" (lG A)) (G_has_figures_alone:DOk P w K mg base 2 "has_figures_alone" (eL A)) (F:Fun K "is_writing" "is_writing" x9 f fd):FnOk P w K mg base CX0 3 f fd ["way","row"] (zq K (ZX A)):=by
 refine okD F rk (by walk_at "ln") fun _ _ _ _ _ _ hr ds Q h=>?_
 obtain ⟨k,n,r,rfl,hn,hl,q⟩:=h
 refine ⟨_,(z5 (zB (DW.dt (y4 (V1 (dv 1)) (yJ (zr (yL hr) (zC (dv 1) (zR ze) (fun _ _=>rfl)) ze (zp _))))) (zg (zl vy)) zn)
 (z5 (zB (DW.dt (y4 (z9 (xC T.isinstance T.Qq (dv 0))) (yJ (s_ (z9 (zk G_has_mosts_above_noughts_alone (hr.mono (by decide)) rfl (za (dv 0) (za (dv 1) zd)))))))) (zg (zl vy)) zn)
 (zg (zl (zk G_has_figures_alone (hr.mono (by decide)) rfl (za (dv 0) (za (dv 1) zd))))))),?_⟩
 refine ⟨fun ρ=>ρ=[.some (zF A k n),.some (zt r)]∧(r=[]∨r.getD (r.length - 1) 0≠0),?_,?_⟩
 ·walk_at "rd"
  rcases zP r with rfl | ⟨l,z,rfl⟩
  ·exact ifF rfl (ifF rfl ⟨rfl,.inl rfl⟩)
  ·have ez:(l++[z]).getD ((l++[z]).length - 1) 0=z:=by rw [List.length_append]; simp [List.getD_eq_getElem?_getD]
   refine ifT (by simp) ⟨_,rfl,_,rfl,_,_,_,rfl,rfl,uk,rfl,rfl,_,rfl,?_⟩
   by_cases hz:z=0
   ·refine ifT (eqI hz) ?_
    rw [tS (fun L=>by
     rcases L.end_ with h | h
     ·simp at h
     ·rw [ez] at h; exact h hz)] at q
    exact q
   ·refine ifF (neI hz) ⟨rfl,.inr (by rw [ez]; exact hz)⟩
 ·rintro ρ' ⟨rfl,hend⟩
  refine ⟨fun ρ=>ρ=[.some (zF A k n),.some (zt r)]∧(k.isF=true→∀ p,p+1<r.length→r.getD (p+1) 0=n→r.getD p 0=0),?_,?_⟩
  ·refine ⟨_,rfl,_,_,_,_,rfl,sT T k,kiF T k,_,rfl,?_⟩
   cases hk:k.isF with
   | false=>exact ifF rfl (ifF rfl ⟨rfl,fun z=>(Bool.false_ne_true z).elim⟩)
   | true=>
    have ek:k=.falling:=by cases k <;> first | rfl | cases hk
    subst ek
    refine ifT rfl ⟨_,rfl,_,rfl,n,r,rfl,hn,hl,fun b hb=>⟨_,rfl,?_⟩⟩
    cases b with
    | true=>exact ifF rfl ⟨rfl,fun _=>hb.mp rfl⟩
    | false=>
     refine ifT rfl ?_
     rw [tS (fun L=>Bool.false_ne_true (hb.mpr (L.fal rfl)))] at q
     exact q
  ·rintro ρ' ⟨rfl,hf⟩
   refine ⟨_,rfl,_,rfl,k,n,r,rfl,hn,hl,fun b hb=>?_⟩
   cases b with
   | true=>rw [qV ⟨hb.mp rfl,hf,hend⟩] at q; exact q
   | false=>rw [tS (fun L=>Bool.false_ne_true (hb.mpr L.fig))] at q; exact q
abbrev z7:Stmt:=top 48
theorem sc_held_to_be_writings:zi ["way","rows","row"] ["way","rows"] (defScope z7):=by walk_at "sc"
theorem wj (T:Txt K mg A) (G_is_writing:DOk P w K mg base 3 "is_writing" (ZX A)) (F:Fun K "held_to_be_writings" "held_to_be_writings" z7 f fd):FnOk P w K mg base (CX1 P w) 4 f fd ["way","rows"] (xD K (uq A)):=by
 refine dP F sc_held_to_be_writings (by walk_at "ln") fun _ _ _ _ _ _ hr ds Q R h rz=>?_
 obtain ⟨k,n,rs,rfl,hn,hrs,hw⟩:=h
 refine ⟨_,(zg (md (j:=2) rfl sc_held_to_be_writings.nd rfl (Or.inl rfl) Yz (dv 1) (zg (zB (s_ (z9 (zk G_is_writing (hr.mono (by decide)) rfl (za (dv 0) (za (dv 2) zd))))) (zg (uf rfl rfl T.Nq T.QS zQ)) zn)))),?_⟩
 rcases hw with ⟨hL,q⟩ | ⟨⟨r0,hr0,hnL⟩,hR⟩
 ·refine ⟨_,rfl,_,fun i ρ=>∃ v,ρ=[.some (zF A k n),.some (.lst (rs.map zt)),v],rfl,⟨_,rfl⟩,?_,?_⟩
  ·rintro i e ρ' he ⟨v,rfl⟩
   obtain ⟨r,hm,rfl⟩:=List.mem_map.mp (List.mem_of_getElem? he)
   refine ⟨_,rfl,_,rfl,k,n,r,rfl,hn,hrs r hm,_,rfl,?_⟩
   rw [qV (hL r hm)]
   exact ifF rfl ⟨_,rfl⟩
  ·rintro ρ' ⟨v,rfl⟩
   exact q
 ·refine ⟨_,rfl,_,fun i ρ=>∃ v,ρ=[.some (zF A k n),.some (.lst (rs.map zt)),v]∧∀ (j:Nat) (r:List Int),j<i→rs[j]? = some r→Legal k n r,rfl,⟨_,rfl,fun j _ z=>absurd z (Nat.not_lt_zero _)⟩,?_,?_⟩
  ·rintro i e ρ' he ⟨v,rfl,hb⟩
   rw [List.getElem?_map] at he
   obtain ⟨r,hm,rfl⟩:=Option.map_eq_some_iff.mp he
   refine ⟨_,rfl,_,rfl,k,n,r,rfl,hn,hrs r (List.mem_of_getElem? hm),_,rfl,?_⟩
   by_cases hLr:Legal k n r
   ·rw [qV hLr]
    refine ifF rfl ⟨_,rfl,fun j r' hj hr'=>?_⟩
    rcases (by omega:j<i∨j=i) with z | z
    ·exact hb j r' z hr'
    ·subst z
     rw [hm] at hr'
     cases hr'
     exact hLr
   ·rw [tS hLr]
    exact ifT rfl (rz _ hR)
  ·rintro ρ' ⟨v,rfl,hb⟩
   obtain ⟨j,hj⟩:=List.mem_iff_getElem?.mp hr0
   rw [List.length_map] at hb
   have hlt:j<rs.length:=by
    rcases Nat.lt_or_ge j rs.length with z | z
    ·exact z
    ·rw [List.getElem?_eq_none z] at hj; cases hj
   exact absurd (hb j r0 hlt hj) hnL
abbrev yj:Stmt:=top 34
theorem sc_held_to_be_a_heap:zi ["way","heap","things"] ["way","heap"] (defScope yj):=by walk_at "sc"
theorem wR (T:Txt K mg A) (F:Fun K "held_to_be_a_heap" "held_to_be_a_heap" yj f fd):FnOk P w K mg base (CX1 P w) 1 f fd ["way","heap"] (xD K (lI A)):=by
 refine dP F sc_held_to_be_a_heap (by walk_at "ln") fun _ _ _ _ _ _ hr ds Q R h rz=>?_
 obtain ⟨k,n,h,rfl,hn,hw⟩:=h
 refine ⟨_,(zf (zB (s_ (z9 (xC T.isinstance T.Qq (dv 0)))) (zg w4) zn)
 (zg (md (j:=2) rfl sc_held_to_be_a_heap.nd rfl (Or.inl rfl) Yz (dv 1) (zg (zB (zr (sP) (dv 2) ze (zp _)) (zg (uf rfl rfl T.Nr T.QR zQ)) zn))))),?_⟩
 rcases hw with z | hw
 ·exact z.elim
 have hk:k=.falling:=by rcases hw with z | z <;> exact z.1
 subst hk
 refine ⟨_,rfl,_,_,_,_,rfl,T.Np,T.Qx,_,rfl,ifF rfl ?_⟩
 rcases hw with ⟨_,⟨z,hz,hz0⟩,hR⟩ | ⟨_,hnn,q⟩
 ·refine ⟨_,rfl,_,fun i ρ=>∃ v,ρ=[.some (zF A .falling n),.some (zt h),v]∧∀ (j:Nat) (y:Int),j<i→h[j]? = some y→0≤y,rfl,⟨_,rfl,fun j _ z=>absurd z (Nat.not_lt_zero _)⟩,?_,?_⟩
  ·rintro i e ρ' he ⟨v,rfl,hb⟩
   rw [List.getElem?_map] at he
   obtain ⟨y,hy,rfl⟩:=Option.map_eq_some_iff.mp he
   refine ⟨_,rfl,_,_,rfl,rfl,_,rfl,ifB (fun _=>rz _ hR) (fun h1=>⟨_,rfl,fun j y' hj hy'=>?_⟩)⟩
   have h1:=of_decide_eq_false h1
   rcases (by omega:j<i∨j=i) with w | w
   ·exact hb j y' w hy'
   ·subst w
    rw [hy] at hy'
    cases hy'
    omega
  ·rintro ρ' ⟨v,rfl,hb⟩
   obtain ⟨j,hj⟩:=List.mem_iff_getElem?.mp hz
   rw [List.length_map] at hb
   have hlt:j<h.length:=by
    rcases Nat.lt_or_ge j h.length with w | w
    ·exact w
    ·rw [List.getElem?_eq_none w] at hj; cases hj
   have:=hb j z hlt hj
   omega
 ·refine ⟨_,rfl,_,fun i ρ=>∃ v,ρ=[.some (zF A .falling n),.some (zt h),v],rfl,⟨_,rfl⟩,?_,?_⟩
  ·rintro i e ρ' he ⟨v,rfl⟩
   obtain ⟨y,hy,rfl⟩:=List.mem_map.mp (List.mem_of_getElem? he)
   have:=hnn y hy
   exact ⟨_,rfl,_,_,rfl,rfl,_,rfl,ifF (decide_eq_false (by omega)) ⟨_,rfl⟩⟩
  ·rintro ρ' ⟨v,rfl⟩
   exact q
abbrev uw:Stmt:=top 37
theorem nq:zi ["way","heap","place"] ["way","heap","place"] (defScope uw):=by walk_at "sc"
theorem nH (T:Txt K mg A) (F:Fun K "step_at" "step_at" uw f fd):FnOk P w K mg base CX0 1 f fd ["way","heap","place"] (zq K (o3 A)):=by
 refine okD F nq (by walk_at "ln") fun _ _ _ _ _ _ hr ds Q h=>?_
 obtain ⟨n,l,p,rfl,hn,hp,q⟩:=h
 refine ⟨_,(z5 (zB (DW.dt (y4 (zr (ou) (dv 2) ze (zp _)) (y4 (zr (dR) (zC (dv 1) (dv 2) (fun _ _=>rfl)) (zL (dv 0)) (zp _)) (yJ (zr (ou) (zC (dv 1) (zj zS (dv 2) ze) (fun _ _=>rfl)) ze (zp _)))))) (zg (zl (zy (za zQ (za (dv 2) zd))))) zn)
 (zf (zB (zr (ou) (zC (dv 1) (dv 2) (fun _ _=>rfl)) (zL (dv 0)) (zp _)) (zg (zl (zy (za zQ (za (dv 2) zd))))) zn)
 (zg (zl fH)))),?_⟩
 have a1:atI (l.map Dt.int) (p:Int)=some (.int (hf l p)):=wx (sX hp)
 refine ⟨fun ρ=>ρ=[.some (zF A .falling n),.some (zt l),.some (.int p)]∧¬ (0<p∧n≤hf l p∧0<hf l (p - 1)),?_,?_⟩
 ·refine ⟨_,rfl,_,_,rfl,rfl,_,rfl,ifB (fun h1=>?_) (fun h1=>ifF rfl ⟨rfl,fun z=>?_⟩)⟩
  ·have h1:=of_decide_eq_true h1
   refine ⟨_,rfl,_,rfl,_,_,_,rfl,rfl,a1,_,rfl,_,_,_,rfl,rfl,T.R8,T.Qe,_,_,rfl,rfl,_,rfl,ifB (fun h2=>?_) (fun h2=>ifF rfl ⟨rfl,fun z=>?_⟩)⟩
   ·have h2:=of_decide_eq_true h2
    have e1:((p:Int) - 1)=((p - 1:Nat):Int):=by omega
    refine ⟨_,rfl,_,rfl,_,_,rfl,rfl,_,_,_,rfl,rfl,(by rw [e1]; exact wx (sX (by omega))),_,_,rfl,rfl,_,rfl,ifB (fun h3=>?_) (fun h3=>⟨rfl,fun z=>?_⟩)⟩
    ·have h3:=of_decide_eq_true h3
     walk_at "rd"
     refine dr q ?_
     unfold yt
     rw [if_pos ⟨by omega,h2,h3⟩]
     rfl
    ·exact absurd z.2.2 (of_decide_eq_false h3)
   ·exact absurd z.2.1 (of_decide_eq_false h2)
  ·have:=of_decide_eq_false h1
   omega
 ·rintro ρ ⟨rfl,hno⟩
  refine ⟨_,rfl,_,rfl,_,_,_,rfl,rfl,a1,_,rfl,_,_,_,rfl,rfl,T.R8,T.Qe,_,_,rfl,rfl,_,rfl,ifB (fun h2=>?_) (fun h2=>?_)⟩
  ·walk_at "rd"
   refine dr q ?_
   unfold yt
   rw [if_neg hno,if_pos (of_decide_eq_true h2)]
   rfl
  ·refine dr q ?_
   unfold yt
   rw [if_neg hno,if_neg (of_decide_eq_false h2)]
   rfl
abbrev wJ:Stmt:=top 38
theorem sc_how_often:zi ["way","heap","step","place"] ["way","heap","step"] (defScope wJ):=by walk_at "sc"
theorem qN (T:Txt K mg A) (F:Fun K "how_often" "how_often" wJ f fd):FnOk P w K mg base CX0 1 f fd ["way","heap","step"] (zq K (lF A)):=by
 refine okD F sc_how_often (by walk_at "ln") fun _ _ _ _ _ _ hr ds Q h=>?_
 obtain ⟨n,l,s,rfl,hn,hp,hc,q⟩:=h
 refine ⟨_,(zf (zo (i:=3) sc_how_often.nd rfl (Or.inl rfl) (zC (dv 2) ze (fun _ _=>rfl)))
 (zf (zB (zr (ZC) (zC (dv 2) ze (fun _ _=>rfl)) zQ (zp _)) (zg (zl (fI rfl rfl T.n_min (za (zj yI (zC (dv 1) (dv 3) (fun _ _=>rfl)) (zL (dv 0))) (za (zC (dv 1) (zj zS (dv 3) ze) (fun _ _=>rfl)) zd))))) zn)
 (zg (zl (zj yI (zC (dv 1) (dv 3) (fun _ _=>rfl)) (zj zU (zL (dv 0)) ze)))))),?_⟩
 obtain ⟨b1,b2⟩:=wT hn
 have a1:atI (l.map Dt.int) (s.2:Int)=some (.int (hf l s.2)):=wx (sX hp)
 match s,hp,hc,q,a1 with
 | (true,p),hp,⟨c1,c2,c3⟩,q,a1=>
  have e1:((p:Int) - 1)=((p - 1:Nat):Int):=by omega
  have hp:p<l.length:=hp
  refine ⟨_,rfl,_,1,_,rfl,rfl,rfl,_,rfl,_,0,_,rfl,rfl,rfl,_,_,rfl,rfl,_,rfl,ifT rfl ?_⟩
  refine ⟨_,rfl,_,rfl,_,_,_,rfl,rfl,a1,_,rfl,_,_,_,rfl,rfl,T.R8,T.Qe,_,_,rfl,rfl,lz (by rw [Bool.and_eq_true,bne_iff_ne,decide_eq_true_iff]; omega),?_⟩
  refine ⟨_,rfl,_,rfl,_,_,rfl,rfl,_,_,_,rfl,rfl,(by rw [e1]; exact wx (sX (by omega))),_,_,rfl,?_⟩
  have d1:=oN (show (0:Int)<n by omega) c2
  have d2:=m9 (a:=hf l p) (show (0:Int)<n by omega)
  show Q (.int (if hf l (p - 1)<(hf l p).fdiv n then hf l (p - 1) else (hf l p).fdiv n))
  split
  ·rename_i hlt
   have:=Int.mul_le_mul_of_nonneg_right (show hf l (p - 1)≤(hf l p).fdiv n by omega) (show 0≤n by omega)
   exact q _ c3 ⟨c1,by omega,Int.le_refl _⟩
  ·exact q _ d1 ⟨c1,d2,by omega⟩
 | (false,p),hp,hc,q,a1=>
  have hc:n<hf l p:=hc
  refine ⟨_,rfl,_,1,_,rfl,rfl,rfl,_,rfl,_,0,_,rfl,rfl,rfl,_,_,rfl,rfl,_,rfl,ifF rfl ?_⟩
  refine ⟨_,rfl,_,rfl,_,_,_,rfl,rfl,a1,_,rfl,_,_,_,rfl,rfl,T.R8,T.Qe,_,_,rfl,rfl,_,_,rfl,rfl,lz (by rw [Bool.and_eq_true,bne_iff_ne,decide_eq_true_iff]; omega),?_⟩
  exact q _ (oN (show (0:Int)<n+1 by omega) (show n+1≤hf l p by omega)) (m9 (show (0:Int)<n+1 by omega))
abbrev uB:Stmt:=top 35
theorem sc_changes:zi ["way","step","kind","place","parted"] ["way","step"] (defScope uB):=by walk_at "sc"
theorem nM (T:Txt K mg A) (F:Fun K "changes" "changes" uB f fd):FnOk P w K mg base CX0 1 f fd ["way","step"] (zq K (ZY A)):=by
 refine okD F sc_changes (by walk_at "ln") fun _ _ _ _ _ _ hr ds Q h=>?_
 obtain ⟨n,s,rfl,hn,hs,q⟩:=h
 refine ⟨_,(zf (zo (i:=2) sc_changes.nd rfl (Or.inl rfl) (zC (dv 1) ze (fun _ _=>rfl)))
 (zf (zo (i:=3) sc_changes.nd rfl (Or.inl rfl) (zC (dv 1) ze (fun _ _=>rfl)))
 (zf (zB (zr (ZC) (dv 2) zQ (zp _)) (zg (zl (zE (za (zy (za (zj zU (dv 3) ze) (za ze zd))) (za (zy (za (dv 3) (za (zR (zL (dv 0))) zd))) (za (zy (za (zj zS (dv 3) ze) (za (zR ze) zd))) zd)))))) zn)
 (zf (yb (i:=4) sc_changes.nd rfl (Or.inl rfl) (wu (za (zy (za (zj zU (dv 3) ze) (za ze zd))) (za (zy (za (dv 3) (za (zj zS (zR (zL (dv 0))) ze) zd))) zd))))
 (z5 (zB (zr (yL hr) (dv 3) ze (zp _)) (zg (wq 4 (zy (za ze (za (zL (dv 0)) zd))))) zn)
 (z5 (zB (zr (ou) (dv 3) ze (zp _)) (zf (wq 4 (zy (za (zj zS (dv 3) ze) (za (zj zS (zL (dv 0)) ze) zd))))
 (zg (wq 4 (zy (za (zj zS (dv 3) ze) (za ze zd)))))) zn)
 (zg (ue 4)))))))),?_⟩
 match s,hs,q with
 | (true,0),hs,_=>exact absurd (hs rfl) (Nat.lt_irrefl _)
 | (true,p+1),_,q=>
  repeat (first | (walk_at "rd1") | refine ⟨_,_,_,rfl,rfl,T.R8,T.Qe,?_⟩)
  refine dr q ?_
  show Dt.lst [.tup [.int (((p+1:Nat):Int)+1),.int 1],.tup [.int ((p+1:Nat):Int),.int (-n)],.tup [.int (((p+1:Nat):Int) - 1),.int (-1)]]=_
  rw [show ((p+1:Nat):Int) - 1=(p:Int) by omega]
  rfl
 | (false,0),_,q=>
  repeat (first | (walk_at "rd1") | refine ⟨_,_,_,rfl,rfl,T.R8,T.Qe,?_⟩)
  refine ⟨fun ρ=>ρ=[.some (zF A .falling n),.some (yW (false,0)),.some (.str (ng false)),.some (.int 0),.own [chD (1,1),chD (0,-n - 1)]],?_,?_⟩
  ·exact ⟨_,rfl,rfl,rfl,_,rfl,ifF (neI (by decide)) rfl⟩
  rintro ρ rfl
  refine ⟨fun ρ=>ρ=[.some (zF A .falling n),.some (yW (false,0)),.some (.str (ng false)),.some (.int 0),.own [chD (1,1),chD (0,-n - 1)]],?_,?_⟩
  ·exact ⟨_,rfl,_,_,rfl,rfl,_,rfl,ifF (by decide) rfl⟩
  rintro ρ rfl
  exact ⟨_,rfl,q⟩
 | (false,1),_,q=>
  repeat (first | (walk_at "rd1") | refine ⟨_,_,_,rfl,rfl,T.R8,T.Qe,?_⟩)
  refine ⟨fun ρ=>ρ=[.some (zF A .falling n),.some (yW (false,1)),.some (.str (ng false)),.some (.int 1),.own [chD (2,1),chD (1,-n - 1),chD (0,n)]],?_,?_⟩
  ·exact ⟨_,rfl,rfl,rfl,_,rfl,ifT (eqI rfl) ⟨_,rfl,_,rfl,_,_,_,rfl,rfl,T.R8,T.Qe,rfl,(by show (2:Nat)≤100000; decide),rfl⟩⟩
  rintro ρ rfl
  refine ⟨fun ρ=>ρ=[.some (zF A .falling n),.some (yW (false,1)),.some (.str (ng false)),.some (.int 1),.own [chD (2,1),chD (1,-n - 1),chD (0,n)]],?_,?_⟩
  ·exact ⟨_,rfl,_,_,rfl,rfl,_,rfl,ifF (by decide) rfl⟩
  rintro ρ rfl
  exact ⟨_,rfl,q⟩
 | (false,p+2),_,q=>
  repeat (first | (walk_at "rd1") | refine ⟨_,_,_,rfl,rfl,T.R8,T.Qe,?_⟩)
  refine ⟨fun ρ=>ρ=[.some (zF A .falling n),.some (yW (false,p+2)),.some (.str (ng false)),.some (.int ((p+2:Nat):Int)),.own [chD (p+3,1),chD (p+2,-n - 1)]],?_,?_⟩
  ·exact ⟨_,rfl,rfl,rfl,_,rfl,ifF (neI (by show ((p+2:Nat):Int)≠1; omega)) rfl⟩
  rintro ρ rfl
  refine ⟨fun ρ=>ρ=[.some (zF A .falling n),.some (yW (false,p+2)),.some (.str (ng false)),.some (.int ((p+2:Nat):Int)),.own [chD (p+3,1),chD (p+2,-n - 1),chD (p+1,n - 1),chD (p,1)]],?_,?_⟩
  ·refine ⟨_,rfl,_,_,rfl,rfl,_,rfl,ifT (decide_eq_true (by omega)) ?_⟩
   refine ⟨_,rfl,_,rfl,_,_,rfl,rfl,_,rfl,_,_,_,rfl,rfl,T.R8,T.Qe,_,_,rfl,rfl,rfl,(by show (2:Nat)≤100000; decide),?_⟩
   refine ⟨_,rfl,_,rfl,_,_,rfl,rfl,rfl,(by show (3:Nat)≤100000; decide),?_⟩
   show [_,_,_,_,Sl.own [_,_,Dt.tup [.int (((p+2:Nat):Int) - 1),.int (n - 1)],Dt.tup [.int (((p+2:Nat):Int) - 2),.int 1]]]=_
   rw [show ((p+2:Nat):Int) - 1=((p+1:Nat):Int) by omega,show ((p+2:Nat):Int) - 2=(p:Int) by omega]
   rfl
  rintro ρ rfl
  exact ⟨_,rfl,q⟩
abbrev vG:Stmt:=top 36
theorem sc_do_steps:zi ["way","heap","step","many","place","things"] ["way","heap","step","many"] (defScope vG):=by walk_at "sc"
theorem oq (T:Txt K mg A) (G_changes:DOk P w K mg base 1 "changes" (ZY A)) (F:Fun K "do_steps" "do_steps" vG f fd):FnOk P w K mg base CX0 2 f fd ["way","heap","step","many"] (o5 K (SV A)):=by
 refine okA F sc_do_steps (by walk_at "ln") fun _ _ _ _ _ _ hr d0 es0 ds Q a h=>?_
 obtain ⟨n,l,s,m,rfl,rfl,rfl,hn,hs,hp,q⟩:=h
 refine ⟨_,(zf (xS PassesOwn.never (zr (sP) (Zc 1 rfl T.len) (zj zU (zC (dv 2) ze (fun _ _=>rfl)) ze) (zp _)) (zg (aZ 1 ze)))
 (zg (lh (i:=4) (j:=5) rfl sc_do_steps.nd rfl rfl (Or.inl rfl) (Or.inl rfl) PassesOwn.never (zk G_changes (hr.mono (by decide)) rfl (za (dv 0) (za (dv 2) zd))) (zg (aY 1 gW (dv 4) (zj xA (dv 3) (dv 5))))))),?_⟩
 obtain ⟨b1,b2⟩:=wT hn
 refine ⟨fun m' ρ=>∃ k,ρ=[.some (zF A .falling n),.arg a ((l++List.replicate k 0).map Dt.int),.some (yW s),.some (.int m),.none,.none]∧m'=(s.2+2) - (l.length+k)∧(k=0∨l.length+k≤s.2+2)∧k≤s.2+2,⟨_,0,by rw [List.replicate_zero,List.append_nil]; rfl,rfl,.inl rfl,Nat.zero_le _⟩,?_⟩
 rintro m' ρ' ⟨k,rfl,rfl,hk,hk2⟩
 have hlen:((l++List.replicate k 0).map Dt.int).length=l.length+k:=by rw [zD,List.length_append,List.length_replicate]
 refine ⟨a,_,rfl,_,rfl,_,1,_,rfl,rfl,rfl,_,_,rfl,rfl,_,_,rfl,rfl,_,rfl,?_⟩
 rw [hlen]
 refine ifB (fun h=>?_) (fun h=>?_)
 ·have h:=of_decide_eq_true h
  have h':l.length+k<s.2+2:=by omega
  refine ⟨a,_,rfl,by rw [hlen]; omega,_,?_,k+1,?_,rfl,.inr (by omega),by omega⟩
  ·omega
  ·show [_,_,_,_,_,_]=_
   rw [List.replicate_succ',← List.append_assoc,← ul]
 ·have h:=of_decide_eq_false h
  have h':s.2+2≤l.length+k:=by omega
  obtain ⟨l2,hl2⟩:∃ l2,l2=l++List.replicate k 0:=⟨_,rfl⟩
  have el:l2.length=max l.length (s.2+2):=by rw [hl2,List.length_append,List.length_replicate]; omega
  have ef:∀ i,hf l2 i=hf l i:=fun i=>by rw [hl2]; exact VX l k i
  rw [← hl2]
  refine ⟨_,rfl,_,rfl,n,s,rfl,hn,hs,_,fun i ρ=>∃ g v4 v5,ρ=[.some (zF A .falling n),.arg a (g.map Dt.int),.some (yW s),.some (.int m),v4,v5]∧g.length=l2.length∧∀ j,hf g j=hf l j+m*w6 ((chg n s).take i) j,rfl,⟨l2,_,_,rfl,rfl,fun j=>by rw [ef]; show _=hf l j+m*0; omega⟩,?_,?_⟩
  ·rintro i e ρ' he ⟨g,v4,v5,rfl,hg,hj⟩
   rw [List.getElem?_map] at he
   obtain ⟨x,hx,rfl⟩:=Option.map_eq_some_iff.mp he
   have hm:=List.mem_of_getElem? hx
   have hlt:=mr (m:=g.length) (by omega) x hm
   obtain ⟨c1,c2⟩:=Ul b1 b2 x hm
   refine ⟨_,_,rfl,a,_,rfl,_,rfl,(x.1:Int),hf g x.1,rfl,by omega,?_,_,rfl,_,rfl,_,_,rfl,rfl,small (by omega) (by omega) _,_,rfl,?_⟩
   ·rw [Int.toNat_natCast]; exact sX hlt
   ·rw [Int.toNat_natCast]
    refine ⟨g.set x.1 (hf g x.1+m*x.2),.some (.int x.1),.some (.int x.2),?_,by rw [List.length_set]; exact hg,fun j=>?_⟩
    ·show [_,_,_,_,_,_]=_
     rw [← pT]
    ·rw [VW hlt,hj j,kN hx,Int.mul_add]
     have:pt x.1 (m*x.2) j=m*pt x.1 x.2 j:=by
      unfold pt
      split
      ·rfl
      ·rw [Int.mul_zero]
     omega
  ·rintro ρ' ⟨g,v4,v5,rfl,hg,hj⟩
   rw [List.length_map,List.take_length] at hj
   exact ⟨_,rfl,q g (by omega) hj⟩
abbrev uv:Stmt:=top 32
theorem sc_trimmed:zi ["row","things"] ["row"] (defScope uv):=by walk_at "sc"
theorem nG (T:Txt K mg A) (F:Fun K "trimmed" "trimmed" uv f fd):FnOk P w K mg base CX0 1 f fd ["row"] (yU K (mw)):=by
 refine okF F sc_trimmed (by walk_at "ln") fun _ _ _ _ _ _ hr ds Q h=>?_
 obtain ⟨r,rfl,q⟩:=h
 refine ⟨_,(zf (yb (i:=1) sc_trimmed.nd rfl (Or.inl rfl) (xc rfl T.n_list (dv 0)))
 (zf (xS PassesOwn.never (DW.dt (y4 (aX 1) (yJ (zr (yL hr) (pf 1 (zR ze) (fun _ _=>rfl)) ze (zp _))))) (zg (fu 1)))
 (zg (ue 1)))),?_⟩
 refine ⟨_,rfl,_,rfl,_,rfl,?_⟩
 exact pJ rfl ⟨_,rfl,q⟩
abbrev yi:Stmt:=top 39
theorem sc_steps_and_writing:zi ["way","heap","done","left","place","step","many"] ["way","heap"] (defScope yi):=by walk_at "sc"
theorem wQ (T:Txt K mg A) (G_held_to_be_a_heap:DOkX P w K mg base 1 "held_to_be_a_heap" (lI A)) (G_step_at:DOk P w K mg base 1 "step_at" (o3 A)) (G_how_often:DOk P w K mg base 1 "how_often" (lF A)) (G_do_steps:AOk P w K mg base 2 "do_steps" (SV A)) (G_trimmed:FOk P w K mg base 1 "trimmed" (mw)) (F:Fun K "steps_and_writing" "steps_and_writing" yi f fd):FnOk P w K mg base (CX1 P w) 3 f fd ["way","heap"] (pC K (.t true true) (ZV A)):=by
 refine Rm F sc_steps_and_writing (by walk_at "ln") fun _ _ _ _ _ _ hr ds Q R h rz=>?_
 obtain ⟨k,n,h,rfl,hn,hl,hw⟩:=h
 refine ⟨_,(zf (uh (xT G_held_to_be_a_heap (hr.mono (by decide)) rfl (za (dv 0) (za (dv 1) zd))))
 (zf (yb (i:=2) sc_steps_and_writing.nd rfl (Or.inl rfl) (wu zd))
 (zf (yb (i:=3) sc_steps_and_writing.nd rfl (Or.inl rfl) (xc rfl T.n_list (dv 1)))
 (zf (zo (i:=4) sc_steps_and_writing.nd rfl (Or.inl rfl) (zj zS (wv 3 rfl T.len) ze))
 (zf (xS Yz (zr (dR) (dv 4) ze (zp _)) (zf (zo (i:=5) sc_steps_and_writing.nd rfl (Or.inl rfl) (lw (zk G_step_at (hr.mono (by decide)) rfl (za (dv 0) (za (dv 3) (za (dv 4) zd))))))
 (zg (zB (fm (dv 5)) (zg (lj (i:=4) VU sc_steps_and_writing.nd rfl (Or.inl rfl) ze)) (zf (zo (i:=6) sc_steps_and_writing.nd rfl (Or.inl rfl) (lw (zk G_how_often (hr.mono (by decide)) rfl (za (dv 0) (za (dv 3) (za (dv 5) zd))))))
 (zf (V3 2 (DF.de (V5 (zE (za (dv 5) zd)) (dv 6))))
 (zf (fw 3 G_do_steps (hr.mono (by decide)) rfl (dv 0) (za (dv 5) (za (dv 6) zd)))
 (zg (zo (i:=4) sc_steps_and_writing.nd rfl (Or.inl rfl) (fI rfl rfl T.n_min (za (zj zU (dv 4) ze) (za (zj zS (wv 3 rfl T.len) ze) zd))))))))))))
 (xB 3 (zg (ft 2 (yg G_trimmed (hr.mono (by decide)) rfl (za (dv 3) zd)))))))))),?_⟩
 refine ⟨_,rfl,_,rfl,k,n,h,rfl,hn,?_⟩
 rcases hw with hw | ⟨h1,h2,h3⟩ | ⟨rfl,hnn,hpot,q⟩
 ·exact .inl (gK rz hw)
 ·exact .inr (.inl ⟨h1,h2,rz _ h3⟩)
 refine .inr (.inr ⟨rfl,hnn,?_⟩)
 obtain ⟨b1,b2⟩:=wT hn
 have h0:=T_ hnn
 refine ⟨rfl,_,rfl,_,rfl,_,rfl,_,rfl,_,rfl,_,_,rfl,rfl,?_⟩
 refine ⟨fun m ρ=>∃ (ss:List Stp) (l:List Int) (p:Int) (v5 v6:Sl),ρ=[.some (zF A .falling n),.some (zt h),.own (ss.map yW),.own (l.map Dt.int),.some (.int p),v5,v6]∧-1≤p∧p<l.length∧(∀ i,0≤hf l i)∧l.length≤h.length+60∧My.hw n l=My.hw n h∧Walk n (hf h) ss (hf l)∧(ss.length:Int)+pot n l≤pot n h∧(∀ q:Nat,p<q→q<l.length→yt n (hf l) q=none)∧m=(3*pot n l+p+1).toNat,?_,?_⟩
 ·refine ⟨_,[],h,_,_,_,rfl,by omega,?_,h0,by omega,rfl,rfl,?_,fun q h1 h2=>?_,rfl⟩
  ·rw [zD]; omega
  ·show (0:Int)+_≤_; omega
  ·rw [zD] at h1; omega
 rintro m ρ' ⟨ss,l,p,v5,v6,rfl,p0,p1,l0,hlen,hwe,hwk,hss,hno,rfl⟩
 have pn:=pR (w:=cst n) (fun i=>by have:=(vn n i).1; omega) l0 l.length
 have pn:0≤pot n l:=pn
 refine ⟨_,rfl,_,_,rfl,rfl,_,rfl,ifB (fun hp=>?_) (fun hp=>?_)⟩
 ·have hp:=of_decide_eq_true hp
  obtain ⟨pp,rfl⟩:∃ pp:Nat,p=pp:=⟨p.toNat,by omega⟩
  have hpl:pp<l.length:=by omega
  refine ⟨_,rfl,_,rfl,_,rfl,n,l,pp,rfl,hn,hpl,?_⟩
  cases hs:yt n (hf l) pp with
  | none=>
   refine ⟨rfl,_,rfl,_,rfl,ifT rfl ?_⟩
   refine ⟨_,rfl,_,_,rfl,rfl,_,?_,ss,l,(pp:Int) - 1,_,_,rfl,by omega,by omega,l0,hlen,hwe,hwk,hss,fun q h1 h2=>?_,rfl⟩
   ·omega
   ·by_cases e:q=pp
    ·subst e; exact hs
    ·exact hno q (by omega) h2
  | some s=>
   obtain ⟨e2,hcan⟩:=pP hs
   have hsp:s.2<l.length:=by omega
   refine ⟨rfl,_,rfl,_,rfl,ifF rfl ?_⟩
   refine ⟨_,rfl,_,rfl,_,rfl,n,l,s,rfl,hn,hsp,hcan,fun m hm hof=>⟨rfl,?_⟩⟩
   have hmc:=hof.le_pot b1 l0 (by omega) hsp
   refine ⟨_,rfl,_,rfl,rfl,_,rfl,_,_,rfl,rfl,by omega,by omega,by show 1*_≤_; omega,_,rfl,?_,?_⟩
   ·rw [rR,List.length_map,List.length_map,List.length_replicate]; omega
   have pb:pp<h.length+48:=by
    refine jA b1 h0 l0 hpot hwe ?_
    rw [← e2]
    exact hcan.pos b1
   refine ⟨_,rfl,_,rfl,_,rfl,_,rfl,n,l,s,m,rfl,rfl,rfl,hn,hof.up,by omega,fun l' hl' he'=>?_⟩
   obtain ⟨k1,k2,k3,k4⟩:=kG b1 hm l0 hof hl' he'
   have pn':=pR (w:=cst n) (fun i=>by have:=(vn n i).1; omega) k1 l'.length
   have pn':0≤pot n l':=pn'
   refine ⟨_,rfl,_,_,rfl,rfl,_,rfl,_,_,rfl,rfl,_,_,rfl,?_⟩
   dsimp only
   rw [zD,rR,← List.map_append]
   obtain ⟨p',hp'⟩:∃ p':Int,p'=if (l'.length:Int) - 1<(pp:Int)+2 then (l'.length:Int) - 1 else (pp:Int)+2:=⟨_,rfl⟩
   rw [← hp']
   have hp2:p'≤pp+2∧-1≤p'∧p'<l'.length∧(p'=(l'.length:Int) - 1∨p'=pp+2):=by
    rw [hp']
    split <;> omega
   refine ⟨(3*pot n l'+p'+1).toNat,by omega,ss++List.replicate m.toNat s,l',p',_,_,rfl,by omega,by omega,k1,by omega,k2.trans hwe,k4.append hwk,?_,fun q h1 h2=>?_,rfl⟩
   ·rw [List.length_append,List.length_replicate]; omega
   ·rcases hp2.2.2.2 with z | z
    ·omega
    ·have f1:hf l' q=hf l q:=by rw [he',ln (by omega),Int.mul_zero,Int.add_zero]
     have f2:hf l' (q - 1)=hf l (q - 1):=by rw [he',ln (by omega),Int.mul_zero,Int.add_zero]
     have e:yt n (hf l') q=yt n (hf l) q:=by unfold yt; rw [f1,f2]
     rw [e]
     by_cases hq:q<l.length
     ·exact hno q (by omega) hq
     ·unfold yt
      rw [y3 (by omega),if_neg (by omega),if_neg (by omega)]
 ·have hp:=of_decide_eq_false hp
  have hlg:Lg .falling n l:=aJ l0 (fun q hq=>hno q (by omega) hq)
  refine ⟨_,rfl,_,rfl,_,rfl,l,rfl,?_⟩
  have:=vR l
  refine q ss (trim l) ⟨hlg.trim,(aM n l).trans hwe,?_,by omega,by omega⟩
  rw [show hf (trim l)=hf l from funext (m7 l)]
  exact hwk
abbrev sB:Stmt:=top 40
theorem lX:zi ["way","heap"] ["way","heap"] (defScope sB):=by walk_at "sc"
theorem l_ (T:Txt K mg A) (G_steps_and_writing:TOkX P w K mg base 3 "steps_and_writing" (.t true true) (ZV A)) (F:Fun K "fallen" "fallen" sB f fd):FnOk P w K mg base (CX1 P w) 4 f fd ["way","heap"] (xw K (qp A)):=by
 refine dO F lX (by walk_at "ln") fun _ _ _ _ _ _ hr ds Q R h rz=>?_
 obtain ⟨k,n,h,rfl,hn,hl,hw⟩:=h
 refine ⟨_,(zg (yT (V4 (fA G_steps_and_writing (hr.mono (by decide)) rfl (za (dv 0) (za (dv 1) zd))) (fun _ _=>rfl)))),?_⟩
 refine ⟨_,rfl,_,rfl,k,n,h,rfl,hn,hl,?_⟩
 rcases hw with hw | ⟨h1,h2,h3⟩ | ⟨h1,h2,h3,h4⟩
 ·exact .inl (gK rz hw)
 ·exact .inr (.inl ⟨h1,h2,rz _ h3⟩)
 ·exact .inr (.inr ⟨h1,h2,h3,fun ss r hF=>⟨_,_,rfl,h4 ss r hF⟩⟩)
abbrev uD:Stmt:=top 18
theorem nw:zi ["number"] ["number"] (defScope uD):=by walk_at "sc"
theorem nO (T:Txt K mg A) (G_is_whole:DOk P w K mg base 1 "is_whole" (xg)) (F:Fun K "as_pair" "as_pair" uD f fd):FnOk P w K mg base CX0 2 f fd ["number"] (zq K (vo)):=by
 refine okD F nw (by walk_at "ln") fun _ _ _ _ _ _ hr ds Q h=>?_
 obtain ⟨d,m,rfl,hm,q⟩:=h
 refine ⟨_,(zf (zB (z9 (zk G_is_whole (hr.mono (by decide)) rfl (za (dv 0) zd))) (zg (zl (zy (za (dv 0) (za ze zd))))) zn)
 (zg (zl (dv 0)))),?_⟩
 obtain rfl:=yR hm
 cases m with
 | i n=>
  walk_at "rd"
  exact q
 | p a b=>
  walk_at "rd"
  exact q
abbrev qE:Stmt:=top 19
theorem sc_added:zi ["one","other","left","right"] ["one","other"] (defScope qE):=by walk_at "sc"
theorem jN (T:Txt K mg A) (G_is_whole:DOk P w K mg base 1 "is_whole" (xg)) (G_as_pair:DOk P w K mg base 2 "as_pair" (vo)) (F:Fun K "added" "added" qE f fd):FnOk P w K mg base CX0 3 f fd ["one","other"] (zq K (pD)):=by
 refine okD F sc_added (by walk_at "ln") fun _ _ _ _ _ _ hr ds Q h=>?_
 obtain ⟨d,e,m,n,rfl,hm,hn,q⟩:=h
 refine ⟨_,(zf (zB (DW.dt (y4 (z9 (zk G_is_whole (hr.mono (by decide)) rfl (za (dv 0) zd))) (yJ (z9 (zk G_is_whole (hr.mono (by decide)) rfl (za (dv 1) zd)))))) (zg (zl (zj zU (dv 0) (dv 1)))) zn)
 (zf (zo (i:=2) sc_added.nd rfl (Or.inl rfl) (zk G_as_pair (hr.mono (by decide)) rfl (za (dv 0) zd)))
 (zf (zo (i:=3) sc_added.nd rfl (Or.inl rfl) (zk G_as_pair (hr.mono (by decide)) rfl (za (dv 1) zd)))
 (zg (zl (zy (za (zj zU (zC (dv 2) ze (fun _ _=>rfl)) (zC (dv 3) ze (fun _ _=>rfl))) (za (zj zU (zC (dv 2) ze (fun _ _=>rfl)) (zC (dv 3) ze (fun _ _=>rfl))) zd)))))))),?_⟩
 obtain rfl:=yR hm
 obtain rfl:=yR hn
 cases m <;> cases n
 all_goals
  walk_at "rd"
  exact q
abbrev vA:Stmt:=top 31
theorem pX:zi ["row","place"] ["row","place"] (defScope vA):=by walk_at "sc"
theorem og (T:Txt K mg A) (F:Fun K "thing_at" "thing_at" vA f fd):FnOk P w K mg base CX0 1 f fd ["row","place"] (zq K (vP)):=by
 refine okD F pX (by walk_at "ln") fun _ _ _ _ _ _ hr ds Q h=>?_
 obtain ⟨xs,p,rfl,hp,q⟩:=h
 refine ⟨_,(zf (zB (zr (sP) (dv 1) (yK rfl T.len (dv 0)) (zp _)) (zg (zl (zC (dv 0) (dv 1) (fun _ _=>rfl)))) zn)
 (zg (zl ze))),?_⟩
 refine ⟨_,rfl,_,rfl,_,rfl,_,_,rfl,rfl,_,rfl,T0 (fun h=>?_) (fun h=>?_)⟩
 ·have h:p<(xs.length:Int):=of_decide_eq_true h
  have hl:p.toNat<xs.length:=by omega
  have e:((p.toNat:Nat):Int)=p:=Int.toNat_of_nonneg hp
  have:=wx (List.getElem?_eq_getElem hl)
  rw [e] at this
  rw [List.getD_eq_getElem?_getD,List.getElem?_eq_getElem hl] at q
  exact ⟨_,rfl,_,rfl,_,_,_,rfl,rfl,this,q⟩
 ·have h:¬ p<(xs.length:Int):=fun z=>h (decide_eq_true z)
  rw [List.getD_eq_getElem?_getD,List.getElem?_eq_none (by omega)] at q
  exact q
abbrev x_:Stmt:=inClass (top 23) 0
theorem rm:zi ["self"] ["self"] (defScope x_):=by walk_at "sc"
theorem yo (T:Txt K mg A) (F:Fun K "nought" "Way.nought" x_ f fd):FnOk P w K mg base CX0 1 f fd ["self"] (zq K (SS)):=by
 refine okD F rm (by walk_at "ln") fun _ _ _ _ _ _ hr ds Q h=>?_
 obtain ⟨o,rfl,q⟩:=h
 refine ⟨_,(zg (zl ze)),?_⟩
 exact q
abbrev xl:Stmt:=inClass (top 29) 1
theorem tm:zi ["self"] ["self"] (defScope xl):=by walk_at "sc"
theorem tF (T:Txt K mg A) (F:Fun K "nought" "Pairs.nought" xl f fd):FnOk P w K mg base CX0 1 f fd ["self"] (zq K (SR)):=by
 refine okD F tm (by walk_at "ln") fun _ _ _ _ _ _ hr ds Q h=>?_
 obtain ⟨o,rfl,q⟩:=h
 refine ⟨_,(zg (zl (zy (za ze (za ze zd))))),?_⟩
 exact ⟨rfl,q⟩
abbrev uF:Stmt:=inClass (top 23) 5
theorem nB:zi ["self","number"] ["self","number"] (defScope uF):=by walk_at "sc"
theorem vH (T:Txt K mg A) (G_is_whole:DOk P w K mg base 1 "is_whole" (xg)) (F:Fun K "has" "Way.has" uF f fd):FnOk P w K mg base CX0 2 f fd ["self","number"] (zq K (u4 .plain)):=by
 refine okD F nB (by walk_at "ln") fun _ _ _ _ _ _ hr ds Q h=>?_
 obtain ⟨o,d,m,rfl,hm,q⟩:=h
 refine ⟨_,(zg (zl (rc (zk G_is_whole (hr.mono (by decide)) rfl (za (dv 1) zd)) (mh (fK (dR) (dv 1) ze (zp _)))))),?_⟩
 obtain rfl:=yR hm
 cases m
 all_goals
  walk_at "rd"
  exact q
abbrev wM:Stmt:=inClass (top 25) 3
theorem qB:zi ["self","number"] ["self","number"] (defScope wM):=by walk_at "sc"
theorem qP (T:Txt K mg A) (G_is_whole:DOk P w K mg base 1 "is_whole" (xg)) (F:Fun K "has" "Below.has" wM f fd):FnOk P w K mg base CX0 2 f fd ["self","number"] (zq K (u4 .below)):=by
 refine okD F qB (by walk_at "ln") fun _ _ _ _ _ _ hr ds Q h=>?_
 obtain ⟨o,d,m,rfl,hm,q⟩:=h
 refine ⟨_,(zg (zl (zk G_is_whole (hr.mono (by decide)) rfl (za (dv 1) zd)))),?_⟩
 obtain rfl:=yR hm
 cases m
 all_goals
  walk_at "rd"
  exact q
abbrev xp:Stmt:=inClass (top 26) 4
theorem tE:zi ["self","number"] ["self","number"] (defScope xp):=by walk_at "sc"
theorem tL (T:Txt K mg A) (G_is_whole:DOk P w K mg base 1 "is_whole" (xg)) (F:Fun K "has" "Balanced.has" xp f fd):FnOk P w K mg base CX0 2 f fd ["self","number"] (zq K (u4 .balanced)):=by
 refine okD F tE (by walk_at "ln") fun _ _ _ _ _ _ hr ds Q h=>?_
 obtain ⟨o,d,m,rfl,hm,q⟩:=h
 refine ⟨_,(zg (zl (zk G_is_whole (hr.mono (by decide)) rfl (za (dv 1) zd)))),?_⟩
 obtain rfl:=yR hm
 cases m
 all_goals
  walk_at "rd"
  exact q
abbrev uA:Stmt:=top 17
theorem nu:zi ["value"] ["value"] (defScope uA):=by walk_at "sc"
theorem nL (T:Txt K mg A) (G_is_whole:DOk P w K mg base 1 "is_whole" (xg)) (F:Fun K "is_pair" "is_pair" uA f fd):FnOk P w K mg base CX0 2 f fd ["value"] (zq K (qo)):=by
 refine okD F nu (by walk_at "ln") fun _ _ _ _ _ _ hr ds Q h=>?_
 obtain ⟨d,m,rfl,hm,q⟩:=h
 refine ⟨_,(zg (zl (rc (mi (T:=.tuple) T.kt T.isinstance T.n_tuple PyProof.Rows.boot_tuple (dv 0)) (rc (fK (yL hr) (yK rfl T.len (dv 0)) ze (zp _)) (rc (zk G_is_whole (hr.mono (by decide)) rfl (za (zC (dv 0) ze (fun _ _=>rfl)) zd)) (mh (zk G_is_whole (hr.mono (by decide)) rfl (za (zC (dv 0) ze (fun _ _=>rfl)) zd)))))))),?_⟩
 obtain rfl:=yR hm
 cases m
 all_goals
  walk_at "rd"
  exact q
abbrev wL:Stmt:=inClass (top 29) 5
theorem qA:zi ["self","number"] ["self","number"] (defScope wL):=by walk_at "sc"
theorem qO (T:Txt K mg A) (G_is_pair:DOk P w K mg base 2 "is_pair" (qo)) (F:Fun K "has" "Pairs.has" wL f fd):FnOk P w K mg base CX0 3 f fd ["self","number"] (zq K (u4 .pairs)):=by
 refine okD F qA (by walk_at "ln") fun _ _ _ _ _ _ hr ds Q h=>?_
 obtain ⟨o,d,m,rfl,hm,q⟩:=h
 refine ⟨_,(zg (zl (zk G_is_pair (hr.mono (by decide)) rfl (za (dv 1) zd)))),?_⟩
 obtain rfl:=yR hm
 refine ⟨_,rfl,_,m,rfl,hm,?_⟩
 cases m <;> exact q
abbrev xH:Stmt:=inClass (top 24) 2
theorem sv:zi ["self","place"] ["self","place"] (defScope xH):=by walk_at "sc"
theorem sL (T:Txt K mg A) (F:Fun K "ratio" "Plain.ratio" xH f fd):FnOk P w K mg base CX0 1 f fd ["self","place"] (zq K (wy A .plain (Kd.ratN .plain))):=by
 refine okD F sv (by walk_at "ln") fun _ _ _ _ _ _ hr ds Q h=>?_
 obtain ⟨n,p,rfl,hn,q⟩:=h
 refine ⟨_,(zg (zl (zL (dv 0)))),?_⟩
 exact ⟨_,rfl,_,_,_,rfl,rfl,T.Qm,T.Oh,q⟩
abbrev xK:Stmt:=inClass (top 25) 2
theorem sx:zi ["self","place"] ["self","place"] (defScope xK):=by walk_at "sc"
theorem sO (T:Txt K mg A) (F:Fun K "ratio" "Below.ratio" xK f fd):FnOk P w K mg base CX0 1 f fd ["self","place"] (zq K (wy A .below (Kd.ratN .below))):=by
 refine okD F sx (by walk_at "ln") fun _ _ _ _ _ _ hr ds Q h=>?_
 obtain ⟨n,p,rfl,hn,q⟩:=h
 refine ⟨_,(zg (zl (zR (zL (dv 0))))),?_⟩
 exact ⟨_,rfl,_,_,_,rfl,rfl,T.Qn,T.Oi,_,rfl,q⟩
abbrev yP:Stmt:=inClass (top 26) 3
theorem vT:zi ["self","place"] ["self","place"] (defScope yP):=by walk_at "sc"
theorem vW (T:Txt K mg A) (F:Fun K "ratio" "Balanced.ratio" yP f fd):FnOk P w K mg base CX0 1 f fd ["self","place"] (zq K (wy A .balanced (Kd.ratN .balanced))):=by
 refine okD F vT (by walk_at "ln") fun _ _ _ _ _ _ hr ds Q h=>?_
 obtain ⟨n,p,rfl,hn,q⟩:=h
 refine ⟨_,(zg (zl (zj zU (zj xA ze (zL (dv 0))) ze))),?_⟩
 exact ⟨_,rfl,_,_,_,rfl,rfl,T.Qk,T.PJ,_,_,rfl,rfl,VI (by decide),_,_,rfl,rfl,q⟩
abbrev y0:Stmt:=inClass (top 27) 2
theorem ur:zi ["self","place"] ["self","place"] (defScope y0):=by walk_at "sc"
theorem uJ (T:Txt K mg A) (F:Fun K "ratio" "Growing.ratio" y0 f fd):FnOk P w K mg base CX0 1 f fd ["self","place"] (zq K (wy A .growing (Kd.ratN .growing))):=by
 refine okD F ur (by walk_at "ln") fun _ _ _ _ _ _ hr ds Q h=>?_
 obtain ⟨n,p,rfl,hn,q⟩:=h
 refine ⟨_,(zg (zl (zj zU (zL (dv 0)) (dv 1)))),?_⟩
 exact ⟨_,rfl,_,_,_,rfl,rfl,T.Qo,T.Oj,_,rfl,_,_,rfl,rfl,q⟩
abbrev xJ:Stmt:=inClass (top 29) 3
theorem sw:zi ["self","place"] ["self","place"] (defScope xJ):=by walk_at "sc"
theorem sN (T:Txt K mg A) (F:Fun K "ratio" "Pairs.ratio" xJ f fd):FnOk P w K mg base CX0 1 f fd ["self","place"] (zq K (wy A .pairs (Kd.ratN .pairs))):=by
 refine okD F sw (by walk_at "ln") fun _ _ _ _ _ _ hr ds Q h=>?_
 obtain ⟨n,p,rfl,hn,q⟩:=h
 refine ⟨_,(zg (zl (zy (za (zR (zL (dv 0))) (za ze zd))))),?_⟩
 exact ⟨_,rfl,_,_,_,rfl,rfl,T.Qf,T.Qp,_,rfl,rfl,q⟩
abbrev wK:Stmt:=inClass (top 23) 4
theorem sc_Way_split:zi ["self","total","place","low","figures","figure"] ["self","total","place"] (defScope wK):=by walk_at "sc"
theorem xb (T:Txt K mg A) (HLo:∀ k:Kd,MOk P w K mg base 1 (A.at k) "low" (xU A k (k.low))∧MOk P w K mg base 1 (A.at k) "high" (xU A k (k.high))) (HR:∀ k:Kd,k.five=true→MOk P w K mg base 1 (A.at k) "ratio" (wy A k (k.ratN))) (F:Fun K "split" "Way.split" wK f fd):FnOk P w K mg base CX0 2 f fd ["self","total","place"] (zq K (eB A)):=by
 refine okD F sc_Way_split (by walk_at "ln") fun _ _ _ _ _ _ hr ds Q h=>?_
 obtain ⟨k,n,t,j,rfl,h4,hn,hj,q⟩:=h
 refine ⟨_,(zf (zo (i:=3) sc_Way_split.nd rfl (Or.inl rfl) (xf hr (dv 0) (za (dv 2) zd)))
 (zf (zo (i:=4) sc_Way_split.nd rfl (Or.inl rfl) (zj zU (zj zS (xf hr (dv 0) (za (dv 2) zd)) (dv 3)) ze))
 (zf (zo (i:=5) sc_Way_split.nd rfl (Or.inl rfl) (zj zU (dv 3) (zj yh (zj zS (dv 1) (dv 3)) (dv 4))))
 (zg (zl (zy (za (dv 5) (za (zj yI (zj zS (dv 1) (dv 5)) (xf hr (dv 0) (za (dv 2) zd))) zd)))))))),?_⟩
 obtain ⟨M1,M2⟩:=HLo k
 have h5:k.five=true:=by cases k <;> first | rfl | cases h4
 have M3:=HR k h5
 obtain ⟨e1,e2⟩:=qx h4 n j
 have hp:=sk h4 hn j
 have hr:k.ratN n j=.i (k.rat n j):=by cases k <;> first | rfl | cases h4
 have hb:(k.rat n j).natAbs<1073741824:=by
  obtain ⟨b1,b2⟩:=wT hn
  cases k <;> cases h4 <;> simp only [Kd.rat] <;> omega
 refine ⟨_,rfl,_,_,_,_,rfl,ZM k,M1.mono (by decide),_,rfl,n,j,rfl,hn,?_⟩
 refine ⟨_,rfl,_,_,_,_,rfl,fk k,M2.mono (by decide),_,rfl,n,j,rfl,hn,_,rfl,_,_,rfl,rfl,_,_,rfl,rfl,?_⟩
 refine ⟨_,rfl,_,rfl,_,rfl,_,_,rfl,rfl,_,rfl,_,_,rfl,rfl,(show k.high n j - k.low n j+1≠0 by omega),_,_,rfl,rfl,?_⟩
 refine ⟨_,rfl,_,rfl,_,rfl,_,_,rfl,rfl,_,rfl,_,_,_,_,rfl,q_ k,M3.mono (by decide),_,rfl,n,j,rfl,hn,?_⟩
 rw [hr]
 refine ⟨_,_,rfl,rfl,⟨by omega,hb⟩,rfl,?_⟩
 cases k <;> cases h4 <;> exact q
abbrev x6:Stmt:=top 20
theorem sc_multiplied:zi ["one","other","left","right"] ["one","other"] (defScope x6):=by walk_at "sc"
theorem rD (T:Txt K mg A) (G_is_whole:DOk P w K mg base 1 "is_whole" (xg)) (G_as_pair:DOk P w K mg base 2 "as_pair" (vo)) (F:Fun K "multiplied" "multiplied" x6 f fd):FnOk P w K mg base CX0 3 f fd ["one","other"] (zq K (mB)):=by
 refine okD F sc_multiplied (by walk_at "ln") fun _ _ _ _ _ _ hr ds Q h=>?_
 obtain ⟨d,e,m,n,rfl,hm,hn,k1,q⟩:=h
 refine ⟨_,(zf (zB (DW.dt (y4 (z9 (zk G_is_whole (hr.mono (by decide)) rfl (za (dv 0) zd))) (yJ (z9 (zk G_is_whole (hr.mono (by decide)) rfl (za (dv 1) zd)))))) (zg (zl (zj xA (dv 0) (dv 1)))) zn)
 (zf (zo (i:=2) sc_multiplied.nd rfl (Or.inl rfl) (zk G_as_pair (hr.mono (by decide)) rfl (za (dv 0) zd)))
 (zf (zo (i:=3) sc_multiplied.nd rfl (Or.inl rfl) (zk G_as_pair (hr.mono (by decide)) rfl (za (dv 1) zd)))
 (zg (zl (zy (za (zj zS (zj xA (zC (dv 2) ze (fun _ _=>rfl)) (zC (dv 3) ze (fun _ _=>rfl))) (zj xA (zC (dv 2) ze (fun _ _=>rfl)) (zC (dv 3) ze (fun _ _=>rfl)))) (za (zj zU (zj xA (zC (dv 2) ze (fun _ _=>rfl)) (zC (dv 3) ze (fun _ _=>rfl))) (zj xA (zC (dv 2) ze (fun _ _=>rfl)) (zC (dv 3) ze (fun _ _=>rfl)))) zd)))))))),?_⟩
 obtain rfl:=yR hm
 obtain rfl:=yR hn
 obtain ⟨h1,h2,h3,h4⟩:=k1
 cases m <;> cases n
 all_goals
  walk_at "rd"
  first | refine ⟨h1,?_⟩ | skip
  walk_at "rd"
  first | exact q | skip
  try refine ⟨h2,?_⟩
  walk_at "rd"
  try refine ⟨h3,?_⟩
  walk_at "rd"
  try refine ⟨h4,?_⟩
  walk_at "rd"
  try exact q
abbrev xI:Stmt:=inClass (top 29) 4
theorem PH:zi ["self","total","place","pair","figures","figure","turned"] ["self","total","place"] (defScope xI):=by walk_at "sc"
theorem sM (T:Txt K mg A) (G_as_pair:DOk P w K mg base 2 "as_pair" (vo)) (G_multiplied:DOk P w K mg base 3 "multiplied" (mB)) (F:Fun K "split" "Pairs.split" xI f fd):FnOk P w K mg base CX0 4 f fd ["self","total","place"] (zq K (eD A)):=by
 refine okD F PH (by walk_at "ln") fun _ _ _ _ _ _ hr ds Q h=>?_
 obtain ⟨n,d,m,j,rfl,hm,hn,q⟩:=h
 refine ⟨_,(zf (zo (i:=3) PH.nd rfl (Or.inl rfl) (zk G_as_pair (hr.mono (by decide)) rfl (za (dv 1) zd)))
 (zf (zo (i:=4) PH.nd rfl (Or.inl rfl) (zj zU (zj xA (zL (dv 0)) (zL (dv 0))) ze))
 (zf (zo (i:=5) PH.nd rfl (Or.inl rfl) (zj yh (zj zU (zC (dv 3) ze (fun _ _=>rfl)) (zj xA (zL (dv 0)) (zC (dv 3) ze (fun _ _=>rfl)))) (dv 4)))
 (zf (zo (i:=6) PH.nd rfl (Or.inl rfl) (zk G_multiplied (hr.mono (by decide)) rfl (za (zy (za (zj zS (zC (dv 3) ze (fun _ _=>rfl)) (dv 5)) (za (zC (dv 3) ze (fun _ _=>rfl)) zd))) (za (zy (za (zR (zL (dv 0))) (za (zR ze) zd))) zd))))
 (zg (zl (zy (za (dv 5) (za (zy (za (zj yI (zC (dv 6) ze (fun _ _=>rfl)) (dv 4)) (za (zj yI (zC (dv 6) ze (fun _ _=>rfl)) (dv 4)) zd))) zd))))))))),?_⟩
 have hn1:1≤n:=hn.1
 have hn2:n≤9:=hn.2
 have sq:n*n≤81:=by
  have:=Int.mul_le_mul hn2 hn2 (by omega) (by omega)
  omega
 have sq0:0≤n*n:=Int.mul_nonneg (by omega) (by omega)
 have hN:lM 0 (n*n+1):=⟨by omega,by omega⟩
 refine ⟨_,rfl,_,m,rfl,hm,?_⟩
 refine ⟨_,rfl,_,_,_,rfl,rfl,T.Qf,T.Qp,_,rfl,_,_,_,rfl,rfl,T.Qf,T.Qp,_,_,rfl,rfl,small (by omega) (by omega) _,_,_,rfl,rfl,?_⟩
 refine ⟨_,rfl,_,_,_,rfl,rfl,rfl,_,rfl,_,_,_,rfl,rfl,T.Qf,T.Qp,_,rfl,_,_,_,rfl,rfl,rfl,_,_,rfl,rfl,ni (by omega) (by omega) _,_,_,rfl,rfl,_,rfl,_,_,rfl,rfl,(show n*n+1≠0 by omega),?_⟩
 repeat (first | (walk_at "rd1") | refine ⟨_,_,_,rfl,rfl,T.Qf,T.Qp,?_⟩)
 refine ⟨⟨small (show -1000000≤-n by omega) (show -n≤1000000 by omega) _,small (show (-1000000:Int)≤-1 by decide) (show (-1:Int)≤1000000 by decide) _,small (show (-1000000:Int)≤-1 by decide) (show (-1:Int)≤1000000 by decide) _,small (show -1000000≤-n by omega) (show -n≤1000000 by omega) _⟩,?_⟩
 repeat (first | (walk_at "rd1") | refine ⟨hN,?_⟩)
 exact q
abbrev z8:Stmt:=top 42
theorem sc_figures_and_carries:zi ["way","totals","figures","carry","found","place","parts"] ["way","totals"] (defScope z8):=by walk_at "sc"
theorem wk (T:Txt K mg A) (G_added:DOk P w K mg base 3 "added" (pD)) (G_thing_at:DOk P w K mg base 1 "thing_at" (vP)) (HNo:∀ k:Kd,MOk P w K mg base 1 (A.at k) "nought" (ST k)) (HHas:∀ k:Kd,MOk P w K mg base 3 (A.at k) "has" (u4 k)) (HSp:∀ k:Kd,k.five=true→MOk P w K mg base 4 (A.at k) "split" (lD A k)) (F:Fun K "figures_and_carries" "figures_and_carries" z8 f fd):FnOk P w K mg base CX0 5 f fd ["way","totals"] (zq K (SU A)):=by
 refine okD F sc_figures_and_carries (by walk_at "ln") fun _ _ _ _ _ _ hr ds Q h=>?_
 obtain ⟨k,n,ts,J,rfl,h5,hn,ht,F,hJ,q⟩:=h
 refine ⟨_,(zf (zB (z9 (xC T.isinstance T.Qq (dv 0))) (zg w4) zn)
 (zf (yb (i:=2) sc_figures_and_carries.nd rfl (Or.inl rfl) (wu zd))
 (zf (zo (i:=3) sc_figures_and_carries.nd rfl (Or.inl rfl) (oS hr (dv 0)))
 (zf (yb (i:=4) sc_figures_and_carries.nd rfl (Or.inl rfl) (wu (za (dv 3) zd)))
 (zf (xS PassesOwn.never (DW.dt (oQ (zr (sP) (wv 2 rfl T.len) (yK rfl T.len (dv 1)) (zp _)) (pd (zr (kb hr) (dv 3) (oS hr (dv 0)) (zp _))))) (zf (zo (i:=5) sc_figures_and_carries.nd rfl (Or.inl rfl) (wv 2 rfl T.len))
 (z5 (zB (DW.dt (y4 (zr (dR) (dv 5) (yK rfl T.len (dv 1)) (zp _)) (yJ (s_ (z9 (xf hr (dv 0) (za (dv 3) zd))))))) (zg w4) zn)
 (zf (zo (i:=6) sc_figures_and_carries.nd rfl (Or.inl rfl) (xf hr (dv 0) (za (zk G_added (hr.mono (by decide)) rfl (za (dv 3) (za (zk G_thing_at (hr.mono (by decide)) rfl (za (dv 1) (za (dv 5) zd))) zd))) (za (dv 5) zd))))
 (zf (wq 2 (zC (dv 6) ze (fun _ _=>rfl)))
 (zf (zo (i:=3) sc_figures_and_carries.nd rfl (Or.inl rfl) (zC (dv 6) ze (fun _ _=>rfl)))
 (zg (wq 4 (dv 3)))))))))
 (xB 2 (xB 4 (zg (zl (zy (za (dv 2) (za (dv 4) zd)))))))))))),?_⟩
 have ll:(ts.map Nm.dt).length=ts.length:=List.length_map _
 refine ⟨_,rfl,_,_,_,_,rfl,sT T k,kiF T k,_,rfl,?_⟩
 refine ifF (wX h5) ?_
 refine ⟨rfl,_,rfl,_,rfl,_,_,_,_,rfl,s9 k,(HNo k).mono (by decide),_,rfl,_,rfl,rfl,_,rfl,?_⟩
 refine ⟨fun m ρ=>∃ j v5 v6,ρ=[.some (zF A k n),.some (vz ts),.own ((wE k n ts j).map Dt.int),.some (cAt k n ts j).dt,.own (oV k n ts (j+1)),v5,v6]∧m=J - j∧j≤J,⟨J,0,_,_,rfl,rfl,Nat.zero_le _⟩,?_⟩
 rintro m ρ' ⟨j,v5,v6,rfl,rfl,hj⟩
 have fl:=ua k n ts j
 have fl':((wE k n ts j).map Dt.int).length=j:=by rw [List.length_map,fl]
 have cl:(oV k n ts (j+1)).length=j+1:=by unfold oV; rw [List.length_map,Ze]
 have hcz:cAt k n ts j=k.zero↔eqD (cAt k n ts j).dt k.zero.dt=true:=(V0 (xu k n ts j) (y7 k)).symm
 refine ⟨_,rfl,_,rfl,_,rfl,_,_,rfl,rfl,_,rfl,?_⟩
 by_cases hjJ:j<J
 ·refine ifB (fun _=>ifT rfl ?_) (fun hlt=>⟨_,rfl,_,rfl,_,_,_,_,rfl,s9 k,(HNo k).mono (by decide),_,rfl,qQ _,qQ _,_,rfl,ifT (nF ?_) ?_⟩)
  rotate_left
  ·have hle:ts.length≤j:=by have:=of_decide_eq_false hlt; omega
   cases e:eqD (cAt k n ts j).dt k.zero.dt with
   | false=>rfl
   | true=>exact absurd (hcz.mpr e) (F.nz j hle hjJ).1
  all_goals
   refine ⟨_,rfl,?_⟩
   rw [fl']
   refine ⟨fun ρ=>ρ=[.some (zF A k n),.some (vz ts),.own ((wE k n ts j).map Dt.int),.some (cAt k n ts j).dt,.own (oV k n ts (j+1)),.some (.int j),v6],?_,?_⟩
   ·refine ⟨_,rfl,_,rfl,_,rfl,_,_,rfl,rfl,_,rfl,?_⟩
    refine ifB (fun hge=>?_) (fun _=>ifF rfl rfl)
    have hge:ts.length≤j:=by have:=of_decide_eq_true hge; omega
    refine ⟨_,rfl,_,_,_,_,rfl,Se k,(HHas k).mono (by decide),_,rfl,_,_,_,rfl,wl _,_,rfl,?_⟩
    rw [(F.nz j hge hjJ).2]
    exact ifF rfl rfl
   ·rintro ρ' rfl
    refine ⟨_,rfl,_,_,_,_,rfl,aW k,(HSp k h5).mono (by decide),_,rfl,_,rfl,_,rfl,_,_,rfl,by omega,?_⟩
    rw [Int.toNat_natCast,qY]
    refine ⟨_,_,_,_,rfl,wl _,wl _,_,rfl,n,_,j,rfl,w_ (xu k n ts j) (yV ht j),hn,by omega,?_⟩
    refine ⟨_,rfl,_,rfl,_,_,_,rfl,rfl,rfl,by omega,?_⟩
    refine ⟨_,rfl,_,_,_,rfl,rfl,rfl,?_⟩
    refine ⟨_,rfl,_,rfl,by omega,J - (j+1),by omega,j+1,.some (.int j),.some (.tup [.int (fAt k n ts j),(cAt k n ts (j+1)).dt]),?_,rfl,hjJ⟩
    have ef:(wE k n ts j).map Dt.int++[Dt.int (fAt k n ts j)]=(wE k n ts (j+1)).map Dt.int:=by rw [kK,ul]
    have ec:oV k n ts (j+1)++[(cAt k n ts (j+1)).dt]=oV k n ts (j+1+1):=by unfold oV; rw [fR k n ts (j+1),List.map_append]; rfl
    rw [← ec,← ef]
    rfl
 ·have ej:j=J:=by omega
  subst ej
  refine ifF (decide_eq_false (by rw [fl',ll]; have:=F.le; omega)) ?_
  refine ⟨_,rfl,_,rfl,_,_,_,_,rfl,s9 k,(HNo k).mono (by decide),_,rfl,qQ _,qQ _,_,rfl,ifF (nT (hcz.mp F.z)) ?_⟩
  exact ⟨_,rfl,_,rfl,_,rfl,_,rfl,rfl,q⟩
abbrev ux:Stmt:=top 43
theorem nr:zi ["way","totals"] ["way","totals"] (defScope ux):=by walk_at "sc"
theorem nI (T:Txt K mg A) (G_trimmed:FOk P w K mg base 1 "trimmed" (mw)) (G_figures_and_carries:DOk P w K mg base 5 "figures_and_carries" (SU A)) (F:Fun K "settled" "settled" ux f fd):FnOk P w K mg base CX0 6 f fd ["way","totals"] (yU K (qm A)):=by
 refine okF F nr (by walk_at "ln") fun _ _ _ _ _ _ hr ds Q h=>?_
 obtain ⟨k,n,ts,J,rfl,h5,hn,ht,F,hJ,q⟩:=h
 refine ⟨_,(zg (yT (yg G_trimmed (hr.mono (by decide)) rfl (za (zC (zk G_figures_and_carries (hr.mono (by decide)) rfl (za (dv 0) (za (dv 1) zd))) ze (fun _ _=>rfl)) zd)))),?_⟩
 refine ⟨_,rfl,_,rfl,k,n,ts,J,rfl,h5,hn,ht,F,hJ,_,_,_,rfl,rfl,rfl,?_⟩
 exact ⟨_,rfl,q⟩
abbrev xE:Stmt:=top 49
theorem sr:zi ["way","row"] ["way","row"] (defScope xE):=by walk_at "sc"
theorem sI (T:Txt K mg A) (G_fallen:FOkX P w K mg base 4 "fallen" (qp A)) (G_settled:FOk P w K mg base 6 "settled" (qm A)) (F:Fun K "written_row" "written_row" xE f fd):FnOk P w K mg base CX0 7 f fd ["way","row"] (yU K (xv A)):=by
 refine okF F sr (by walk_at "ln") fun _ _ _ _ _ _ hr ds Q h=>?_
 obtain ⟨k,n,ts,b,rfl,hn,hl,ht,hb,b7,b8,hp,hf,q⟩:=h
 refine ⟨_,(zf (zB (z9 (xC T.isinstance T.Qq (dv 0))) (zg (yT (ui G_fallen (hr.mono (by decide)) rfl (za (dv 0) (za (dv 1) zd))))) zn)
 (zg (yT (yg G_settled (hr.mono (by decide)) rfl (za (dv 0) (za (dv 1) zd)))))),?_⟩
 refine ⟨_,rfl,_,_,_,_,rfl,sT T k,kiF T k,_,rfl,?_⟩
 by_cases hk:k=.falling
 ·subst hk
  obtain ⟨h,rfl,h0,hpot⟩:=hf rfl
  refine ifT rfl ?_
  rw [List.length_map] at hl
  refine ⟨_,rfl,_,rfl,.falling,n,h,by unfold zt vz; rw [kX],hn,by omega,.inr (.inr ⟨rfl,h0,hpot,fun ss r F=>?_⟩)⟩
  refine q r F.leg ?_ ?_
  ·rw [yy,qu,qu,F.eqw]
  ·rw [List.length_map]; have:=F.len; omega
 ·have h5:k.five=true:=by cases k <;> first | rfl | exact absurd rfl hk
  refine ifF (wX h5) ?_
  obtain ⟨J,F,hJ⟩:=jf h5 hn ht hb b7 hp
  refine ⟨_,rfl,_,rfl,k,n,ts,J,rfl,h5,hn,ht,F,by omega,?_⟩
  refine q _ (nk h5 hn ht) (nj F h5 hn ht) ?_
  have:=vR (wE k n ts J)
  rw [ua] at this
  show (trim (wE k n ts J)).length≤_
  omega
abbrev xZ:Stmt:=top 56
theorem sc_row_plus:zi ["one","other","many"] ["one","other"] (defScope xZ):=by walk_at "sc"
theorem oh (T:Txt K mg A) (G_added:DOk P w K mg base 3 "added" (pD)) (G_thing_at:DOk P w K mg base 1 "thing_at" (vP)) (F:Fun K "row_plus" "row_plus" xZ f fd):FnOk P w K mg base CX0 4 f fd ["one","other"] (zq K (uo)):=by
 refine okD F sc_row_plus (by walk_at "ln") fun _ _ _ _ _ _ hr ds Q h=>?_
 obtain ⟨a,b,rfl,ha,hb,q⟩:=h
 refine ⟨_,(zf (zo (i:=2) sc_row_plus.nd rfl (Or.inl rfl) (V7 rfl rfl T.n_max (za (yK rfl T.len (dv 0)) (za (yK rfl T.len (dv 1)) zd))))
 (zg (zl (DF.de (SM (ra (osc:=defScope xZ) (N0:=["one","other","many"]) (bs:=["place"]) (caps:=["one","other"]) (js:=[0,1]) rfl (by decide +kernel) rfl rfl rfl (fD rfl T.range (dv 2)) (fun _ _ _ _ _=>(ya (i:=0) (show List.Nodup [("place":Str),("one":Str),("other":Str)] by decide +kernel) rfl (Or.inl (lookup_relabel_local rfl)) (.inl rfl))) mZ (fun _ _ _ _ _=>fL) (fun _ _ _ _ _=>(zk G_added (hr.mono (by decide)) rfl (za (zk G_thing_at (hr.mono (by decide)) rfl (za (dv 1) (za (dv 0) zd))) (za (zk G_thing_at (hr.mono (by decide)) rfl (za (dv 2) (za (dv 0) zd))) zd)))))))))),?_⟩
 have l1:(a.map Nm.dt).length=a.length:=List.length_map _
 have l2:(b.map Nm.dt).length=b.length:=List.length_map _
 walk_at "rd"
 have em:(if ((b.map Nm.dt).length:Int)>((a.map Nm.dt).length:Int) then ((b.map Nm.dt).length:Int) else ((a.map Nm.dt).length:Int))=((max a.length b.length:Nat):Int):=by
  rw [l1,l2]; split <;> omega
 rw [em]
 refine ⟨_,fun i es=>es=((List.range i).map fun p=>(a.getD p (.i 0)).add (b.getD p (.i 0))).map Nm.dt,rfl,by omega,by omega,rfl,?_,?_⟩
 ·rintro i es hi rfl
  refine ⟨_,rfl,_,rfl,_,i,rfl,by omega,?_⟩
  refine ⟨_,rfl,_,rfl,_,i,rfl,by omega,?_⟩
  rw [Int.toNat_natCast,qY,qY]
  refine ⟨_,_,a.getD i (.i 0),b.getD i (.i 0),rfl,wl _,wl _,?_⟩
  show List.map Nm.dt (List.map (fun p=>(a.getD p (.i 0)).add (b.getD p (.i 0))) (List.range i))++[_]=List.map Nm.dt (List.map (fun p=>(a.getD p (.i 0)).add (b.getD p (.i 0))) (List.range (i+1)))
  rw [List.range_succ,List.map_append,List.map_append]
  rfl
 ·rintro es rfl
  rw [Int.toNat_natCast]
  exact q
abbrev nC:Stmt:=top 63
theorem e8:zi ["way","one","other"] ["way","one","other"] (defScope nC):=by walk_at "sc"
theorem dN (T:Txt K mg A) (G_held_to_be_writings:DOkX P w K mg base 4 "held_to_be_writings" (uq A)) (G_written_row:FOk P w K mg base 7 "written_row" (xv A)) (G_row_plus:DOk P w K mg base 4 "row_plus" (uo)) (F:Fun K "plus" "plus" nC f fd):FnOk P w K mg base (CX1 P w) 8 f fd ["way","one","other"] (xw K (lE A)):=by
 refine dO F e8 (by walk_at "ln") fun _ _ _ _ _ _ hr ds Q R h rz=>?_
 obtain ⟨k,n,a,b,rfl,hn,la,lb,hw⟩:=h
 refine ⟨_,(zf (uh (xT G_held_to_be_writings (hr.mono (by decide)) rfl (za (dv 0) (za (zE (za (dv 1) (za (dv 2) zd))) zd))))
 (zg (yT (yg G_written_row (hr.mono (by decide)) rfl (za (dv 0) (za (zk G_row_plus (hr.mono (by decide)) rfl (za (dv 1) (za (dv 2) zd))) zd)))))),?_⟩
 refine ⟨_,rfl,_,rfl,_,rfl,rfl,k,n,[a,b],rfl,hn,fun r' h'=>?_,?_⟩
 ·rcases List.mem_cons.mp h' with rfl | h'
  ·omega
  ·rw [List.mem_singleton.mp h']; omega
 rcases hw with ⟨hLa,hLb,q⟩ | ⟨hb,hR⟩
 ·refine .inl ⟨fun r' h'=>?_,?_⟩
  ·rcases List.mem_cons.mp h' with rfl | h'
   ·exact hLa
   ·rw [List.mem_singleton.mp h']; exact hLb
  have q:∀ r,Legal k n r→zx k n r=(zx k n a).add (zx k n b)→r.length≤400→Q (zt r):=fun r _ _ _=>q r
  have hl:=vU a b
  refine ⟨_,rfl,_,rfl,_,rfl,a.map Nm.i,b.map Nm.i,by rw [xX,xX],by rw [List.length_map]; omega,by rw [List.length_map]; omega,?_⟩
  have hw:yc k n ((xa a b).map Nm.i)=(zx k n a).add (zx k n b):=by rw [yy,o7]
  refine o6 ⟨k,n,(xa a b).map Nm.i,14,by rw [uM],hn,by rw [List.length_map]; omega,xO,fun t ht=>?_,by decide,by decide,fun hk=>?_,fun hk=>?_,fun r hr hwr hlr=>?_⟩
  ·obtain ⟨z,hz,rfl⟩:=List.mem_map.mp ht
   obtain ⟨p,rfl⟩:=sD hz
   have f1:=q9 hn hLa (by omega) p
   have f2:=q9 hn hLb (by omega) p
   have:=Int.natAbs_add_le (hf a p) (hf b p)
   exact ⟨by show (hf a p+hf b p).natAbs≤16384; omega,by show (0:Int).natAbs≤_; decide⟩
  ·rw [hw,zZ]
   have:=vf hn hLa hk
   have:=vf hn hLb hk
   omega
  ·subst hk
   have n9:n≤9:=hn.2
   refine ⟨_,rfl,fun z hz=>?_,vd (B:=18) (fun z hz=>?_) (by decide) (by decide) (by omega)⟩
   all_goals
    obtain ⟨p,rfl⟩:=sD hz
    have f1:=sY hn hLa p
    have f2:=sY hn hLb p
    omega
  ·rw [List.length_map] at hlr
   exact q r hr (hwr.trans hw) (by omega)
 ·refine .inr ⟨?_,rz _ hR⟩
  rcases hb with hb | hb
  ·exact ⟨a,List.mem_cons_self,hb⟩
  ·exact ⟨b,List.mem_cons_of_mem _ List.mem_cons_self,hb⟩
abbrev xy:Stmt:=top 57
theorem qy:zi ["row","factor"] ["row","factor"] (defScope xy):=by walk_at "sc"
theorem qK (T:Txt K mg A) (G_multiplied:DOk P w K mg base 3 "multiplied" (mB)) (F:Fun K "row_times" "row_times" xy f fd):FnOk P w K mg base CX0 4 f fd ["row","factor"] (zq K (um)):=by
 refine okD F qy (by walk_at "ln") fun _ _ _ _ _ _ hr ds Q h=>?_
 obtain ⟨a,f,rfl,ha,⟨f1,f2,f3,f4⟩,q⟩:=h
 refine ⟨_,(zg (zl (DF.de (SN (ra (osc:=defScope xy) (N0:=["row","factor"]) (bs:=["thing"]) (caps:=["factor"]) (js:=[1]) rfl (by decide +kernel) rfl rfl rfl (lq (dv 0)) (fun _ _ _ _ _=>(ya (i:=0) (show List.Nodup [("thing":Str),("factor":Str)] by decide +kernel) rfl (Or.inl (lookup_relabel_local rfl)) (.inl rfl))) mZ (fun _ _ _ _ _=>fL) (fun _ _ _ _ _=>(zk G_multiplied (hr.mono (by decide)) rfl (za (dv 0) (za (dv 1) zd))))))))),?_⟩
 have ll:=zD a
 refine ⟨_,rfl,a.map Dt.int,fun i es=>es=((a.take i).map fun z=>(Nm.i z).mul f).map Nm.dt,rfl,by rw [ll]; omega,rfl,?_,?_⟩
 ·rintro i e es hi rfl
  obtain ⟨rfl,hl⟩:=df hi
  refine ⟨_,rfl,_,rfl,_,_,.i (a.getD i 0),f,rfl,rfl,wl f,⟨small f1 f2 _,small f3 f4 _,small f3 f4 _,small f1 f2 _⟩,?_⟩
  show List.map Nm.dt (List.map (fun z=>(Nm.i z).mul f) (a.take i))++[_]=List.map Nm.dt (List.map (fun z=>(Nm.i z).mul f) (a.take (i+1)))
  rw [lS hl,List.map_append,List.map_append]
  rfl
 ·rintro es rfl
  rw [ll,List.take_length]
  exact q
abbrev yZ:Stmt:=top 60
theorem sc_without_debts:zi ["way","row","things","place"] ["way","row"] (defScope yZ):=by walk_at "sc"
theorem uI (T:Txt K mg A) (F:Fun K "without_debts" "without_debts" yZ f fd):FnOk P w K mg base CX0 1 f fd ["way","row"] (yU K (ZU A)):=by
 refine okF F sc_without_debts (by walk_at "ln") fun _ _ _ _ _ _ hr ds Q h=>?_
 obtain ⟨n,r,rfl,hl,hz,q⟩:=h
 refine ⟨_,(zf (yb (i:=2) sc_without_debts.nd rfl (Or.inl rfl) (xc rfl T.n_list (dv 1)))
 (zf (vk (j:=3) rfl sc_without_debts.nd rfl (Or.inl rfl) PassesOwn.never rfl T.range (za (zj zS (wv 2 rfl T.len) ze) (za (zR ze) (za (zR ze) zd))) (zg (xS PassesOwn.never (zr (sP) (pf 2 (dv 3) (fun _ _=>rfl)) ze (zp _)) (zg w4))))
 (zg (ue 2)))),?_⟩
 have ll:=zD r
 have h0:∀ i,r.getD i 0=0:=fun i=>by
  by_cases hi:i<r.length
  ·rw [List.getD_eq_getElem?_getD,List.getElem?_eq_getElem hi]
   exact hz _ (List.getElem_mem _)
  ·rw [List.getD_eq_getElem?_getD,List.getElem?_eq_none (by omega)]; rfl
 refine ⟨_,rfl,_,rfl,_,rfl,?_⟩
 walk_at "rd"
 refine ⟨_,_,fun i ρ=>∃ v:Sl,ρ=[.some (zF A .falling n),.some (zt r),.own (r.map Dt.int),v],rfl,by omega,by omega,by decide,by decide,⟨_,rfl⟩,?_,?_⟩
 ·rintro i ρ' hi ⟨v,rfl⟩
  obtain ⟨p,hp⟩:∃ p:Nat,p+i+1=r.length:=⟨r.length - 1 - i,by omega⟩
  have ep:((List.map Dt.int r).length:Int) - 1 - i=p:=by omega
  rw [ep]
  refine ⟨fun _ ρ=>ρ=[.some (zF A .falling n),.some (zt r),.own (r.map Dt.int),.some (.int p)],⟨0,rfl⟩,?_⟩
  rintro m ρ' rfl
  refine ⟨_,rfl,_,rfl,_,_,rfl,uj (show (0:Int)≤p by omega) (by omega),_,_,rfl,rfl,_,rfl,?_⟩
  rw [h0]
  exact ifF rfl ⟨_,rfl⟩
 ·rintro ρ' ⟨v,rfl⟩
  exact ⟨_,rfl,q⟩
abbrev qD:Stmt:=top 64
theorem sc_minus:zi ["way","one","other","difference"] ["way","one","other"] (defScope qD):=by walk_at "sc"
theorem jM (T:Txt K mg A) (G_held_to_be_writings:DOkX P w K mg base 4 "held_to_be_writings" (uq A)) (G_row_plus:DOk P w K mg base 4 "row_plus" (uo)) (G_row_times:DOk P w K mg base 4 "row_times" (um)) (G_written_row:FOk P w K mg base 7 "written_row" (xv A)) (G_without_debts:FOk P w K mg base 1 "without_debts" (ZU A)) (F:Fun K "minus" "minus" qD f fd):FnOk P w K mg base (CX1 P w) 8 f fd ["way","one","other"] (xw K (eK A)):=by
 refine dO F sc_minus (by walk_at "ln") fun _ _ _ _ _ _ hr ds Q R h rz=>?_
 obtain ⟨k,n,a,b,rfl,hn,la,lb,hw⟩:=h
 refine ⟨_,(zf (uh (xT G_held_to_be_writings (hr.mono (by decide)) rfl (za (dv 0) (za (zE (za (dv 1) (za (dv 2) zd))) zd))))
 (zf (zo (i:=3) sc_minus.nd rfl (Or.inl rfl) (zk G_row_plus (hr.mono (by decide)) rfl (za (dv 1) (za (zk G_row_times (hr.mono (by decide)) rfl (za (dv 2) (za (zR ze) zd))) zd))))
 (zf (zB (z9 (xC T.isinstance T.Qq (dv 0))) (zg (yT (yg G_written_row (hr.mono (by decide)) rfl (za (dv 0) (za (DF.de (yg G_without_debts (hr.mono (by decide)) rfl (za (dv 0) (za (dv 3) zd)))) zd))))) zn)
 (zg (yT (yg G_written_row (hr.mono (by decide)) rfl (za (dv 0) (za (dv 3) zd)))))))),?_⟩
 refine ⟨_,rfl,_,rfl,_,rfl,rfl,k,n,[a,b],rfl,hn,fun r' h'=>?_,?_⟩
 ·rcases List.mem_cons.mp h' with rfl | h'
  ·omega
  ·rw [List.mem_singleton.mp h']; omega
 rcases hw with ⟨hLa,hLb,rfl,q⟩ | ⟨hb,hR⟩
 ·refine .inl ⟨fun r' h'=>?_,?_⟩
  ·rcases List.mem_cons.mp h' with rfl | h'
   ·exact hLa
   ·rw [List.mem_singleton.mp h']; exact hLb
  have en:xQ (b.map Nm.i) (wB b (.i (-1)))=(xa b (uS b (-1))).map Nm.i:=by rw [jl,uM]
  have hl:=vU b (uS b (-1))
  have li:(uS b (-1)).length=b.length:=List.length_map _
  refine ⟨_,rfl,_,rfl,_,rfl,b,.i (-1),rfl,by omega,⟨by show (-1000000:Int)≤-1; decide,by show (-1:Int)≤1000000; decide,by show (-1000000:Int)≤0; decide,by show (0:Int)≤1000000; decide⟩,b.map Nm.i,wB b (.i (-1)),by rw [xX],by rw [List.length_map]; omega,by rw [wO]; omega,?_⟩
  rw [en]
  have hz:∀ z∈xa b (uS b (-1)),z=0:=fun z h=>lY h
  have w0:(yc k n ((xa b (uS b (-1))).map Nm.i)).re=0:=by
   rw [← en,pI xO (p6 (pO k (-1))),yy,pH b (pO k _),zZ,zJ]
   show _+(_*(-1) - _*0)=(0:Int)
   omega
  generalize xa b (uS b (-1))=s at *
  have fin:xv A [zF A k n,vz (s.map Nm.i)] (fun d=>Q d):=by
   refine ⟨k,n,s.map Nm.i,14,rfl,hn,by rw [List.length_map]; omega,xO,fun t ht=>?_,by decide,by decide,fun _=>by rw [w0]; exact Int.le_refl _,fun _=>⟨s,rfl,fun z h=>by rw [hz z h]; exact Int.le_refl _,vd (B:=0) (fun z h=>by rw [hz z h]; decide) (by decide) (by decide) (by omega)⟩,fun r _ _ _=>q r⟩
   obtain ⟨z,hz',rfl⟩:=List.mem_map.mp ht
   rw [hz z hz']
   exact ⟨by show (0:Int).natAbs≤_; decide,by show (0:Int).natAbs≤_; decide⟩
  refine ⟨_,rfl,_,_,_,_,rfl,sT T k,kiF T k,_,rfl,?_⟩
  by_cases hk:k=.falling
  ·subst hk
   refine ifT rfl ⟨_,rfl,_,rfl,_,rfl,n,s,by rw [xX],by omega,hz,?_⟩
   have e:zt s=vz (s.map Nm.i):=xX s
   show xv A [zF A .falling n,zt s] Q
   rw [e]
   exact fin
  ·have h5:k.five=true:=by cases k <;> first | rfl | exact absurd rfl hk
   exact ifF (wX h5) ⟨_,rfl,_,rfl,fin⟩
 ·refine .inr ⟨?_,rz _ hR⟩
  rcases hb with hb | hb
  ·exact ⟨a,List.mem_cons_self,hb⟩
  ·exact ⟨b,List.mem_cons_of_mem _ List.mem_cons_self,hb⟩
abbrev yu:Stmt:=top 62
theorem sc_times_in_falling:zi ["way","one","other","product","ahead","place","above"] ["way","one","other"] (defScope yu):=by walk_at "sc"
theorem vq (T:Txt K mg A) (G_row_plus:DOk P w K mg base 4 "row_plus" (uo)) (G_row_times:DOk P w K mg base 4 "row_times" (um)) (G_written_row:FOk P w K mg base 7 "written_row" (xv A)) (F:Fun K "times_in_falling" "times_in_falling" yu f fd):FnOk P w K mg base CX0 8 f fd ["way","one","other"] (yU K (lC A)):=by
 refine okF F sc_times_in_falling (by walk_at "ln") fun _ _ _ _ _ _ hr ds Q h=>?_
 obtain ⟨n,a,rfl,hn,hLa,la,q⟩:=h
 refine ⟨_,(zf (yb (i:=3) sc_times_in_falling.nd rfl (Or.inl rfl) (wu zd))
 (zf (zo (i:=4) sc_times_in_falling.nd rfl (Or.inl rfl) (zE zd))
 (zf (vk (j:=5) rfl sc_times_in_falling.nd rfl (Or.inl rfl) PassesOwn.never rfl T.range (za (zj zS (yK rfl T.len (dv 2)) ze) (za (zR ze) (za (zR ze) zd))) (xB 3 (zf (zo (i:=6) sc_times_in_falling.nd rfl (Or.inl rfl) (zk G_row_plus (hr.mono (by decide)) rfl (za (zk G_row_times (hr.mono (by decide)) rfl (za (dv 3) (za (zL (dv 0)) zd))) (za (dv 4) zd))))
 (zf (zo (i:=4) sc_times_in_falling.nd rfl (Or.inl rfl) (dv 3))
 (zg (yb (i:=3) sc_times_in_falling.nd rfl (Or.inl rfl) (yg G_written_row (hr.mono (by decide)) rfl (za (dv 0) (za (zk G_row_plus (hr.mono (by decide)) rfl (za (dv 6) (za (zk G_row_times (hr.mono (by decide)) rfl (za (dv 1) (za (zC (dv 2) (dv 5) (fun _ _=>rfl)) zd))) zd))) zd)))))))))
 (xB 3 (zg (yT (yg G_written_row (hr.mono (by decide)) rfl (za (dv 0) (za (zk G_row_plus (hr.mono (by decide)) rfl (za (dv 3) (za (dv 4) zd))) zd))))))))),?_⟩
 have l1:=zD a
 have n9:n≤9:=hn.2
 have n1:1≤n:=hn.1
 have wr:∀ (r:List Int) (Q':Dt→Prop),Legal .falling n r→r.length≤200→(∀ r',Legal .falling n r'→zx .falling n r'=zx .falling n r→Q' (zt r'))→∀ ts,ts=r.map Nm.i→xv A [zF A .falling n,vz ts] Q':=fun r Q' hL hl q' ts ets=>by
  subst ets
  have zb:∀ z∈r,0≤z∧z≤9:=fun z hz=>by
   obtain ⟨p,hp,rfl⟩:=List.mem_iff_getElem.mp hz
   have:=hL.fig p hp
   rw [List.getD_eq_getElem?_getD,List.getElem?_eq_getElem hp] at this
   have:0≤r[p]∧r[p]≤n:=this
   omega
  refine ⟨.falling,n,r.map Nm.i,14,rfl,hn,by rw [List.length_map]; omega,xO,fun t ht=>?_,by decide,by decide,fun hk=>absurd hk (by rintro (h | h) <;> cases h),fun _=>⟨r,rfl,fun z h=>(zb z h).1,vd zb (by decide) (by decide) hl⟩,fun r' h1 h2 _=>q' r' h1 (by rw [h2,yy])⟩
  obtain ⟨z,hz,rfl⟩:=List.mem_map.mp ht
  have:=zb z hz
  exact ⟨by show z.natAbs≤16384; omega,by show (0:Int).natAbs≤_; decide⟩
 walk_at "rd"
 refine ⟨_,_,fun i ρ=>∃ (r s:List Int) (v5 v6:Sl),ρ=[.some (zF A .falling n),.some (zt a),.some (zt [1]),.own (r.map Dt.int),.some (zt s),v5,v6]∧s=[]∧(i=0→r=[])∧Legal .falling n r∧r.length≤200,rfl,by decide,by decide,by decide,by decide,⟨[],[],_,_,rfl,rfl,fun _=>rfl,kz _ n,by decide⟩,?_,?_⟩
 ·rintro i ρ' hi ⟨r,s,v5,v6,rfl,rfl,hr,_,_⟩
  obtain rfl:i=0:=by have:i<1:=hi; omega
  obtain rfl:=hr rfl
  refine ⟨_,rfl,_,rfl,_,rfl,_,_,_,rfl,rfl,T.R8,T.Qe,[],.i n,rfl,by decide,⟨by show -1000000≤n; omega,by show n≤1000000; omega,by show (-1000000:Int)≤0; decide,by show (0:Int)≤1000000; decide⟩,_,rfl,[],[],rfl,by decide,by decide,?_⟩
  refine ⟨_,rfl,?_⟩
  refine ⟨_,rfl,_,rfl,_,rfl,_,rfl,_,rfl,_,_,_,rfl,rfl,sE (ns:=[1]) (i:=0) (by decide),a,.i 1,rfl,by omega,⟨by show (-1000000:Int)≤1; decide,by show (1:Int)≤1000000; decide,by show (-1000000:Int)≤0; decide,by show (0:Int)≤1000000; decide⟩,[],_,rfl,by decide,by rw [wO]; omega,?_⟩
  delta Ud
  refine o6 (wr a _ hLa la (fun r' h1 h2=>?_) _ (mU a))
  obtain rfl:r'=a:=S0 hn h1 hLa h2
  exact ⟨_,rfl,r',[],_,_,rfl,rfl,(fun z=>nomatch z),h1,la⟩
 ·rintro ρ' ⟨r,s,v5,v6,rfl,rfl,_,hL,hl⟩
  refine ⟨_,rfl,_,rfl,_,rfl,_,rfl,r.map Nm.i,[],by rw [← xX]; rfl,by rw [List.length_map]; omega,by decide,?_⟩
  delta Ud
  exact o6 (wr r _ hL hl (fun r' _ _=>q r') _ (eW r))
abbrev yO:Stmt:=top 61
theorem sc_times_by_ratio:zi ["way","one","other","product","place","above"] ["way","one","other"] (defScope yO):=by walk_at "sc"
theorem vV (T:Txt K mg A) (G_row_times:DOk P w K mg base 4 "row_times" (um)) (G_written_row:FOk P w K mg base 7 "written_row" (xv A)) (G_row_plus:DOk P w K mg base 4 "row_plus" (uo)) (HR:∀ k:Kd,k.five=true→MOk P w K mg base 1 (A.at k) "ratio" (wy A k (k.ratN))) (F:Fun K "times_by_ratio" "times_by_ratio" yO f fd):FnOk P w K mg base CX0 8 f fd ["way","one","other"] (yU K (ey A)):=by
 refine okF F sc_times_by_ratio (by walk_at "ln") fun _ _ _ _ _ _ hr ds Q h=>?_
 obtain ⟨k,n,a,rfl,h5,hn,hLa,la,q⟩:=h
 refine ⟨_,(zf (yb (i:=3) sc_times_by_ratio.nd rfl (Or.inl rfl) (wu zd))
 (zf (vk (j:=4) rfl sc_times_by_ratio.nd rfl (Or.inl rfl) PassesOwn.never rfl T.range (za (zj zS (yK rfl T.len (dv 2)) ze) (za (zR ze) (za (zR ze) zd))) (xB 3 (zf (zo (i:=5) sc_times_by_ratio.nd rfl (Or.inl rfl) (zk G_row_times (hr.mono (by decide)) rfl (za (dv 3) (za (xf hr (dv 0) (za (dv 4) zd)) zd))))
 (zg (yb (i:=3) sc_times_by_ratio.nd rfl (Or.inl rfl) (yg G_written_row (hr.mono (by decide)) rfl (za (dv 0) (za (zk G_row_plus (hr.mono (by decide)) rfl (za (dv 5) (za (zk G_row_times (hr.mono (by decide)) rfl (za (dv 1) (za (zC (dv 2) (dv 4) (fun _ _=>rfl)) zd))) zd))) zd))))))))
 (zg (ue 3)))),?_⟩
 have l1:=zD a
 walk_at "rd"
 refine ⟨_,_,fun i ρ=>∃ (r:List Int) (v4 v5:Sl),ρ=[.some (zF A k n),.some (zt a),.some (zt [1]),.own (r.map Dt.int),v4,v5]∧(i=0→r=[]),rfl,by decide,by decide,by decide,by decide,⟨[],_,_,rfl,fun _=>rfl⟩,?_,?_⟩
 ·rintro i ρ' hi ⟨r,v4,v5,rfl,hr⟩
  obtain rfl:i=0:=by have:i<1:=hi; omega
  obtain rfl:=hr rfl
  refine ⟨_,rfl,_,rfl,_,rfl,_,_,_,_,rfl,q_ k,(HR k h5).mono (by decide),_,rfl,n,(0:Nat),rfl,hn,[],k.ratN n (0:Nat),rfl,by decide,Ye hn (by decide) (by decide),?_⟩
  refine ⟨_,rfl,_,rfl,_,rfl,_,rfl,_,rfl,_,_,_,rfl,rfl,sE (ns:=[1]) (i:=0) (by decide),a,.i 1,rfl,by omega,⟨by show (-1000000:Int)≤1; decide,by show (1:Int)≤1000000; decide,by show (-1000000:Int)≤0; decide,by show (0:Int)≤1000000; decide⟩,[],_,rfl,by decide,by rw [wO]; omega,?_⟩
  refine ⟨k,n,a.map Nm.i,14,by rw [mU],hn,by rw [List.length_map]; omega,xO,fun t ht=>?_,by decide,by decide,fun hk=>?_,fun hk=>absurd h5 (by rw [hk]; decide),fun r' hr' hw' _=>⟨_,rfl,r',_,_,rfl,fun z=>nomatch z⟩⟩
  ·obtain ⟨z,hz,rfl⟩:=List.mem_map.mp ht
   have:=qa hn hLa (by omega) z hz
   exact ⟨by show z.natAbs≤16384; omega,by show (0:Int).natAbs≤_; decide⟩
  ·rw [yy]; exact vf hn hLa hk
 ·rintro ρ' ⟨r,v4,v5,rfl,_⟩
  exact ⟨_,rfl,q r⟩
abbrev qC:Stmt:=top 65
theorem jg:zi ["way","one","other"] ["way","one","other"] (defScope qC):=by walk_at "sc"
theorem jL (T:Txt K mg A) (G_held_to_be_writings:DOkX P w K mg base 4 "held_to_be_writings" (uq A)) (G_times_in_falling:FOk P w K mg base 8 "times_in_falling" (lC A)) (G_times_by_ratio:FOk P w K mg base 8 "times_by_ratio" (ey A)) (F:Fun K "times" "times" qC f fd):FnOk P w K mg base (CX1 P w) 9 f fd ["way","one","other"] (xw K (eo A)):=by
 refine dO F jg (by walk_at "ln") fun _ _ _ _ _ _ hr ds Q R h rz=>?_
 obtain ⟨k,n,a,b,rfl,hn,la,lb,hw⟩:=h
 refine ⟨_,(zf (uh (xT G_held_to_be_writings (hr.mono (by decide)) rfl (za (dv 0) (za (zE (za (dv 1) (za (dv 2) zd))) zd))))
 (zf (zB (z9 (xC T.isinstance T.Qq (dv 0))) (zg (yT (yg G_times_in_falling (hr.mono (by decide)) rfl (za (dv 0) (za (dv 1) (za (dv 2) zd)))))) zn)
 (zg (yT (yg G_times_by_ratio (hr.mono (by decide)) rfl (za (dv 0) (za (dv 1) (za (dv 2) zd)))))))),?_⟩
 refine ⟨_,rfl,_,rfl,_,rfl,rfl,k,n,[a,b],rfl,hn,fun r' h'=>?_,?_⟩
 ·rcases List.mem_cons.mp h' with rfl | h'
  ·omega
  ·rw [List.mem_singleton.mp h']; omega
 rcases hw with ⟨hLa,hLb,rfl,q⟩ | ⟨hb,hR⟩
 ·refine .inl ⟨fun r' h'=>?_,?_⟩
  ·rcases List.mem_cons.mp h' with rfl | h'
   ·exact hLa
   ·rw [List.mem_singleton.mp h']; exact hLb
  refine ⟨_,rfl,_,_,_,_,rfl,sT T k,kiF T k,_,rfl,?_⟩
  by_cases hk:k=.falling
  ·subst hk
   exact ifT rfl ⟨_,rfl,_,rfl,_,rfl,n,a,rfl,hn,hLa,la,q⟩
  ·have h5:k.five=true:=by cases k <;> first | rfl | exact absurd rfl hk
   exact ifF (wX h5) ⟨_,rfl,_,rfl,_,rfl,k,n,a,rfl,h5,hn,hLa,la,q⟩
 ·refine .inr ⟨?_,rz _ hR⟩
  rcases hb with hb | hb
  ·exact ⟨a,List.mem_cons_self,hb⟩
  ·exact ⟨b,List.mem_cons_of_mem _ List.mem_cons_self,hb⟩
abbrev z4:Stmt:=top 52
theorem sc_quotients_in_falling:zi ["way","row","many","quotients","rest","ahead","place","total"] ["way","row","many"] (defScope z4):=by walk_at "sc"
theorem xP (T:Txt K mg A) (F:Fun K "quotients_in_falling" "quotients_in_falling" z4 f fd):FnOk P w K mg base CX0 1 f fd ["way","row","many"] (zq K (eH A)):=by
 refine okD F sc_quotients_in_falling (by walk_at "ln") fun _ _ _ _ _ _ hr ds Q h=>?_
 obtain ⟨n,r,m,rfl,⟨hn,hL,⟨hl,hlf⟩,hm,hm2⟩,q⟩:=h
 refine ⟨_,(zf (yb (i:=3) sc_quotients_in_falling.nd rfl (Or.inl rfl) (wu zd))
 (zf (zo (i:=4) sc_quotients_in_falling.nd rfl (Or.inl rfl) ze)
 (zf (zo (i:=5) sc_quotients_in_falling.nd rfl (Or.inl rfl) ze)
 (zf (vk (j:=6) rfl sc_quotients_in_falling.nd rfl (Or.inl rfl) PassesOwn.never rfl T.range (za (zj zS (yK rfl T.len (dv 1)) ze) (za (zR ze) (za (zR ze) zd))) (zf (zo (i:=7) sc_quotients_in_falling.nd rfl (Or.inl rfl) (zj zU (zj zU (zC (dv 1) (dv 6) (fun _ _=>rfl)) (zj xA (zL (dv 0)) (dv 4))) (dv 5)))
 (z5 (zB (zr (yL hr) (dv 6) ze (zp _)) (zg (lj (i:=7) gW sc_quotients_in_falling.nd rfl (Or.inl rfl) (dv 4))) zn)
 (zf (wq 3 (zj mW (dv 7) (dv 2)))
 (zf (zo (i:=5) sc_quotients_in_falling.nd rfl (Or.inl rfl) (dv 4))
 (zg (zo (i:=4) sc_quotients_in_falling.nd rfl (Or.inl rfl) (zj yh (dv 7) (dv 2)))))))))
 (zf (fq 3)
 (xB 3 (zg (zl (zy (za (dv 3) (za (dv 4) zd))))))))))),?_⟩
 have ll:=zD r
 have n1:1≤n:=hn.1
 have n9:n≤9:=hn.2
 walk_at "rd"
 refine ⟨_,_,fun i ρ=>∃ (qs:List Int) (e a:Int) (v6 v7:Sl),ρ=[.some (zF A .falling n),.some (zt r),.some (.int m),.own (qs.map Dt.int),.some (.int e),.some (.int a),v6,v7]∧qs.length=i∧(∀ z∈qs,0≤z∧z≤30)∧0≤e∧e<m∧0≤a∧a<m∧(∀ p,p+1+i=r.length→tz n (p+1) (r.drop (p+1))=m*tz n (p+1) qs.reverse+e*wf n (p+1)+a*wf n p)∧(i=r.length→tz n 0 r=m*tz n 0 qs.reverse+e),rfl,by omega,by omega,by decide,by decide,⟨[],0,0,_,_,rfl,rfl,(fun z hz=>nomatch hz),Int.le_refl _,by omega,Int.le_refl _,by omega,fun p hp=>?_,fun hp=>?_⟩,?_,?_⟩
 ·rw [List.drop_of_length_le (by omega)]
  show (0:Int)=m*0+0*_+0*_
  rw [Int.mul_zero,Int.zero_mul,Int.zero_mul]; rfl
 ·rw [List.length_eq_zero_iff.mp hp.symm]
  show (0:Int)=m*0+0
  rw [Int.mul_zero]; rfl
 ·rintro i ρ' hi ⟨qs,e,a,v6,v7,rfl,hq,hb,e0,e1,a0,a1,hw,_⟩
  obtain ⟨p,hp⟩:∃ p:Nat,p+i+1=r.length:=⟨r.length - 1 - i,by omega⟩
  have ep:((List.map Dt.int r).length:Int) - 1 - i=p:=by omega
  rw [ep]
  have hw:=hw p (by omega)
  have hpr:p<r.length:=by omega
  obtain ⟨f1,f2⟩:0≤r.getD p 0∧r.getD p 0≤n:=sY hn hL p
  have g1:=Int.mul_le_mul_of_nonneg_right n9 e0
  have g0:=Int.mul_nonneg (show 0≤n by omega) e0
  refine ⟨_,rfl,_,rfl,_,_,_,rfl,rfl,sE hpr,_,rfl,_,_,_,rfl,rfl,T.R8,T.Qe,_,rfl,_,_,rfl,rfl,ni (by omega) (by omega) _,_,_,rfl,rfl,_,rfl,_,_,rfl,rfl,?_⟩
  dsimp only
  refine ⟨fun ρ=>∃ t:Int,ρ=[.some (zF A .falling n),.some (zt r),.some (.int m),.own (qs.map Dt.int),.some (.int e),.some (.int a),.some (.int p),.some (.int t)]∧t=r.getD p 0+n*e+a+(if p=0 then e else 0),?_,?_⟩
  ·refine ⟨_,rfl,rfl,rfl,_,rfl,ifB (fun h=>?_) (fun h=>?_)⟩
   ·have h:(p:Int)=0:=qS h
    exact ⟨_,rfl,_,rfl,_,_,rfl,rfl,_,rfl,by rw [if_pos (by omega)]⟩
   ·have h:(p:Int)≠0:=qR h
    exact ⟨_,rfl,by rw [if_neg (by omega)]; omega⟩
  rintro ρ ⟨t,rfl,ht⟩
  have ht2:0≤t∧t≤30 * m:=by rw [ht]; split <;> omega
  obtain ⟨d1,d2,d3⟩:=lp t m hm
  have qb:=jr (B:=30) d1 d2 d3 (by decide) ht2.2 (by omega)
  have qn:=jq hm d1 d3 ht2.1
  refine ⟨_,rfl,_,rfl,_,rfl,_,_,rfl,rfl,ZS (by omega) hm2,by rw [zD]; omega,?_⟩
  refine ⟨_,rfl,_,rfl,_,rfl,_,_,rfl,rfl,(by show m≠0; omega),?_⟩
  have eg:r[p]=r.getD p 0:=by rw [List.getD_eq_getElem?_getD,List.getElem?_eq_getElem hpr]; rfl
  refine ⟨qs++[t.fdiv m],t.fmod m,e,_,_,by rw [← ul]; rfl,by rw [List.length_append,hq]; rfl,fun z hz=>?_,d2,d3,e0,e1,fun p' hp'=>?_,fun hp'=>?_⟩
  ·rcases List.mem_append.mp hz with hz | hz
   ·exact hb z hz
   ·rw [List.mem_singleton.mp hz]; exact ⟨qn,qb.2⟩
  ·obtain rfl:p=p'+1:=by omega
   rw [List.drop_eq_getElem_cons hpr,List.reverse_append]
   show r[p'+1]*wf n (p'+1)+tz n (p'+1+1) (r.drop (p'+1+1))=m*(t.fdiv m*wf n (p'+1)+tz n (p'+1+1) qs.reverse)+_+_
   rw [hw,eg,qv]
   rw [if_neg (by omega)] at ht
   generalize t.fdiv m=Y at *
   generalize t.fmod m=Z at *
   generalize r.getD (p' + 1) 0=D at *
   have:D+n*e+a=m*Y+Z:=by omega
   grind
  ·obtain rfl:p=0:=by omega
   rw [if_pos rfl] at ht
   rw [List.reverse_append]
   have er:r=r.getD 0 0::r.drop (0+1):=by rw [← eg,← List.drop_eq_getElem_cons hpr]; rfl
   have e4:tz n 0 r=r.getD 0 0*wf n 0+tz n (0+1) (r.drop (0+1)):=by
    have:tz n 0 (r.getD 0 0::r.drop (0+1))=r.getD 0 0*wf n 0+tz n (0+1) (r.drop (0+1)):=rfl
    rw [← er] at this
    exact this
   rw [e4,hw]
   show _=m*(t.fdiv m*wf n 0+tz n (0+1) qs.reverse)+_
   rw [o9,show wf n (0+1)=n+1 from lN n]
   generalize t.fdiv m=Y at *
   generalize t.fmod m=Z at *
   generalize r.getD 0 0=D at *
   have:D+n*e+a+e=m*Y+Z:=by omega
   grind
 ·rintro ρ' ⟨qs,e,a,v6,v7,rfl,hq,hb,e0,e1,_,_,_,hw⟩
  have e:(((List.map Dt.int r).length:Int) - 1 - (-1)).toNat=r.length:=by omega
  rw [e] at hq hw
  have hw:=hw rfl
  refine ⟨_,rfl,_,rfl,_,rfl,_,rfl,rfl,?_⟩
  rw [← List.map_reverse]
  refine q qs.reverse _ ⟨by rw [List.length_reverse]; exact hq,fun z hz=>?_,fun _ z hz=>hb z (List.mem_reverse.mp hz),e0,e1,?_⟩
  ·have:=hb z (List.mem_reverse.mp hz); omega
  ·rw [qu,qu,Zq,Zq]; exact hw
abbrev yd:Stmt:=top 51
theorem sc_quotients_by_ratio:zi ["way","row","many","quotients","rest","place","total"] ["way","row","many"] (defScope yd):=by walk_at "sc"
theorem wC (T:Txt K mg A) (HR:∀ k:Kd,k.five=true→MOk P w K mg base 1 (A.at k) "ratio" (wy A k (k.ratN))) (F:Fun K "quotients_by_ratio" "quotients_by_ratio" yd f fd):FnOk P w K mg base CX0 2 f fd ["way","row","many"] (zq K (eG A)):=by
 refine okD F sc_quotients_by_ratio (by walk_at "ln") fun _ _ _ _ _ _ hr ds Q h=>?_
 obtain ⟨k,n,r,m,rfl,h4,⟨hn,hL,⟨hl,hlf⟩,hm,hm2⟩,q⟩:=h
 refine ⟨_,(zf (yb (i:=3) sc_quotients_by_ratio.nd rfl (Or.inl rfl) (wu zd))
 (zf (zo (i:=4) sc_quotients_by_ratio.nd rfl (Or.inl rfl) ze)
 (zf (vk (j:=5) rfl sc_quotients_by_ratio.nd rfl (Or.inl rfl) PassesOwn.never rfl T.range (za (zj zS (yK rfl T.len (dv 1)) ze) (za (zR ze) (za (zR ze) zd))) (zf (zo (i:=6) sc_quotients_by_ratio.nd rfl (Or.inl rfl) (zj zU (zC (dv 1) (dv 5) (fun _ _=>rfl)) (zj xA (xf hr (dv 0) (za (dv 5) zd)) (dv 4))))
 (zf (wq 3 (zj mW (dv 6) (dv 2)))
 (zg (zo (i:=4) sc_quotients_by_ratio.nd rfl (Or.inl rfl) (zj yh (dv 6) (dv 2)))))))
 (zf (fq 3)
 (xB 3 (zg (zl (zy (za (dv 3) (za (dv 4) zd)))))))))),?_⟩
 have ll:=zD r
 walk_at "rd"
 refine ⟨_,_,fun i ρ=>∃ (qs:List Int) (e:Int) (v5 v6:Sl),ρ=[.some (zF A k n),.some (zt r),.some (.int m),.own (qs.map Dt.int),.some (.int e),v5,v6]∧qs.length=i∧(∀ z∈qs,-6000≤z∧z≤6000)∧0≤e∧e<m∧hzn k n (r.length - i) (r.drop (r.length - i))=m*hzn k n (r.length - i) qs.reverse+e,rfl,by omega,by omega,by decide,by decide,⟨[],0,_,_,rfl,rfl,(fun z hz=>nomatch hz),Int.le_refl _,by omega,?_⟩,?_,?_⟩
 ·rw [Nat.sub_zero,List.drop_length]
  show (0:Int)=m*0+0
  rw [Int.mul_zero]; rfl
 ·rintro i ρ' hi ⟨qs,e,v5,v6,rfl,hq,hb,e0,e1,hw⟩
  obtain ⟨p,hp⟩:∃ p:Nat,p+i+1=r.length:=⟨r.length - 1 - i,by omega⟩
  have ep:((List.map Dt.int r).length:Int) - 1 - i=p:=by omega
  rw [ep]
  rw [show r.length - i=p+1 by omega] at hw
  have hpr:p<r.length:=by omega
  have er:(k.ratN n p).dt=.int (k.rat n p):=by cases k <;> first | rfl | cases h4
  obtain ⟨d1,d2,d3⟩:=lp (r.getD p 0+k.rat n p*e) m hm
  have f1:(r.getD p 0).natAbs≤4000:=q9 hn hL (by omega) p
  have f2:=Uq (mS (p:=p) hn (by omega)) (show e.natAbs≤(m - 1).toNat by omega)
  have rs:=mS (p:=p) hn (by omega)
  refine ⟨_,rfl,_,rfl,_,_,_,rfl,rfl,sE hpr,_,rfl,_,_,_,_,rfl,q_ k,(HR k (rX h4)).mono (by decide),_,rfl,n,p,rfl,hn,_,rfl,_,_,er,rfl,ni (by omega) (by omega) _,_,_,rfl,rfl,?_⟩
  dsimp only
  generalize hX:k.rat n p * e=X at *
  have qb:=jr (B:=6000) d1 d2 d3 (by decide) (by omega) (by omega)
  refine ⟨_,rfl,_,rfl,_,rfl,_,_,rfl,rfl,ZS (by omega) hm2,by rw [zD]; omega,?_⟩
  refine ⟨_,rfl,_,rfl,_,_,rfl,rfl,(by show m≠0; omega),?_⟩
  refine ⟨qs++[(r.getD p 0+X).fdiv m],(r.getD p 0+X).fmod m,_,_,by rw [← ul]; rfl,by rw [List.length_append,hq]; rfl,fun z hz=>?_,d2,d3,?_⟩
  ·rcases List.mem_append.mp hz with hz | hz
   ·exact hb z hz
   ·rw [List.mem_singleton.mp hz]; exact qb
  ·rw [show r.length - (i+1)=p by omega,List.drop_eq_getElem_cons hpr,List.reverse_append]
   show r[p]+k.rat n p*hzn k n (p+1) (r.drop (p+1))=m*((r.getD p 0+X).fdiv m+k.rat n p*hzn k n (p+1) qs.reverse)+_
   have eg:r[p]=r.getD p 0:=by rw [List.getD_eq_getElem?_getD,List.getElem?_eq_getElem hpr]; rfl
   rw [hw,eg]
   have e3:k.rat n p*(m*hzn k n (p+1) qs.reverse+e)=m*(k.rat n p*hzn k n (p+1) qs.reverse)+X:=by rw [← hX]; grind
   rw [e3,Int.mul_add]
   omega
 ·rintro ρ' ⟨qs,e,v5,v6,rfl,hq,hb,e0,e1,hw⟩
  have e:(((List.map Dt.int r).length:Int) - 1 - (-1)).toNat=r.length:=by omega
  rw [e] at hq hw
  rw [Nat.sub_self,List.drop_zero] at hw
  refine ⟨_,rfl,_,rfl,_,rfl,_,rfl,rfl,?_⟩
  rw [← List.map_reverse]
  refine q qs.reverse _ ⟨by rw [List.length_reverse]; exact hq,fun z hz=>hb z (List.mem_reverse.mp hz),fun hk=>?_,e0,e1,?_⟩
  ·subst hk; cases h4
  ·rw [oF h4,oF h4]; exact hw
abbrev ye:Stmt:=top 53
theorem wA:zi ["way","row","many"] ["way","row","many"] (defScope ye):=by walk_at "sc"
theorem wD (T:Txt K mg A) (G_quotients_in_falling:DOk P w K mg base 1 "quotients_in_falling" (eH A)) (G_quotients_by_ratio:DOk P w K mg base 2 "quotients_by_ratio" (eG A)) (F:Fun K "quotients_and_rest" "quotients_and_rest" ye f fd):FnOk P w K mg base CX0 3 f fd ["way","row","many"] (zq K (ZW A)):=by
 refine okD F wA (by walk_at "ln") fun _ _ _ _ _ _ hr ds Q h=>?_
 obtain ⟨k,n,r,m,rfl,hk,ho,q⟩:=h
 refine ⟨_,(zf (zB (z9 (xC T.isinstance T.Qq (dv 0))) (zg (zl (zk G_quotients_in_falling (hr.mono (by decide)) rfl (za (dv 0) (za (dv 1) (za (dv 2) zd)))))) zn)
 (zg (zl (zk G_quotients_by_ratio (hr.mono (by decide)) rfl (za (dv 0) (za (dv 1) (za (dv 2) zd))))))),?_⟩
 refine ⟨_,rfl,_,_,_,_,rfl,sT T k,kiF T k,_,rfl,?_⟩
 by_cases hf:k=.falling
 ·subst hf
  exact ifT rfl ⟨_,rfl,_,rfl,_,rfl,n,r,m,rfl,ho,q⟩
 ·refine ifF (by cases k <;> first | rfl | exact absurd rfl hf) ⟨_,rfl,_,rfl,_,rfl,k,n,r,m,rfl,?_,ho,q⟩
  cases k <;> first | rfl | exact absurd rfl hf | exact absurd rfl hk
abbrev sy:Stmt:=top 54
theorem sc_shared:zi ["way","row","many","parts"] ["way","row","many"] (defScope sy):=by walk_at "sc"
theorem l9 (T:Txt K mg A) (G_held_to_be_writings:DOkX P w K mg base 4 "held_to_be_writings" (uq A)) (G_quotients_and_rest:DOk P w K mg base 3 "quotients_and_rest" (ZW A)) (G_written_row:FOk P w K mg base 7 "written_row" (xv A)) (F:Fun K "shared" "shared" sy f fd):FnOk P w K mg base (CX1 P w) 8 f fd ["way","row","many"] (xD K (eE A)):=by
 refine dP F sc_shared (by walk_at "ln") fun _ _ _ _ _ _ hr ds Q R h rz=>?_
 obtain ⟨k,n,r,m,rfl,hn,hl,hw⟩:=h
 refine ⟨_,(zf (zB (z9 (xC T.isinstance T.Nv (dv 0))) (zg (uf rfl rfl T.Nt T.Q8 zQ)) zn)
 (zf (uh (xT G_held_to_be_writings (hr.mono (by decide)) rfl (za (dv 0) (za (zE (za (dv 1) zd)) zd))))
 (zf (zB (zr (sP) (dv 2) ze (zp _)) (zg (uf rfl rfl T.Nu T.Pm zQ)) zn)
 (zf (zo (i:=3) sc_shared.nd rfl (Or.inl rfl) (zk G_quotients_and_rest (hr.mono (by decide)) rfl (za (dv 0) (za (dv 1) (za (dv 2) zd)))))
 (zg (zl (zy (za (DF.de (yg G_written_row (hr.mono (by decide)) rfl (za (dv 0) (za (zC (dv 3) ze (fun _ _=>rfl)) zd)))) (za (zC (dv 3) ze (fun _ _=>rfl)) zd))))))))),?_⟩
 refine ⟨_,rfl,_,_,_,_,rfl,sT T k,kiP T k,_,rfl,?_⟩
 rcases hw with ⟨rfl,hR⟩ | ⟨hk,hb,hR⟩ | ⟨hk,hL,hm,hR⟩ | ⟨hk,hL,hm,hm2,q⟩
 ·exact ifT rfl (rz _ hR)
 ·refine ifF (by cases k <;> first | rfl | exact absurd rfl hk) ?_
  refine ⟨_,rfl,_,rfl,rfl,k,n,[r],rfl,hn,fun r' h'=>by rw [List.mem_singleton.mp h']; omega,.inr ⟨⟨r,List.mem_cons_self,hb⟩,rz _ hR⟩⟩
 ·refine ifF (by cases k <;> first | rfl | exact absurd rfl hk) ?_
  refine ⟨_,rfl,_,rfl,rfl,k,n,[r],rfl,hn,fun r' h'=>by rw [List.mem_singleton.mp h']; omega,.inl ⟨fun r' h'=>by rw [List.mem_singleton.mp h']; exact hL,?_⟩⟩
  exact ⟨_,rfl,_,_,rfl,rfl,_,rfl,ifT (decide_eq_true hm) (rz _ hR)⟩
 ·refine ifF (by cases k <;> first | rfl | exact absurd rfl hk) ?_
  refine ⟨_,rfl,_,rfl,rfl,k,n,[r],rfl,hn,fun r' h'=>by rw [List.mem_singleton.mp h']; omega,.inl ⟨fun r' h'=>by rw [List.mem_singleton.mp h']; exact hL,?_⟩⟩
  refine ⟨_,rfl,_,_,rfl,rfl,_,rfl,ifF (decide_eq_false (by omega)) ?_⟩
  have hlf:k=.falling→r.length≤200:=fun _=>by omega
  have ho:lL k n r m:=⟨hn,hL,⟨by omega,hlf⟩,hm,hm2⟩
  refine ⟨_,rfl,_,rfl,_,rfl,k,n,r,m,rfl,hk,ho,fun qs e hq=>?_⟩
  obtain ⟨q1,q2,q3,q4,q5,q6⟩:=hq
  refine ⟨_,rfl,_,rfl,_,_,_,rfl,rfl,rfl,?_⟩
  refine ⟨k,n,qs.map Nm.i,14,by rw [xX],hn,by rw [List.length_map]; omega,xO,fun t ht=>?_,by decide,by decide,fun hp=>?_,fun hf=>?_,fun s hs hws hls=>?_⟩
  ·obtain ⟨z,hz,rfl⟩:=List.mem_map.mp ht
   have:=q2 z hz
   exact ⟨by show z.natAbs≤16384; omega,by show (0:Int).natAbs≤_; decide⟩
  ·rw [yy]
   exact jq hm q6 q5 (vf hn hL hp)
  ·exact ⟨qs,rfl,fun z hz=>(q3 hf z hz).1,vd (B:=30) (q3 hf) (by decide) (by decide) (by rw [q1]; exact hlf hf)⟩
  ·exact ⟨_,rfl,_,_,_,rfl,rfl,rfl,rfl,q _⟩
abbrev vE:Stmt:=top 74
theorem pZ:zi ["_law_way_here","_law_deed","_law_one","_law_other"] ["_law_way_here","_law_deed","_law_one","_law_other"] (defScope vE):=by walk_at "sc"
theorem ol (T:Txt K mg A) (G_plus:FOkX P w K mg base 8 "plus" (lE A)) (G_minus:FOkX P w K mg base 8 "minus" (eK A)) (G_times:FOkX P w K mg base 9 "times" (eo A)) (G_shared:DOkX P w K mg base 8 "shared" (eE A)) (F:Fun K "_law_done" "_law_done" vE f fd):FnOk P w K mg base (CX1 P w) 10 f fd ["_law_way_here","_law_deed","_law_one","_law_other"] (xD K (lK A)):=by
 refine dP F pZ (by walk_at "ln") fun _ _ _ _ _ _ hr ds Q R h rz=>?_
 obtain ⟨k,n,t,r,d,c,rfl,hn,hl,hd,ho⟩:=h
 refine ⟨_,(zf (zB (zr (yL hr) (dv 1) ze (zp _)) (zg (zl (DF.de (ui G_plus (hr.mono (by decide)) rfl (za (dv 0) (za (dv 2) (za (dv 3) zd))))))) zn)
 (zf (zB (zr (yL hr) (dv 1) ze (zp _)) (zg (zl (DF.de (ui G_minus (hr.mono (by decide)) rfl (za (dv 0) (za (dv 2) (za (dv 3) zd))))))) zn)
 (zf (zB (zr (yL hr) (dv 1) ze (zp _)) (zg (zl (DF.de (ui G_times (hr.mono (by decide)) rfl (za (dv 0) (za (dv 2) (za (dv 3) zd))))))) zn)
 (zg (zl (xT G_shared (hr.mono (by decide)) rfl (za (dv 0) (za (dv 2) (za (dv 3) zd))))))))),?_⟩
 rcases hd with ⟨s,rfl,hs,ht,hc⟩ | ⟨m,rfl,rfl,hc⟩
 ·have hc':(c=0∧(Legal k n r∧Legal k n s∧(t=1→s=r)∧(t=2→s=[1]))∧∀ d,Q d)∨(c=1∧(¬ Legal k n r∨¬ Legal k n s)∧R A.NoWriting):=by
   rcases hc with ⟨rfl,h⟩ | ⟨rfl,h⟩
   ·exact .inl ⟨rfl,h,ho⟩
   ·exact .inr ⟨rfl,h,ho⟩
  clear ho hc
  refine ⟨_,rfl,rfl,rfl,_,rfl,?_⟩
  rcases ht with rfl | rfl | rfl
  ·refine ifT rfl ⟨_,rfl,_,rfl,_,rfl,k,n,r,s,rfl,hn,by omega,by omega,?_⟩
   rcases hc' with ⟨_,⟨h1,h2,_⟩,q⟩ | ⟨_,h,hR⟩
   ·exact .inl ⟨h1,h2,fun r=>q _⟩
   ·exact .inr ⟨h,rz _ hR⟩
  ·refine ifF rfl ⟨_,rfl,rfl,rfl,_,rfl,ifT rfl ⟨_,rfl,_,rfl,_,rfl,k,n,r,s,rfl,hn,by omega,by omega,?_⟩⟩
   rcases hc' with ⟨_,⟨h1,h2,h3,_⟩,q⟩ | ⟨_,h,hR⟩
   ·exact .inl ⟨h1,h2,h3 rfl,fun r=>q _⟩
   ·exact .inr ⟨h,rz _ hR⟩
  ·refine ifF rfl ⟨_,rfl,rfl,rfl,_,rfl,ifF rfl ⟨_,rfl,rfl,rfl,_,rfl,ifT rfl ⟨_,rfl,_,rfl,_,rfl,k,n,r,s,rfl,hn,by omega,by omega,?_⟩⟩⟩
   rcases hc' with ⟨_,⟨h1,h2,_,h4⟩,q⟩ | ⟨_,h,hR⟩
   ·exact .inl ⟨h1,h2,h4 rfl,fun r=>q _⟩
   ·exact .inr ⟨h,rz _ hR⟩
 ·refine ⟨_,rfl,rfl,rfl,_,rfl,ifF rfl ⟨_,rfl,rfl,rfl,_,rfl,ifF rfl ⟨_,rfl,rfl,rfl,_,rfl,ifF rfl ⟨_,rfl,_,rfl,_,rfl,k,n,r,m,rfl,hn,by omega,?_⟩⟩⟩⟩
  rcases hc with ⟨h1,rfl⟩ | ⟨h1,h2,rfl⟩ | ⟨h1,h2,h3,rfl⟩ | ⟨h1,h2,h3,h4,rfl⟩
  ·exact .inl ⟨h1,rz _ ho⟩
  ·exact .inr (.inl ⟨h1,h2,rz _ ho⟩)
  ·exact .inr (.inr (.inl ⟨h1,h2,h3,rz _ ho⟩))
  ·exact .inr (.inr (.inr ⟨h1,h2,h3,h4,ho⟩))
abbrev xz:Stmt:=top 73
theorem sc_law_names:zi ["_law_e","_law_some"] ["_law_e"] (defScope xz):=by walk_at "sc"
theorem qL (T:Txt K mg A) (F:Fun K "_law_names" "_law_names" xz f fd):FnOk P w K mg base CX0 1 f fd ["_law_e"] (zq K (eJ A)):=by
 refine okD F sc_law_names (by walk_at "ln") fun _ _ _ _ _ _ hr ds Q h=>?_
 obtain ⟨C,rfl,hw⟩:=h
 refine ⟨_,(zf (zo (i:=1) sc_law_names.nd rfl (Or.inl rfl) (zE (za (zy (za zQ (za (yr T.isinstance T.ND (dv 0)) zd))) (za (zy (za zQ (za (yr T.isinstance T.NE (dv 0)) zd))) zd))))
 (zf (zo (i:=1) sc_law_names.nd rfl (Or.inl rfl) (zj vv (dv 1) (zE (za (zy (za zQ (za (yr T.isinstance T.Nq (dv 0)) zd))) (za (zy (za zQ (za (yr T.isinstance T.Nr (dv 0)) zd))) zd)))))
 (zf (zo (i:=1) sc_law_names.nd rfl (Or.inl rfl) (zj vv (dv 1) (zE (za (zy (za zQ (za (yr T.isinstance T.NG (dv 0)) zd))) (za (zy (za zQ (za (yr T.isinstance T.NH (dv 0)) zd))) zd)))))
 (zf (zo (i:=1) sc_law_names.nd rfl (Or.inl rfl) (zj vv (dv 1) (zE (za (zy (za zQ (za (yr T.isinstance T.Nt (dv 0)) zd))) (za (zy (za zQ (za (yr T.isinstance T.Nu (dv 0)) zd))) zd)))))
 (zf (zo (i:=1) sc_law_names.nd rfl (Or.inl rfl) (zj vv (dv 1) (zE (za (zy (za zQ (za (yr T.isinstance T.NI (dv 0)) zd))) (za (zy (za zQ (za (yr T.isinstance T.NJ (dv 0)) zd))) zd)))))
 (zf (zo (i:=1) sc_law_names.nd rfl (Or.inl rfl) (zj vv (dv 1) (zE (za (zy (za zQ (za (yr T.isinstance T.NK (dv 0)) zd))) (za (zy (za zQ (za (yr T.isinstance T.NL (dv 0)) zd))) zd)))))
 (zf (zo (i:=1) sc_law_names.nd rfl (Or.inl rfl) (zj vv (dv 1) (zE (za (zy (za zQ (za (fG (fJ T.isinstance T.n_ValueError (dv 0))) zd))) zd))))
 (zg (zl (DF.de (ra (L:=0) (osc:=defScope xz) (N0:=["_law_e","_law_some"]) (bs:=["_law_name","_law_truth"]) (caps:=[]) (js:=[]) rfl (by decide +kernel) rfl rfl rfl (lq (dv 1)) (fun _ _ _ _ _=>(qJ rfl (yY (ya (i:=0) (show List.Nodup [("_law_name":Str),("_law_truth":Str)] by decide +kernel) rfl (Or.inl (lookup_relabel_local rfl)) (.inl rfl)) (yY (ya (i:=1) (show List.Nodup [("_law_name":Str),("_law_truth":Str)] by decide +kernel) rfl (Or.inl (lookup_relabel_local rfl)) (.inl rfl)) tR)))) aH (fun _ _ _ _ _=>(V8 (z9 (dv 1)))) (fun _ _ _ _ _=>(dv 0))))))))))))),?_⟩
 rcases hw with ⟨rfl,q⟩ | ⟨rfl,q⟩ | ⟨rfl,q⟩
 ·repeat (first | (walk_at "rd1") | refine ⟨by decide,?_⟩ | refine ⟨_,_,rfl,T.R_,T.QU,?_⟩ | refine ⟨_,_,rfl,T.R_,T.QV,?_⟩ | refine ⟨_,_,rfl,T.R_,T.QW,?_⟩ | refine ⟨_,_,rfl,T.R_,T.QX,?_⟩ | refine ⟨_,_,rfl,T.R_,T.QY,?_⟩ | refine ⟨_,_,rfl,T.R_,T.QZ,?_⟩ | refine ⟨_,_,rfl,T.R_,T.Q0,?_⟩ | refine ⟨_,_,rfl,T.R_,T.Q2,?_⟩ | refine ⟨_,_,rfl,T.R_,T.Q3,?_⟩ | refine ⟨_,_,rfl,T.R_,T.Q4,?_⟩ | refine ⟨_,_,rfl,T.R_,T.Q5,?_⟩ | refine ⟨_,_,rfl,T.R_,T.Q6,?_⟩ | refine ⟨_,_,rfl,T.R_,T.Q7,?_⟩)
  exact vM (ρ:=[]) [(.ofString "NoWay",false),(.ofString "NoNumber",false),(.ofString "NoWriting",true),(.ofString "TooLess",false),(.ofString "NoRatio",false),(.ofString "NoFalling",false),(.ofString "NoPairs",false),(.ofString "Nought",false),(.ofString "NoSpan",false),(.ofString "NoTotal",false),(.ofString "NoText",false),(.ofString "NoRow",false),(.ofString "plain",false)] q
 ·repeat (first | (walk_at "rd1") | refine ⟨by decide,?_⟩ | refine ⟨_,_,rfl,T.Qa,T.Q_,?_⟩ | refine ⟨_,_,rfl,T.Qa,T.Pa,?_⟩ | refine ⟨_,_,rfl,T.Qa,T.Pb,?_⟩ | refine ⟨_,_,rfl,T.Qa,T.Pc,?_⟩ | refine ⟨_,_,rfl,T.Qa,T.Pd,?_⟩ | refine ⟨_,_,rfl,T.Qa,T.Pe,?_⟩ | refine ⟨_,_,rfl,T.Qa,T.Pf,?_⟩ | refine ⟨_,_,rfl,T.Qa,T.Pg,?_⟩ | refine ⟨_,_,rfl,T.Qa,T.Ph,?_⟩ | refine ⟨_,_,rfl,T.Qa,T.Pi,?_⟩ | refine ⟨_,_,rfl,T.Qa,T.Pj,?_⟩ | refine ⟨_,_,rfl,T.Qa,T.Pk,?_⟩ | refine ⟨_,_,rfl,T.Qa,T.Pl,?_⟩)
  exact vM (ρ:=[]) [(.ofString "NoWay",false),(.ofString "NoNumber",false),(.ofString "NoWriting",false),(.ofString "TooLess",false),(.ofString "NoRatio",false),(.ofString "NoFalling",false),(.ofString "NoPairs",true),(.ofString "Nought",false),(.ofString "NoSpan",false),(.ofString "NoTotal",false),(.ofString "NoText",false),(.ofString "NoRow",false),(.ofString "plain",false)] q
 ·repeat (first | (walk_at "rd1") | refine ⟨by decide,?_⟩ | refine ⟨_,_,rfl,T.Qb,T.Po,?_⟩ | refine ⟨_,_,rfl,T.Qb,T.Pp,?_⟩ | refine ⟨_,_,rfl,T.Qb,T.Pq,?_⟩ | refine ⟨_,_,rfl,T.Qb,T.Pr,?_⟩ | refine ⟨_,_,rfl,T.Qb,T.Ps,?_⟩ | refine ⟨_,_,rfl,T.Qb,T.Pt,?_⟩ | refine ⟨_,_,rfl,T.Qb,T.Pu,?_⟩ | refine ⟨_,_,rfl,T.Qb,T.Pw,?_⟩ | refine ⟨_,_,rfl,T.Qb,T.Px,?_⟩ | refine ⟨_,_,rfl,T.Qb,T.Py,?_⟩ | refine ⟨_,_,rfl,T.Qb,T.Pz,?_⟩ | refine ⟨_,_,rfl,T.Qb,T.PD,?_⟩ | refine ⟨_,_,rfl,T.Qb,T.PF,?_⟩)
  exact vM (ρ:=[]) [(.ofString "NoWay",false),(.ofString "NoNumber",false),(.ofString "NoWriting",false),(.ofString "TooLess",false),(.ofString "NoRatio",false),(.ofString "NoFalling",false),(.ofString "NoPairs",false),(.ofString "Nought",true),(.ofString "NoSpan",false),(.ofString "NoTotal",false),(.ofString "NoText",false),(.ofString "NoRow",false),(.ofString "plain",false)] q
abbrev uz:Stmt:=top 75
theorem sc_law_end:zi ["_law_way_here","_law_deed","_law_one","_law_other","_law_error","_law_e"] ["_law_way_here","_law_deed","_law_one","_law_other"] (defScope uz):=by walk_at "sc"
theorem nK (T:Txt K mg A) (G__law_done:DOkX P w K mg base 10 "_law_done" (lK A)) (G__law_names:DOk P w K mg base 1 "_law_names" (eJ A)) (F:Fun K "_law_end" "_law_end" uz f fd):FnOk P w K mg base CX0 11 f fd ["_law_way_here","_law_deed","_law_one","_law_other"] (zq K (eM A)):=by
 refine okD F sc_law_end (by walk_at "ln") fun _ _ _ _ _ _ hr ds Q h=>?_
 obtain ⟨k,n,t,r,d,c,rfl,hn,hl,hd,q⟩:=h
 refine ⟨_,(zf (zo (i:=4) sc_law_end.nd rfl (Or.inl rfl) fH)
 (zf (fo (j:=5) rfl rfl sc_law_end.nd rfl rfl G__law_done (hr.mono (by decide)) rfl (za (dv 0) (za (dv 1) (za (dv 2) (za (dv 3) zd)))) (fun _=>(zg (zo (i:=4) sc_law_end.nd rfl (Or.inl rfl) (dv 5)))) rfl T.NC)
 (zf (zB (fm (dv 4)) (zg (zl (zE zd))) zn)
 (zg (zl (zk G__law_names (hr.mono (by decide)) rfl (za (dv 4) zd))))))),?_⟩
 refine ⟨_,rfl,_,rfl,_,rfl,_,rfl,k,n,t,r,d,c,rfl,hn,hl,hd,?_⟩
 match c,q with
 | 0,q=>exact fun d=>⟨_,rfl,_,rfl,ifT rfl ⟨rfl,q⟩⟩
 | 1,q=>exact ⟨T.QT,by walk_at "rd"; exact .inl ⟨rfl,q⟩⟩
 | 2,q=>exact ⟨T.Q9,by walk_at "rd"; exact .inr (.inl ⟨rfl,q⟩)⟩
 | _+3,q=>exact ⟨T.Pn,by walk_at "rd"; exact .inr (.inr ⟨rfl,q⟩)⟩
abbrev sA:Stmt:=top 77
theorem sc_law:zi ["_law_script","_law_kind","_law_by","_law_way_here","_law_row","_law_mixed_here","_law_bad","_law_deed","_law_one","_law_other","_law_handed","_law_many","_law_due"] ["_law_script"] (defScope sA):=by walk_at "sc"
theorem YF (T:Txt K mg A) (G__law_pick:DOk P w K mg base 2 "_law_pick" (eI)) (G__law_cell_at:DOk P w K mg base 1 "_law_cell_at" (eN)) (G__law_way:DOk P w K mg base 5 "_law_way" (eh A)) (G__law_figures:DOk P w K mg base 2 "_law_figures" (lJ)) (G__law_mixed:DOk P w K mg base 1 "_law_mixed" (tV)) (G__law_spoilt:DOk P w K mg base 2 "_law_spoilt" (eA)) (G__law_end:DOk P w K mg base 11 "_law_end" (eM A)) (F:Fun K "law" "law" sA f fd):FnOk P w K mg base CX0 12 f fd ["_law_script"] (zq K (lH)):=by
 refine okD F sc_law (by walk_at "ln") fun _ _ _ _ _ _ hr ds Q h=>?_
 obtain ⟨ns,rfl,hns,q⟩:=h
 refine ⟨_,(zf (ma (i:=1) (j:=2) rfl sc_law.nd rfl rfl (Or.inl rfl) (Or.inl rfl) (zk G__law_pick (hr.mono (by decide)) rfl (za (zk G__law_cell_at (hr.mono (by decide)) rfl (za (dv 0) (za ze zd))) zd)))
 (zf (zo (i:=3) sc_law.nd rfl (Or.inl rfl) (zk G__law_way (hr.mono (by decide)) rfl (za (dv 1) (za (dv 2) zd))))
 (zf (zo (i:=4) sc_law.nd rfl (Or.inl rfl) (zk G__law_figures (hr.mono (by decide)) rfl (za (dv 1) (za (dv 2) (za (rb (dv 0) (tU ze) (tU ze)) zd)))))
 (zf (zo (i:=5) sc_law.nd rfl (Or.inl rfl) (zk G__law_mixed (hr.mono (by decide)) rfl (za (zk G__law_cell_at (hr.mono (by decide)) rfl (za (dv 0) (za ze zd))) zd)))
 (zf (zo (i:=6) sc_law.nd rfl (Or.inl rfl) (zk G__law_spoilt (hr.mono (by decide)) rfl (za (dv 1) (za (dv 2) (za (dv 4) (za (dv 5) zd))))))
 (zf (lf (j:=7) rfl sc_law.nd rfl (Or.inl rfl) PassesOwn.never rfl T.range ze (zf (lh (i:=8) (j:=9) rfl sc_law.nd rfl rfl (Or.inl rfl) (Or.inl rfl) PassesOwn.never (zE (za (zy (za (dv 6) (za (zE zd) zd))) (za (zy (za (zE zd) (za (dv 6) zd))) (za (zy (za (dv 6) (za (dv 6) zd))) zd)))) (zf (zo (i:=10) sc_law.nd rfl (Or.inl rfl) (zE (za (DF.de (xc rfl T.n_list (dv 8))) (za (DF.de (xc rfl T.n_list (dv 9))) zd))))
 (zg (zB (DW.dt (oQ (zr (kb hr) (zk G__law_end (hr.mono (by decide)) rfl (za (dv 3) (za (dv 7) (za (zC (dv 10) ze (fun _ _=>rfl)) (za (zC (dv 10) ze (fun _ _=>rfl)) zd))))) (zE (za zQ zd)) (zp _)) (pd (zr (kb hr) (dv 10) (zE (za (dv 8) (za (dv 9) zd))) (zp _))))) (zg (zl vy)) zn))))
 (zg (zB (zr (kb hr) (zk G__law_end (hr.mono (by decide)) rfl (za (dv 3) (za (dv 7) (za (DF.de (xc rfl T.n_list (dv 4))) (za (zC (zE (za (DF.de (xc rfl T.n_list (dv 4))) (za (DF.de (xc rfl T.n_list (dv 4))) (za (zE (za ze zd)) zd)))) (dv 7) (fun _ _=>rfl)) zd))))) (zE zd) (zp _)) (zg (zl vy)) zn))))
 (zf (zo (i:=11) sc_law.nd rfl (Or.inl rfl) (zC (zE (za ze (za ze (za (zR ze) (za (zj zU ze (zj yh (zj yI (dv 5) ze) ze)) (za (zj zS ze (dv 5)) (za ze zd))))))) (zj yh (zk G__law_mixed (hr.mono (by decide)) rfl (za (zk G__law_cell_at (hr.mono (by decide)) rfl (za (dv 0) (za ze zd))) zd)) ze) (fun _ _=>rfl)))
 (zf (md (j:=8) rfl sc_law.nd rfl (Or.inl rfl) PassesOwn.never (zE (za (dv 6) (za (dv 4) zd))) (zf (zo (i:=12) sc_law.nd rfl (Or.inl rfl) (zE zd))
 (z5 (zB (zr (sP) (dv 11) ze (zp _)) (zg (zo (i:=12) sc_law.nd rfl (Or.inl rfl) (zE (za zQ zd)))) zn)
 (z5 (zB (zr (yL hr) (dv 8) (dv 6) (zp _)) (zg (zo (i:=12) sc_law.nd rfl (Or.inl rfl) (zE (za zQ zd)))) zn)
 (z5 (zB (zr (yL hr) (dv 1) ze (zp _)) (zg (zo (i:=12) sc_law.nd rfl (Or.inl rfl) (zE (za zQ zd)))) zn)
 (zg (zB (zr (kb hr) (zk G__law_end (hr.mono (by decide)) rfl (za (dv 3) (za ze (za (DF.de (xc rfl T.n_list (dv 8))) (za (dv 11) zd))))) (dv 12) (zp _)) (zg (zl vy)) zn)))))))
 (zg (zl vy)))))))))),?_⟩
 refine ⟨_,rfl,ns,_,rfl,by decide,fun z0=>⟨_,rfl,fun k n hn=>⟨_,_,rfl,?_⟩⟩⟩
 refine ⟨_,rfl,_,rfl,k,n,rfl,hn,?_⟩
 obtain ⟨cs,ecs,lcs,_⟩:=fP ns (some 3) (some 63)
 walk_at "rd"
 rw [ecs]
 refine ⟨k,n,cs,rfl,hn,by omega,fun r hL hl=>?_⟩
 refine ⟨_,rfl,ns,_,rfl,by decide,fun z1=>⟨_,rfl,fun mx hmx=>?_⟩⟩
 refine ⟨_,rfl,_,rfl,_,rfl,_,rfl,k,n,r,mx,rfl,hn,by omega,hmx,fun b hb lb=>?_⟩
 refine ⟨_,fun i ρ=>∃ v7 v8 v9 v10,ρ=[.some (.scr ns),.some (.int k.num),.some (.int n),.some (zF A k n),.some (zt r),.some (.int mx),.some (zt b),v7,v8,v9,v10,.none,.none],rfl,by decide,by decide,⟨_,_,_,_,rfl⟩,?_,?_⟩
 ·rintro i ρ' hi ⟨v7,v8,v9,v10,rfl⟩
  have hi:i<3:=hi
  walk_at "rd"
  refine ⟨_,fun _ ρ=>∃ v8 v9 v10,ρ=[.some (.scr ns),.some (.int k.num),.some (.int n),.some (zF A k n),.some (zt r),.some (.int mx),.some (zt b),.some (.int i),v8,v9,v10,.none,.none],rfl,⟨_,_,_,rfl⟩,?_,?_⟩
  ·rintro j e ρ' he ⟨v8,v9,v10,rfl⟩
   obtain ⟨u,v,rfl,lu,lv,hu⟩:∃ u v:List Int,e=.tup [zt u,zt v]∧u.length≤100∧v.length≤100∧(¬ Legal k n u∨¬ Legal k n v):=by
    match j,he with
    | 0,he=>exact ⟨b,[],(Option.some.inj he).symm,lb,by decide,.inl hb⟩
    | 1,he=>exact ⟨[],b,(Option.some.inj he).symm,by decide,lb,.inr hb⟩
    | 2,he=>exact ⟨b,b,(Option.some.inj he).symm,lb,lb,.inl hb⟩
    | j+3,he=>cases he
   refine ⟨zt u,zt v,rfl,?_⟩
   have ok2:okE 40 (.lst [zt u,zt v])=true:=by
    show (okE 39 (zt u) && (okE 39 (zt v) && true))=true
    rw [ot,ot]
    rfl
   walk_at "rd"
   refine ⟨k,n,i,u,zt v,1,rfl,hn,lu,.inl ⟨v,rfl,lv,by omega,.inr ⟨rfl,hu⟩⟩,?_⟩
   walk_at "rd"
   refine ⟨ok2,ok2,_,rfl,ifF (nT (s8 40 ok2)) ⟨_,_,_,rfl⟩⟩
  ·rintro ρ' ⟨v8,v9,v10,rfl⟩
   obtain ⟨s,es,ls,hs,hs1,hs2⟩:∃ s:List Int,atI [zt r,zt r,zt [1]] (i:Int)=some (zt s)∧s.length≤100∧Legal k n s∧((i:Int)=1→s=r)∧((i:Int)=2→s=[1]):=by
    match i,hi with
    | 0,_=>exact ⟨r,rfl,by omega,hL,fun z=>absurd z (by decide),fun z=>absurd z (by decide)⟩
    | 1,_=>exact ⟨r,rfl,by omega,hL,fun _=>rfl,fun z=>absurd z (by decide)⟩
    | 2,_=>exact ⟨[1],rfl,by decide,ky hn,fun z=>absurd z (by decide),fun _=>rfl⟩
   walk_at "rd"
   refine ⟨_,_,_,rfl,rfl,es,k,n,i,r,zt s,0,rfl,hn,by omega,.inl ⟨s,rfl,ls,by omega,.inl ⟨rfl,hL,hs,hs1,hs2⟩⟩,?_⟩
   refine ⟨rfl,rfl,rfl,_,rfl,ifF (nT (s8 40 (qT 0))) ⟨_,_,_,_,rfl⟩⟩
 rintro ρ' ⟨v7,v8,v9,v10,rfl⟩
 walk_at "rd"
 refine ⟨by decide,fun z2=>⟨_,rfl,fun my hmy=>?_⟩⟩
 obtain ⟨m,em,hm⟩:=Z9 (a:=1) (b:=0) (c:=-1) (d:=1+(mx.fdiv 8).fmod 50) (e:=0 - mx) (f:=2) (z:=my) (fun m=>m<1∨(1≤m∧m.natAbs≤50)) ⟨.inr (by decide),.inl (by decide),.inl (by decide),by
  have b0:=Int.fmod_nonneg_of_pos (mx.fdiv 8) (show (0:Int)<50 by decide)
  have b1:=Int.fmod_lt_of_pos (mx.fdiv 8) (show (0:Int)<50 by decide)
  exact .inr (by omega),.inl (by omega),.inr (by decide)⟩
 walk_at "rd"
 refine ⟨_,_,_,rfl,rfl,em,?_⟩
 walk_at "rd"
 refine ⟨_,fun _ ρ=>∃ v8 v12,ρ=[.some (.scr ns),.some (.int k.num),.some (.int n),.some (zF A k n),.some (zt r),.some (.int mx),.some (zt b),v7,v8,v9,v10,.some (.int m),v12],rfl,⟨_,_,rfl⟩,?_,?_⟩
 ·rintro j e ρ' he ⟨v8,v12,rfl⟩
  obtain ⟨u,rfl,lu,hu⟩:∃ u:List Int,e=zt u∧u.length≤100∧(Legal k n u↔u≠b):=by
   match j,he with
   | 0,he=>exact ⟨b,(Option.some.inj he).symm,lb,fun z=>absurd z hb,fun z=>absurd rfl z⟩
   | 1,he=>exact ⟨r,(Option.some.inj he).symm,by omega,fun _ z=>hb (z ▸ hL),fun _=>hL⟩
   | j+2,he=>cases he
  refine ⟨rfl,fun ρ=>ρ=[.some (.scr ns),.some (.int k.num),.some (.int n),.some (zF A k n),.some (zt r),.some (.int mx),.some (zt b),v7,.some (zt u),v9,v10,.some (.int m),.some (nms (if m<1 then 3 else 0))],?_,?_⟩
  ·refine ⟨_,rfl,_,_,rfl,rfl,_,rfl,ifB (fun h=>⟨rfl,?_⟩) (fun h=>?_)⟩
   ·rw [if_pos (of_decide_eq_true h)]; rfl
   ·rw [if_neg (of_decide_eq_false h)]; rfl
  rintro ρ rfl
  generalize hc1:(if m<1 then 3 else 0)=c1
  refine ⟨fun ρ=>ρ=[.some (.scr ns),.some (.int k.num),.some (.int n),.some (zF A k n),.some (zt r),.some (.int mx),.some (zt b),v7,.some (zt u),v9,v10,.some (.int m),.some (nms (if u=b then 1 else c1))],?_,?_⟩
  ·refine ⟨_,rfl,_,rfl,mV u,mV b,_,rfl,?_⟩
   rw [fg]
   refine ifB (fun h=>⟨rfl,?_⟩) (fun h=>?_)
   ·rw [if_pos (of_decide_eq_true h)]; rfl
   ·rw [if_neg (of_decide_eq_false h)]; rfl
  rintro ρ rfl
  generalize hc2:(if u=b then 1 else c1)=c2
  refine ⟨fun ρ=>ρ=[.some (.scr ns),.some (.int k.num),.some (.int n),.some (zF A k n),.some (zt r),.some (.int mx),.some (zt b),v7,.some (zt u),v9,v10,.some (.int m),.some (nms (prz k c2))],?_,?_⟩
  ·refine ⟨_,rfl,rfl,rfl,_,rfl,?_⟩
   by_cases hk:k=.pairs
   ·subst hk
    exact ifT rfl ⟨rfl,rfl⟩
   ·refine ifF (by cases k <;> first | rfl | exact absurd rfl hk) ?_
    rw [Zz hk]; rfl
  rintro ρ rfl
  generalize hc3:prz k c2=c3
  have hdue:Due k n 3 u (.int m) c3:=by
   refine .inr ⟨m,rfl,rfl,?_⟩
   by_cases hk:k=.pairs
   ·subst hk
    exact .inl ⟨rfl,hc3.symm⟩
   rw [Zz hk] at hc3
   by_cases hub:u=b
   ·rw [if_pos hub] at hc2
    exact .inr (.inl ⟨hk,fun z=>hu.mp z hub,by rw [← hc3,← hc2]⟩)
   rw [if_neg hub] at hc2
   rcases hm with hm | ⟨hm,hm2⟩
   ·rw [if_pos hm] at hc1
    exact .inr (.inr (.inl ⟨hk,hu.mpr hub,hm,by rw [← hc3,← hc2,hc1]⟩))
   ·rw [if_neg (by omega)] at hc1
    exact .inr (.inr (.inr ⟨hk,hu.mpr hub,hm,Nat.lt_of_le_of_lt hm2 (Nat.lt_of_lt_of_le (show 50<2 ^ 6 by decide) (Nat.pow_le_pow_right (by decide) (by decide))),by rw [← hc3,← hc2,hc1]⟩))
  walk_at "rd"
  refine ⟨k,n,3,u,.int m,c3,rfl,hn,lu,hdue,?_⟩
  refine ⟨_,rfl,qT c3,qT c3,_,rfl,ifF (nT (s8 40 (qT c3))) ⟨_,_,rfl⟩⟩
 ·rintro ρ' ⟨v8,v12,rfl⟩
  exact q
end
def BA (n q:Str) (st:Stmt) (ps:List Str) (us:List Value):Prop:=∀ (kV doc pm:Value) (an:Option Addr) (cdv ct:Value),bindArgs (PySem.W.fnOf n q (defArgs st) (defBody st) (defScope st) .none kV doc pm an cdv ct) ⟨us,[]⟩=pure (ps.zip us)
def BZ (n q:Str) (st:Stmt) (ps:List Str):Prop:=∀ us:List Value,us.length=ps.length→BA n q st ps us
theorem bz1 {n q:Str} {st:Stmt} {ps:List Str} (hl:ps.length=1) (h:∀ u0:Value,BA n q st ps [u0]):BZ n q st ps:=fun us e=>match us,e.trans hl with | [_],_=>h _
theorem bz2 {n q:Str} {st:Stmt} {ps:List Str} (hl:ps.length=2) (h:∀ u0 u1:Value,BA n q st ps [u0,u1]):BZ n q st ps:=fun us e=>match us,e.trans hl with | [_,_],_=>h _ _
theorem bz3 {n q:Str} {st:Stmt} {ps:List Str} (hl:ps.length=3) (h:∀ u0 u1 u2:Value,BA n q st ps [u0,u1,u2]):BZ n q st ps:=fun us e=>match us,e.trans hl with | [_,_,_],_=>h _ _ _
theorem bz4 {n q:Str} {st:Stmt} {ps:List Str} (hl:ps.length=4) (h:∀ u0 u1 u2 u3:Value,BA n q st ps [u0,u1,u2,u3]):BZ n q st ps:=fun us e=>match us,e.trans hl with | [_,_,_,_],_=>h _ _ _ _
section
variable (K:PySem.W.Frag)
def FX (n q:Str) (st:Stmt) (f:Addr):Prop:=∃ oc od kV dc pm an cd ct sl,K.lookup f=some ⟨oc,od,.func (PySem.W.fnOf n q (defArgs st) (defBody st) (defScope st) .none kV dc pm an cd ct),sl⟩∧PySem.W.codeIn K cd q=true∧PySem.W.keepIn K (.ref f)=true
def FD (n:Str) (st:Stmt) (f:Addr):Prop:=PySem.W.nsIn K mainGlobals n=some (some (.ref f))∧FX K n n st f
def FM (n q:Str) (st:Stmt) (f:Addr):Prop:=PySem.W.isFn K (.ref f)=true∧FX K n q st f
def Fi (C:Addr) (n:Str) (f:Addr):Prop:=PySem.W.findIn K (.ref C) n=some (some (.ref f))
def Ki (C D:Addr) (b:Bool):Prop:=PySem.W.kitOne K (.ref C) (.ref D)=some b
def Gc (n:Str) (C:Addr):Prop:=PySem.W.nsIn K mainGlobals n=some (some (.ref C))
def Zn (n:Str):Prop:=PySem.W.nsIn K mainGlobals n=some none
structure ClR (C:Addr) (x:Str):Prop where
 cls:Cls K C
 mks:PySem.W.makesIn K C=true
 kc:PySem.W.keepIn K (.ref C)=true
 na:PySem.W.findIn K (.ref C) x=some none
structure IR (C:Addr):Prop where
 ia:PySem.W.findIn K (.ref C) "__class__"=some (some (.builtin "object.__class__"))
 im:PySem.W.mroIn K C (.type "object")=some true
variable {K} {n q:Str} {st:Stmt} {f:Addr}
theorem FX.mk {oc od kV dc pm an cd ct sl} (l:K.lookup f=some ⟨oc,od,.func (PySem.W.fnOf n q (defArgs st) (defBody st) (defScope st) .none kV dc pm an cd ct),sl⟩) (c:PySem.W.codeIn K cd q=true) (k:PySem.W.keepIn K (.ref f)=true):FX K n q st f:=⟨_,_,_,_,_,_,_,_,_,l,c,k⟩
theorem FX.get (r:FX K n q st f) (ps:List Str) (h:BZ n q st ps):∃ fd,Fun K n q st f fd∧Binds K fd ps []:=
 let ⟨_,_,_,_,_,_,_,_,_,l,c,k⟩:=r; ⟨_,n6 l c k,(n6 l c k).binds fun a b c d e f us z=>h us z a b c d e f⟩
theorem FD.get (r:FD K n st f) {h:Heap} {mg:Str→Option Value} (X:K.In h) (G:h.Ns mainGlobals mg) (ps:List Str) (h:BZ n n st ps):∃ fd,mg n=some (.ref f)∧Fun K n n st f fd∧Binds K fd ps []:=
 let ⟨fd,F,b⟩:=r.2.get ps h; ⟨fd,PySem.W.mg_of X G r.1,F,b⟩
theorem mkr (l:PySem.W.OpenLaw) (w:World) (base:Heap) {mg:Str→Option Value} {C:Addr} {k:Nat} {fd:FuncData} {ps:List Str} {S:DSp} (c:Cls K C) (a:Fi K C n f) (r:FM K n q st f) (F:Fun K n q st f fd) (b:Binds K fd ps []) (o:FnOk l.prog w K mg base CX0 k f fd ps (zq K S)):MOk l.prog w K mg base k C n S:=.mk c ⟨_,_,_,⟨a,r.1,F.kp⟩,b,o⟩
theorem FM.get (r:FM K n q st f) (ps:List Str) (h:BZ n q st ps):∃ fd,Fun K n q st f fd∧Binds K fd ps []:=r.2.get ps h
end
theorem all_mk {l:PySem.W.OpenLaw} {w:World} {K:PySem.W.Frag} {h:Heap} {mg:Str→Option Value} {fa:Addr} (X:K.In h) (G:h.Ns mainGlobals mg) (hfa:mg "law"=some (.ref fa))
 {Qg Qh Qi Qj Qc R9 Ql Qy Qz R4 R5 QA QB R6 R7 QC QD QE QF f1 f2 f3 f4 f5 f6 f7 f8 f9 f10 f11 f12 f13 f14 f15 f16 f17 f18 f19 f20 f21 f22 f23 f24 f25 f26 f27 f28 f29 f30 f31 f32 f33 f34 f35 f36 f37 f38 f39 f40 f41 f42 f43 f44 f45 f46 f47 f48 f49 f50 f51 f52 f53 f54 f55 f56 f57 f58 f59 f60 f61 f62 f63 f64 f65 f66 f67 f68 f69 f70 f71 f72:Addr}
 (Os:Gc K "Plain" Qg)
 (Ot:Gc K "Below" Qh)
 (Ou:Gc K "Balanced" Qi)
 (Ov:Gc K "Growing" Qj)
 (P9:Gc K "Falling" Qc)
 (Oa:Gc K "Pairs" R9)
 (Ow:Gc K "OddError" Ql)
 (Ox:Gc K "NoWay" Qy)
 (Oy:Gc K "NoNumber" Qz)
 (Oz:Gc K "NoWriting" R4)
 (OA:Gc K "TooLess" R5)
 (OB:Gc K "NoRatio" QA)
 (OC:Gc K "NoFalling" QB)
 (OE:Gc K "NoPairs" R6)
 (OF:Gc K "Nought" R7)
 (OG:Gc K "NoSpan" QC)
 (OH:Gc K "NoTotal" QD)
 (OI:Gc K "NoText" QE)
 (OJ:Gc K "NoRow" QF)
 (r1:FD K "_law_mixed" wI f1)
 (r2:FD K "_law_pick" vC f2)
 (r3:FD K "_law_cell_at" xG f3)
 (r4:FD K "is_whole" vF f4)
 (r5:FD K "bounded" uC f5)
 (OK:Fi K Qg "__init__" f6)
 (r6:FM K "__init__" "Plain.__init__" y8 f6)
 (OL:Fi K Qh "__init__" f7)
 (r7:FM K "__init__" "Below.__init__" y_ f7)
 (OM:Fi K Qi "__init__" f8)
 (r8:FM K "__init__" "Balanced.__init__" yq f8)
 (ON:Fi K Qj "__init__" f9)
 (r9:FM K "__init__" "Growing.__init__" yE f9)
 (OO:Fi K Qc "__init__" f10)
 (r10:FM K "__init__" "Falling.__init__" yF f10)
 (OP:Fi K R9 "__init__" f11)
 (r11:FM K "__init__" "Pairs.__init__" y9 f11)
 (r12:FD K "_law_way" uy f12)
 (r13:FD K "_law_span" vB f13)
 (r14:FD K "_law_figures" xF f14)
 (r15:FD K "_law_spoilt" x8 f15)
 (r16:FD K "has_mosts_above_noughts_alone" zK f16)
 (OQ:Fi K Qg "low" f17)
 (OR:Fi K Qh "low" f17)
 (OS:Fi K Qj "low" f17)
 (OT:Fi K Qc "low" f17)
 (OU:Fi K R9 "low" f17)
 (r17:FM K "low" "Way.low" uE f17)
 (OV:Fi K Qi "low" f18)
 (r18:FM K "low" "Balanced.low" xo f18)
 (OW:Fi K Qg "high" f19)
 (r19:FM K "high" "Plain.high" wa f19)
 (OX:Fi K Qh "high" f20)
 (r20:FM K "high" "Below.high" wc f20)
 (OY:Fi K Qi "high" f21)
 (r21:FM K "high" "Balanced.high" y1 f21)
 (OZ:Fi K Qj "high" f22)
 (r22:FM K "high" "Growing.high" xm f22)
 (O0:Fi K Qc "high" f23)
 (r23:FM K "high" "Falling.high" xn f23)
 (O1:Fi K R9 "high" f24)
 (r24:FM K "high" "Pairs.high" wb f24)
 (r25:FD K "has_figures_alone" yk f25)
 (r26:FD K "is_writing" x9 f26)
 (r27:FD K "held_to_be_writings" z7 f27)
 (r28:FD K "held_to_be_a_heap" yj f28)
 (r29:FD K "step_at" uw f29)
 (r30:FD K "how_often" wJ f30)
 (r31:FD K "changes" uB f31)
 (r32:FD K "do_steps" vG f32)
 (r33:FD K "trimmed" uv f33)
 (r34:FD K "steps_and_writing" yi f34)
 (r35:FD K "fallen" sB f35)
 (r36:FD K "as_pair" uD f36)
 (r37:FD K "added" qE f37)
 (r38:FD K "thing_at" vA f38)
 (O2:Fi K Qg "nought" f39)
 (O3:Fi K Qh "nought" f39)
 (O4:Fi K Qi "nought" f39)
 (O5:Fi K Qj "nought" f39)
 (O6:Fi K Qc "nought" f39)
 (r39:FM K "nought" "Way.nought" x_ f39)
 (O7:Fi K R9 "nought" f40)
 (r40:FM K "nought" "Pairs.nought" xl f40)
 (O8:Fi K Qg "has" f41)
 (O9:Fi K Qj "has" f41)
 (O_:Fi K Qc "has" f41)
 (r41:FM K "has" "Way.has" uF f41)
 (Na:Fi K Qh "has" f42)
 (r42:FM K "has" "Below.has" wM f42)
 (Nb:Fi K Qi "has" f43)
 (r43:FM K "has" "Balanced.has" xp f43)
 (r44:FD K "is_pair" uA f44)
 (Nc:Fi K R9 "has" f45)
 (r45:FM K "has" "Pairs.has" wL f45)
 (Nd:Fi K Qg "ratio" f46)
 (r46:FM K "ratio" "Plain.ratio" xH f46)
 (Nf:Fi K Qh "ratio" f47)
 (r47:FM K "ratio" "Below.ratio" xK f47)
 (Ng:Fi K Qi "ratio" f48)
 (r48:FM K "ratio" "Balanced.ratio" yP f48)
 (Nh:Fi K Qj "ratio" f49)
 (r49:FM K "ratio" "Growing.ratio" y0 f49)
 (Ni:Fi K R9 "ratio" f50)
 (r50:FM K "ratio" "Pairs.ratio" xJ f50)
 (Nj:Fi K Qg "split" f51)
 (Nk:Fi K Qh "split" f51)
 (Nl:Fi K Qi "split" f51)
 (Nn:Fi K Qj "split" f51)
 (r51:FM K "split" "Way.split" wK f51)
 (r52:FD K "multiplied" x6 f52)
 (No:Fi K R9 "split" f53)
 (r53:FM K "split" "Pairs.split" xI f53)
 (r54:FD K "figures_and_carries" z8 f54)
 (r55:FD K "settled" ux f55)
 (r56:FD K "written_row" xE f56)
 (r57:FD K "row_plus" xZ f57)
 (r58:FD K "plus" nC f58)
 (r59:FD K "row_times" xy f59)
 (r60:FD K "without_debts" yZ f60)
 (r61:FD K "minus" qD f61)
 (r62:FD K "times_in_falling" yu f62)
 (r63:FD K "times_by_ratio" yO f63)
 (r64:FD K "times" qC f64)
 (r65:FD K "quotients_in_falling" z4 f65)
 (r66:FD K "quotients_by_ratio" yd f66)
 (r67:FD K "quotients_and_rest" ye f67)
 (r68:FD K "shared" sy f68)
 (r69:FD K "_law_done" vE f69)
 (r70:FD K "_law_names" xz f70)
 (r71:FD K "_law_end" uz f71)
 (r72:FD K "law" sA f72)
 (Qr:ClR K Qg "base")
 (Qs:ClR K Qh "base")
 (Qt:ClR K Qi "half")
 (Qu:ClR K Qj "first")
 (Qv:ClR K Qc "most")
 (Qw:ClR K R9 "most")
 (Ob:IR K Qg)
 (QG:Ki K Qg Qc false)
 (QH:Ki K Qg R9 false)
 (Oc:IR K Qh)
 (QI:Ki K Qh Qc false)
 (QJ:Ki K Qh R9 false)
 (Od:IR K Qi)
 (QK:Ki K Qi Qc false)
 (QL:Ki K Qi R9 false)
 (Oe:IR K Qj)
 (QM:Ki K Qj Qc false)
 (QN:Ki K Qj R9 false)
 (Of:IR K Qc)
 (Qx:Ki K Qc Qc true)
 (QO:Ki K Qc R9 false)
 (Og:IR K R9)
 (QP:Ki K R9 Qc false)
 (QQ:Ki K R9 R9 true)
 (in_:PySem.W.specialIn K (.builtin "object.__class__") "__get__"=some (some (.builtin "getset_descriptor.__get__")))
 (it_:PySem.W.takesIn K (.builtin "object.__class__")=some true)
 (QR:ExcK K R5)
 (PK:wz K R5)
 (PL:PySem.W.exmOne K (.ref R5) (.ref Ql)=some true)
 (PM:Ki K R5 Ql true)
 (PN:Ki K R5 Qy false)
 (PP:Ki K R5 Qz false)
 (PQ:Ki K R5 R4 false)
 (PR:Ki K R5 R5 true)
 (PU:Ki K R5 QA false)
 (PV:Ki K R5 QB false)
 (PX:Ki K R5 R6 false)
 (PY:Ki K R5 R7 false)
 (PZ:Ki K R5 QC false)
 (P0:Ki K R5 QD false)
 (P3:Ki K R5 QE false)
 (P4:Ki K R5 QF false)
 (P5:PySem.W.kitOne K (.ref R5) (.type "ValueError")=some true)
 (QS:ExcK K R4)
 (R_:wz K R4)
 (QT:PySem.W.exmOne K (.ref R4) (.ref Ql)=some true)
 (P6:Ki K R4 Ql true)
 (QU:Ki K R4 Qy false)
 (QV:Ki K R4 Qz false)
 (QW:Ki K R4 R4 true)
 (QX:Ki K R4 R5 false)
 (QY:Ki K R4 QA false)
 (QZ:Ki K R4 QB false)
 (Q0:Ki K R4 R6 false)
 (Q2:Ki K R4 R7 false)
 (Q3:Ki K R4 QC false)
 (Q4:Ki K R4 QD false)
 (Q5:Ki K R4 QE false)
 (Q6:Ki K R4 QF false)
 (Q7:PySem.W.kitOne K (.ref R4) (.type "ValueError")=some true)
 (Q8:ExcK K R6)
 (Qa:wz K R6)
 (Q9:PySem.W.exmOne K (.ref R6) (.ref Ql)=some true)
 (P7:Ki K R6 Ql true)
 (Q_:Ki K R6 Qy false)
 (Pa:Ki K R6 Qz false)
 (Pb:Ki K R6 R4 false)
 (Pc:Ki K R6 R5 false)
 (Pd:Ki K R6 QA false)
 (Pe:Ki K R6 QB false)
 (Pf:Ki K R6 R6 true)
 (Pg:Ki K R6 R7 false)
 (Ph:Ki K R6 QC false)
 (Pi:Ki K R6 QD false)
 (Pj:Ki K R6 QE false)
 (Pk:Ki K R6 QF false)
 (Pl:PySem.W.kitOne K (.ref R6) (.type "ValueError")=some true)
 (Pm:ExcK K R7)
 (Qb:wz K R7)
 (Pn:PySem.W.exmOne K (.ref R7) (.ref Ql)=some true)
 (P8:Ki K R7 Ql true)
 (Po:Ki K R7 Qy false)
 (Pp:Ki K R7 Qz false)
 (Pq:Ki K R7 R4 false)
 (Pr:Ki K R7 R5 false)
 (Ps:Ki K R7 QA false)
 (Pt:Ki K R7 QB false)
 (Pu:Ki K R7 R6 false)
 (Pw:Ki K R7 R7 true)
 (Px:Ki K R7 QC false)
 (Py:Ki K R7 QD false)
 (Pz:Ki K R7 QE false)
 (PD:Ki K R7 QF false)
 (PF:PySem.W.kitOne K (.ref R7) (.type "ValueError")=some true)
 (z_isinstance:Zn K "isinstance")
 (z_int:Zn K "int")
 (z_bool:Zn K "bool")
 (z_tuple:Zn K "tuple")
 (z_list:Zn K "list")
 (z_len:Zn K "len")
 (z_range:Zn K "range")
 (z_enumerate:Zn K "enumerate")
 (z_min:Zn K "min")
 (z_max:Zn K "max")
 (z_ValueError:Zn K "ValueError"):
 ∃ fd:FuncData,(∀ (s:Shared) (v:Value),BindsTo s fd ⟨[v],[]⟩ [("_law_script",v)])∧∀ base:Heap,K.In base→base.Ns mainGlobals mg→FnOk l.prog w K mg base CX0 12 fa fd ["_law_script"] (zq K (lH)):=by
 have mn {n:Str} (z:Zn K n):=PySem.W.mg_none_of X G z
 have mo {n:Str} {C:Addr} (z:Gc K n C):=PySem.W.mg_of X G z
 let A:Adr:=⟨Qg,Qh,Qi,Qj,Qc,R9,Ql,Qy,Qz,R4,R5,QA,QB,R6,R7,QC,QD,QE,QF⟩
 have T:Txt K mg A:=⟨Rw K,mn z_isinstance,mn z_int,mn z_bool,mn z_tuple,mn z_list,mn z_len,mn z_range,mn z_enumerate,mn z_min,mn z_max,mn z_ValueError,Qr.cls,Qr.na,Qs.cls,Qs.na,Qt.cls,Qt.na,Qu.cls,Qu.na,Qv.cls,Qv.na,Qw.cls,Qw.na,mo P9,mo Oa,⟨Qr.cls,Ob.1,in_,it_,Ob.2⟩,QG,QH,⟨Qs.cls,Oc.1,in_,it_,Oc.2⟩,QI,QJ,⟨Qt.cls,Od.1,in_,it_,Od.2⟩,QK,QL,⟨Qu.cls,Oe.1,in_,it_,Oe.2⟩,QM,QN,⟨Qv.cls,Of.1,in_,it_,Of.2⟩,Qx,QO,⟨Qw.cls,Og.1,in_,it_,Og.2⟩,QP,QQ,mo Ow,mo Ox,mo Oy,mo Oz,mo OA,mo OB,mo OC,mo OE,mo OF,mo OG,mo OH,mo OI,mo OJ,QR,PK,PL,PM,PN,PP,PQ,PR,PU,PV,PX,PY,PZ,P0,P3,P4,P5,QS,R_,QT,P6,QU,QV,QW,QX,QY,QZ,Q0,Q2,Q3,Q4,Q5,Q6,Q7,Q8,Qa,Q9,P7,Q_,Pa,Pb,Pc,Pd,Pe,Pf,Pg,Ph,Pi,Pj,Pk,Pl,Pm,Qb,Pn,P8,Po,Pp,Pq,Pr,Ps,Pt,Pu,Pw,Px,Py,Pz,PD,PF⟩
 obtain ⟨_,m1,F1,b1⟩:=r1.get X G ["_law_cell"] (bz1 rfl fun _ _ _ _ _ _ _=>rfl)
 obtain ⟨_,m2,F2,b2⟩:=r2.get X G ["_law_cell"] (bz1 rfl fun _ _ _ _ _ _ _=>rfl)
 obtain ⟨_,m3,F3,b3⟩:=r3.get X G ["_law_script","_law_k"] (bz2 rfl fun _ _ _ _ _ _ _ _=>rfl)
 obtain ⟨_,m4,F4,b4⟩:=r4.get X G ["value"] (bz1 rfl fun _ _ _ _ _ _ _=>rfl)
 obtain ⟨_,m5,F5,b5⟩:=r5.get X G ["number","least","most"] (bz3 rfl fun _ _ _ _ _ _ _ _ _=>rfl)
 obtain ⟨_,F6,b6⟩:=r6.get ["self","base"] (bz2 rfl fun _ _ _ _ _ _ _ _=>rfl)
 obtain ⟨_,F7,b7⟩:=r7.get ["self","base"] (bz2 rfl fun _ _ _ _ _ _ _ _=>rfl)
 obtain ⟨_,F8,b8⟩:=r8.get ["self","half"] (bz2 rfl fun _ _ _ _ _ _ _ _=>rfl)
 obtain ⟨_,F9,b9⟩:=r9.get ["self","first"] (bz2 rfl fun _ _ _ _ _ _ _ _=>rfl)
 obtain ⟨_,F10,b10⟩:=r10.get ["self","most"] (bz2 rfl fun _ _ _ _ _ _ _ _=>rfl)
 obtain ⟨_,F11,b11⟩:=r11.get ["self","most"] (bz2 rfl fun _ _ _ _ _ _ _ _=>rfl)
 obtain ⟨_,m12,F12,b12⟩:=r12.get X G ["_law_kind","_law_by"] (bz2 rfl fun _ _ _ _ _ _ _ _=>rfl)
 obtain ⟨_,m13,F13,b13⟩:=r13.get X G ["_law_kind","_law_by","_law_place"] (bz3 rfl fun _ _ _ _ _ _ _ _ _=>rfl)
 obtain ⟨_,m14,F14,b14⟩:=r14.get X G ["_law_kind","_law_by","_law_cells"] (bz3 rfl fun _ _ _ _ _ _ _ _ _=>rfl)
 obtain ⟨_,m15,F15,b15⟩:=r15.get X G ["_law_kind","_law_by","_law_row","_law_mixed_here"] (bz4 rfl fun _ _ _ _ _ _ _ _ _ _=>rfl)
 obtain ⟨_,m16,F16,b16⟩:=r16.get X G ["way","row"] (bz2 rfl fun _ _ _ _ _ _ _ _=>rfl)
 obtain ⟨_,F17,b17⟩:=r17.get ["self","place"] (bz2 rfl fun _ _ _ _ _ _ _ _=>rfl)
 obtain ⟨_,F18,b18⟩:=r18.get ["self","place"] (bz2 rfl fun _ _ _ _ _ _ _ _=>rfl)
 obtain ⟨_,F19,b19⟩:=r19.get ["self","place"] (bz2 rfl fun _ _ _ _ _ _ _ _=>rfl)
 obtain ⟨_,F20,b20⟩:=r20.get ["self","place"] (bz2 rfl fun _ _ _ _ _ _ _ _=>rfl)
 obtain ⟨_,F21,b21⟩:=r21.get ["self","place"] (bz2 rfl fun _ _ _ _ _ _ _ _=>rfl)
 obtain ⟨_,F22,b22⟩:=r22.get ["self","place"] (bz2 rfl fun _ _ _ _ _ _ _ _=>rfl)
 obtain ⟨_,F23,b23⟩:=r23.get ["self","place"] (bz2 rfl fun _ _ _ _ _ _ _ _=>rfl)
 obtain ⟨_,F24,b24⟩:=r24.get ["self","place"] (bz2 rfl fun _ _ _ _ _ _ _ _=>rfl)
 obtain ⟨_,m25,F25,b25⟩:=r25.get X G ["way","row"] (bz2 rfl fun _ _ _ _ _ _ _ _=>rfl)
 obtain ⟨_,m26,F26,b26⟩:=r26.get X G ["way","row"] (bz2 rfl fun _ _ _ _ _ _ _ _=>rfl)
 obtain ⟨_,m27,F27,b27⟩:=r27.get X G ["way","rows"] (bz2 rfl fun _ _ _ _ _ _ _ _=>rfl)
 obtain ⟨_,m28,F28,b28⟩:=r28.get X G ["way","heap"] (bz2 rfl fun _ _ _ _ _ _ _ _=>rfl)
 obtain ⟨_,m29,F29,b29⟩:=r29.get X G ["way","heap","place"] (bz3 rfl fun _ _ _ _ _ _ _ _ _=>rfl)
 obtain ⟨_,m30,F30,b30⟩:=r30.get X G ["way","heap","step"] (bz3 rfl fun _ _ _ _ _ _ _ _ _=>rfl)
 obtain ⟨_,m31,F31,b31⟩:=r31.get X G ["way","step"] (bz2 rfl fun _ _ _ _ _ _ _ _=>rfl)
 obtain ⟨_,m32,F32,b32⟩:=r32.get X G ["way","heap","step","many"] (bz4 rfl fun _ _ _ _ _ _ _ _ _ _=>rfl)
 obtain ⟨_,m33,F33,b33⟩:=r33.get X G ["row"] (bz1 rfl fun _ _ _ _ _ _ _=>rfl)
 obtain ⟨_,m34,F34,b34⟩:=r34.get X G ["way","heap"] (bz2 rfl fun _ _ _ _ _ _ _ _=>rfl)
 obtain ⟨_,m35,F35,b35⟩:=r35.get X G ["way","heap"] (bz2 rfl fun _ _ _ _ _ _ _ _=>rfl)
 obtain ⟨_,m36,F36,b36⟩:=r36.get X G ["number"] (bz1 rfl fun _ _ _ _ _ _ _=>rfl)
 obtain ⟨_,m37,F37,b37⟩:=r37.get X G ["one","other"] (bz2 rfl fun _ _ _ _ _ _ _ _=>rfl)
 obtain ⟨_,m38,F38,b38⟩:=r38.get X G ["row","place"] (bz2 rfl fun _ _ _ _ _ _ _ _=>rfl)
 obtain ⟨_,F39,b39⟩:=r39.get ["self"] (bz1 rfl fun _ _ _ _ _ _ _=>rfl)
 obtain ⟨_,F40,b40⟩:=r40.get ["self"] (bz1 rfl fun _ _ _ _ _ _ _=>rfl)
 obtain ⟨_,F41,b41⟩:=r41.get ["self","number"] (bz2 rfl fun _ _ _ _ _ _ _ _=>rfl)
 obtain ⟨_,F42,b42⟩:=r42.get ["self","number"] (bz2 rfl fun _ _ _ _ _ _ _ _=>rfl)
 obtain ⟨_,F43,b43⟩:=r43.get ["self","number"] (bz2 rfl fun _ _ _ _ _ _ _ _=>rfl)
 obtain ⟨_,m44,F44,b44⟩:=r44.get X G ["value"] (bz1 rfl fun _ _ _ _ _ _ _=>rfl)
 obtain ⟨_,F45,b45⟩:=r45.get ["self","number"] (bz2 rfl fun _ _ _ _ _ _ _ _=>rfl)
 obtain ⟨_,F46,b46⟩:=r46.get ["self","place"] (bz2 rfl fun _ _ _ _ _ _ _ _=>rfl)
 obtain ⟨_,F47,b47⟩:=r47.get ["self","place"] (bz2 rfl fun _ _ _ _ _ _ _ _=>rfl)
 obtain ⟨_,F48,b48⟩:=r48.get ["self","place"] (bz2 rfl fun _ _ _ _ _ _ _ _=>rfl)
 obtain ⟨_,F49,b49⟩:=r49.get ["self","place"] (bz2 rfl fun _ _ _ _ _ _ _ _=>rfl)
 obtain ⟨_,F50,b50⟩:=r50.get ["self","place"] (bz2 rfl fun _ _ _ _ _ _ _ _=>rfl)
 obtain ⟨_,F51,b51⟩:=r51.get ["self","total","place"] (bz3 rfl fun _ _ _ _ _ _ _ _ _=>rfl)
 obtain ⟨_,m52,F52,b52⟩:=r52.get X G ["one","other"] (bz2 rfl fun _ _ _ _ _ _ _ _=>rfl)
 obtain ⟨_,F53,b53⟩:=r53.get ["self","total","place"] (bz3 rfl fun _ _ _ _ _ _ _ _ _=>rfl)
 obtain ⟨_,m54,F54,b54⟩:=r54.get X G ["way","totals"] (bz2 rfl fun _ _ _ _ _ _ _ _=>rfl)
 obtain ⟨_,m55,F55,b55⟩:=r55.get X G ["way","totals"] (bz2 rfl fun _ _ _ _ _ _ _ _=>rfl)
 obtain ⟨_,m56,F56,b56⟩:=r56.get X G ["way","row"] (bz2 rfl fun _ _ _ _ _ _ _ _=>rfl)
 obtain ⟨_,m57,F57,b57⟩:=r57.get X G ["one","other"] (bz2 rfl fun _ _ _ _ _ _ _ _=>rfl)
 obtain ⟨_,m58,F58,b58⟩:=r58.get X G ["way","one","other"] (bz3 rfl fun _ _ _ _ _ _ _ _ _=>rfl)
 obtain ⟨_,m59,F59,b59⟩:=r59.get X G ["row","factor"] (bz2 rfl fun _ _ _ _ _ _ _ _=>rfl)
 obtain ⟨_,m60,F60,b60⟩:=r60.get X G ["way","row"] (bz2 rfl fun _ _ _ _ _ _ _ _=>rfl)
 obtain ⟨_,m61,F61,b61⟩:=r61.get X G ["way","one","other"] (bz3 rfl fun _ _ _ _ _ _ _ _ _=>rfl)
 obtain ⟨_,m62,F62,b62⟩:=r62.get X G ["way","one","other"] (bz3 rfl fun _ _ _ _ _ _ _ _ _=>rfl)
 obtain ⟨_,m63,F63,b63⟩:=r63.get X G ["way","one","other"] (bz3 rfl fun _ _ _ _ _ _ _ _ _=>rfl)
 obtain ⟨_,m64,F64,b64⟩:=r64.get X G ["way","one","other"] (bz3 rfl fun _ _ _ _ _ _ _ _ _=>rfl)
 obtain ⟨_,m65,F65,b65⟩:=r65.get X G ["way","row","many"] (bz3 rfl fun _ _ _ _ _ _ _ _ _=>rfl)
 obtain ⟨_,m66,F66,b66⟩:=r66.get X G ["way","row","many"] (bz3 rfl fun _ _ _ _ _ _ _ _ _=>rfl)
 obtain ⟨_,m67,F67,b67⟩:=r67.get X G ["way","row","many"] (bz3 rfl fun _ _ _ _ _ _ _ _ _=>rfl)
 obtain ⟨_,m68,F68,b68⟩:=r68.get X G ["way","row","many"] (bz3 rfl fun _ _ _ _ _ _ _ _ _=>rfl)
 obtain ⟨_,m69,F69,b69⟩:=r69.get X G ["_law_way_here","_law_deed","_law_one","_law_other"] (bz4 rfl fun _ _ _ _ _ _ _ _ _ _=>rfl)
 obtain ⟨_,m70,F70,b70⟩:=r70.get X G ["_law_e"] (bz1 rfl fun _ _ _ _ _ _ _=>rfl)
 obtain ⟨_,m71,F71,b71⟩:=r71.get X G ["_law_way_here","_law_deed","_law_one","_law_other"] (bz4 rfl fun _ _ _ _ _ _ _ _ _ _=>rfl)
 obtain ⟨a72,_,_,kV,dc,pm,an,cd,ct,_,l72,c72,k72⟩:=r72
 cases hfa.symm.trans (PySem.W.mg_of X G a72)
 have F72:=n6 (st:=sA) l72 c72 k72
 refine ⟨PySem.W.fnOf "law" "law" (defArgs sA) (defBody sA) (defScope sA) .none kV dc pm an cd ct,fun s v=>.of_eq rfl,fun base _ _=>?_⟩
 have G__law_mixed:=DOk.mk' F1 m1 b1 (qM (P:=l.prog) (w:=w) (base:=base) T F1)
 have G__law_pick:=DOk.mk' F2 m2 b2 (oj T G__law_mixed F2)
 have G__law_cell_at:=DOk.mk' F3 m3 b3 (sK (P:=l.prog) (w:=w) (base:=base) T F3)
 have G_is_whole:=DOk.mk' F4 m4 b4 (om (P:=l.prog) (w:=w) (base:=base) T F4)
 have G_bounded:=DOk.mk' F5 m5 b5 (nN T G_is_whole F5)
 have Ol:KOk l.prog w K mg base 3 "Plain" A.Plain "base" (Kd.ok .plain):=⟨_,_,_,mo Os,⟨Qr.mks,OK,r6.1,Qr.kc⟩,b6,rG T G_bounded F6⟩
 have Om:KOk l.prog w K mg base 3 "Below" A.Below "base" (Kd.ok .below):=⟨_,_,_,mo Ot,⟨Qs.mks,OL,r7.1,Qs.kc⟩,b7,rL T G_bounded F7⟩
 have On:KOk l.prog w K mg base 3 "Balanced" A.Balanced "half" (Kd.ok .balanced):=⟨_,_,_,mo Ou,⟨Qt.mks,OM,r8.1,Qt.kc⟩,b8,uK T G_bounded F8⟩
 have Oo:KOk l.prog w K mg base 3 "Growing" A.Growing "first" (Kd.ok .growing):=⟨_,_,_,mo Ov,⟨Qu.mks,ON,r9.1,Qu.kc⟩,b9,tG T G_bounded F9⟩
 have Op:KOk l.prog w K mg base 3 "Falling" A.Falling "most" (Kd.ok .falling):=⟨_,_,_,mo P9,⟨Qv.mks,OO,r10.1,Qv.kc⟩,b10,tI T G_bounded F10⟩
 have Oq:KOk l.prog w K mg base 3 "Pairs" A.Pairs "most" (Kd.ok .pairs):=⟨_,_,_,mo Oa,⟨Qw.mks,OP,r11.1,Qw.kc⟩,b11,rJ T G_bounded F11⟩
 have G__law_way:=DOk.mk' F12 m12 b12 (nJ T Ol Om On Oo Op Oq F12)
 have G__law_span:=DOk.mk' F13 m13 b13 (oi (P:=l.prog) (w:=w) (base:=base) T F13)
 have G__law_figures:=DOk.mk' F14 m14 b14 (sJ T G__law_mixed G__law_span F14)
 have G__law_spoilt:=DOk.mk' F15 m15 b15 (rE T G__law_span F15)
 have G_has_mosts_above_noughts_alone:=DOk.mk' F16 m16 b16 (yH (P:=l.prog) (w:=w) (base:=base) T F16)
 have NM:=mkr l w base T.Qm OQ r17 F17 b17 (xq T F17)
 have NN:=mkr l w base T.Qn OR r17 F17 b17 (xq T F17)
 have NO:=mkr l w base T.Qo OS r17 F17 b17 (xq T F17)
 have NP:=mkr l w base T.R8 OT r17 F17 b17 (xq T F17)
 have NQ:=mkr l w base T.Qf OU r17 F17 b17 (xq T F17)
 have NR:=mkr l w base T.Qk OV r18 F18 b18 (tK T F18)
 have NS:=mkr l w base T.Qm OW r19 F19 b19 (rH T F19)
 have NT:=mkr l w base T.Qn OX r20 F20 b20 (rM T F20)
 have NU:=mkr l w base T.Qk OY r21 F21 b21 (uL T F21)
 have NV:=mkr l w base T.Qo OZ r22 F22 b22 (tH T F22)
 have NW:=mkr l w base T.R8 O0 r23 F23 b23 (tJ T F23)
 have NX:=mkr l w base T.Qf O1 r24 F24 b24 (rK T F24)
 have HLo:∀ k:Kd,MOk l.prog w K mg base 1 (A.at k) "low" (xU A k (k.low))∧MOk l.prog w K mg base 1 (A.at k) "high" (xU A k (k.high)):=fun k=>match k with
  | .plain=>⟨NM.imp fun ds Q ⟨n,p,e,_,q⟩=>⟨_,_,e,q⟩,NS⟩
  | .below=>⟨NN.imp fun ds Q ⟨n,p,e,_,q⟩=>⟨_,_,e,q⟩,NT⟩
  | .balanced=>⟨NR,NU⟩
  | .growing=>⟨NO.imp fun ds Q ⟨n,p,e,_,q⟩=>⟨_,_,e,q⟩,NV⟩
  | .falling=>⟨NP.imp fun ds Q ⟨n,p,e,_,q⟩=>⟨_,_,e,q⟩,NW⟩
  | .pairs=>⟨NQ.imp fun ds Q ⟨n,p,e,_,q⟩=>⟨_,_,e,q⟩,NX⟩
 have G_has_figures_alone:=DOk.mk' F25 m25 b25 (wS (P:=l.prog) (w:=w) (base:=base) T HLo F25)
 have G_is_writing:=DOk.mk' F26 m26 b26 (rF T G_has_mosts_above_noughts_alone G_has_figures_alone F26)
 have G_held_to_be_writings:=DOkX.mk' F27 m27 b27 (wj T G_is_writing F27)
 have G_held_to_be_a_heap:=DOkX.mk' F28 m28 b28 (wR (P:=l.prog) (w:=w) (base:=base) T F28)
 have G_step_at:=DOk.mk' F29 m29 b29 (nH (P:=l.prog) (w:=w) (base:=base) T F29)
 have G_how_often:=DOk.mk' F30 m30 b30 (qN (P:=l.prog) (w:=w) (base:=base) T F30)
 have G_changes:=DOk.mk' F31 m31 b31 (nM (P:=l.prog) (w:=w) (base:=base) T F31)
 have G_do_steps:=AOk.mk' F32 m32 b32 (oq T G_changes F32)
 have G_trimmed:=FOk.mk' F33 m33 b33 (nG (P:=l.prog) (w:=w) (base:=base) T F33)
 have G_steps_and_writing:=TOkX.mk' F34 m34 b34 (wQ T G_held_to_be_a_heap G_step_at G_how_often G_do_steps G_trimmed F34)
 have G_fallen:=FOkX.mk' F35 m35 b35 (l_ T G_steps_and_writing F35)
 have G_as_pair:=DOk.mk' F36 m36 b36 (nO T G_is_whole F36)
 have G_added:=DOk.mk' F37 m37 b37 (jN T G_is_whole G_as_pair F37)
 have G_thing_at:=DOk.mk' F38 m38 b38 (og (P:=l.prog) (w:=w) (base:=base) T F38)
 have NY:=mkr l w base T.Qm O2 r39 F39 b39 (yo T F39)
 have NZ:=mkr l w base T.Qn O3 r39 F39 b39 (yo T F39)
 have N1:=mkr l w base T.Qk O4 r39 F39 b39 (yo T F39)
 have N2:=mkr l w base T.Qo O5 r39 F39 b39 (yo T F39)
 have N3:=mkr l w base T.R8 O6 r39 F39 b39 (yo T F39)
 have N4:=mkr l w base T.Qf O7 r40 F40 b40 (tF T F40)
 have HNo:∀ k:Kd,MOk l.prog w K mg base 1 (A.at k) "nought" (ST k):=fun k=>match k with
  | .plain=>NY | .below=>NZ | .balanced=>N1 | .growing=>N2 | .falling=>N3 | .pairs=>N4
 have N5:=mkr l w base T.Qm O8 r41 F41 b41 (vH T G_is_whole F41)
 have N6:=mkr l w base T.Qo O9 r41 F41 b41 (vH T G_is_whole F41)
 have N7:=mkr l w base T.R8 O_ r41 F41 b41 (vH T G_is_whole F41)
 have N8:=mkr l w base T.Qn Na r42 F42 b42 (qP T G_is_whole F42)
 have N9:=mkr l w base T.Qk Nb r43 F43 b43 (tL T G_is_whole F43)
 have G_is_pair:=DOk.mk' F44 m44 b44 (nL T G_is_whole F44)
 have Ma:=mkr l w base T.Qf Nc r45 F45 b45 (qO T G_is_pair F45)
 have HHas:∀ k:Kd,MOk l.prog w K mg base 3 (A.at k) "has" (u4 k):=fun k=>match k with
  | .plain=>N5.mono (by decide)
  | .below=>N8.mono (by decide)
  | .balanced=>N9.mono (by decide)
  | .growing=>(N6.imp fun ds Q ⟨o,d,m,e,a,q⟩=>⟨o,d,m,e,a,by cases m <;> exact q⟩).mono (by decide)
  | .falling=>(N7.imp fun ds Q ⟨o,d,m,e,a,q⟩=>⟨o,d,m,e,a,by cases m <;> exact q⟩).mono (by decide)
  | .pairs=>Ma.mono (by decide)
 have Mb:=mkr l w base T.Qm Nd r46 F46 b46 (sL T F46)
 have Mc:=mkr l w base T.Qn Nf r47 F47 b47 (sO T F47)
 have Md:=mkr l w base T.Qk Ng r48 F48 b48 (vW T F48)
 have Me:=mkr l w base T.Qo Nh r49 F49 b49 (uJ T F49)
 have Mf:=mkr l w base T.Qf Ni r50 F50 b50 (sN T F50)
 have HR:∀ k:Kd,k.five=true→MOk l.prog w K mg base 1 (A.at k) "ratio" (wy A k (k.ratN)):=fun k hk=>match k,hk with
  | .plain,_=>Mb
  | .below,_=>Mc
  | .balanced,_=>Md
  | .growing,_=>Me
  | .pairs,_=>Mf
 have Mg:=mkr l w base T.Qm Nj r51 F51 b51 (xb T HLo HR F51)
 have Mh:=mkr l w base T.Qn Nk r51 F51 b51 (xb T HLo HR F51)
 have Mi:=mkr l w base T.Qk Nl r51 F51 b51 (xb T HLo HR F51)
 have Mj:=mkr l w base T.Qo Nn r51 F51 b51 (xb T HLo HR F51)
 have G_multiplied:=DOk.mk' F52 m52 b52 (rD T G_is_whole G_as_pair F52)
 have Ml:=mkr l w base T.Qf No r53 F53 b53 (sM T G_as_pair G_multiplied F53)
 have HSp:∀ k:Kd,k.five=true→MOk l.prog w K mg base 4 (A.at k) "split" (lD A k):=fun k hk=>match k,hk with
  | .plain,_=>(Mg.imp fun ds Q ⟨n,m,j,e,⟨a,em⟩,h1,h2,q⟩=>⟨.plain,n,a,j,by rw [e,em]; rfl,rfl,h1,h2,by rw [em] at q; exact q⟩).mono (by decide)
  | .below,_=>(Mh.imp fun ds Q ⟨n,m,j,e,⟨a,em⟩,h1,h2,q⟩=>⟨.below,n,a,j,by rw [e,em]; rfl,rfl,h1,h2,by rw [em] at q; exact q⟩).mono (by decide)
  | .balanced,_=>(Mi.imp fun ds Q ⟨n,m,j,e,⟨a,em⟩,h1,h2,q⟩=>⟨.balanced,n,a,j,by rw [e,em]; rfl,rfl,h1,h2,by rw [em] at q; exact q⟩).mono (by decide)
  | .growing,_=>(Mj.imp fun ds Q ⟨n,m,j,e,⟨a,em⟩,h1,h2,q⟩=>⟨.growing,n,a,j,by rw [e,em]; rfl,rfl,h1,h2,by rw [em] at q; exact q⟩).mono (by decide)
  | .pairs,_=>(Ml.imp fun ds Q ⟨n,m,j,e,_,h1,h2,q⟩=>⟨n,_,m,j,e,wl m,h1,q⟩).mono (by decide)
 have G_figures_and_carries:=DOk.mk' F54 m54 b54 (wk T G_added G_thing_at HNo HHas HSp F54)
 have G_settled:=FOk.mk' F55 m55 b55 (nI T G_trimmed G_figures_and_carries F55)
 have G_written_row:=FOk.mk' F56 m56 b56 (sI T G_fallen G_settled F56)
 have G_row_plus:=DOk.mk' F57 m57 b57 (oh T G_added G_thing_at F57)
 have G_plus:=FOkX.mk' F58 m58 b58 (dN T G_held_to_be_writings G_written_row G_row_plus F58)
 have G_row_times:=DOk.mk' F59 m59 b59 (qK T G_multiplied F59)
 have G_without_debts:=FOk.mk' F60 m60 b60 (uI (P:=l.prog) (w:=w) (base:=base) T F60)
 have G_minus:=FOkX.mk' F61 m61 b61 (jM T G_held_to_be_writings G_row_plus G_row_times G_written_row G_without_debts F61)
 have G_times_in_falling:=FOk.mk' F62 m62 b62 (vq T G_row_plus G_row_times G_written_row F62)
 have G_times_by_ratio:=FOk.mk' F63 m63 b63 (vV T G_row_times G_written_row G_row_plus HR F63)
 have G_times:=FOkX.mk' F64 m64 b64 (jL T G_held_to_be_writings G_times_in_falling G_times_by_ratio F64)
 have G_quotients_in_falling:=DOk.mk' F65 m65 b65 (xP (P:=l.prog) (w:=w) (base:=base) T F65)
 have G_quotients_by_ratio:=DOk.mk' F66 m66 b66 (wC (P:=l.prog) (w:=w) (base:=base) T HR F66)
 have G_quotients_and_rest:=DOk.mk' F67 m67 b67 (wD T G_quotients_in_falling G_quotients_by_ratio F67)
 have G_shared:=DOkX.mk' F68 m68 b68 (l9 T G_held_to_be_writings G_quotients_and_rest G_written_row F68)
 have G__law_done:=DOkX.mk' F69 m69 b69 (ol T G_plus G_minus G_times G_shared F69)
 have G__law_names:=DOk.mk' F70 m70 b70 (qL (P:=l.prog) (w:=w) (base:=base) T F70)
 have G__law_end:=DOk.mk' F71 m71 b71 (nK T G__law_done G__law_names F71)
 exact YF T G__law_pick G__law_cell_at G__law_way G__law_figures G__law_mixed G__law_spoilt G__law_end F72
theorem walk {l:PySem.W.OpenLaw} {q:Program} {loose:List Str} {XP:(Str→Option Value)→Heap→Prop} {YP:World→Heap→Prop} {d:DefRec} {K:Params→PySem.W.Frag} (hn:l.most=some 63) (hdf:d.params.defaults=[])
  (hY:∀ (w:World) (h:Heap),YP w h→(K w.params).In h)
  (F:∀ (w:World) (mg:Str→Option Value) (fa:Addr) (h:Heap),(K w.params).In h→h.Ns mainGlobals mg→mg d.name=some (.ref fa)→
   ∃ fd:FuncData,(∀ (s:Shared) (u:Value),BindsTo s fd ⟨[u],[]⟩ [("_law_script",u)])∧∀ base:Heap,(K w.params).In base→base.Ns mainGlobals mg→FnOk l.prog w (K w.params) mg base CX0 12 fa fd ["_law_script"] (zq (K w.params) (lH))):
  PySem.W.WalkO q loose XP YP l.row.toRowW d [] (fun f vs=>PySem.call f vs):=
 L2.walk_of (n:=63) (k:=12) (x:="_law_script") (CX:=fun _=>CX0) (sp:=fun w=>zq (K w.params) (lH)) hn (by decide) hdf ⟨rfl,by decide,by decide⟩ hY F (fun w H a ns hl _ hS=>⟨⟨H,H,Same.refl H⟩,[.scr ns],fun d=>d=.bl true,rfl,allIs_cons.mpr ⟨_,_,rfl,is_scr.mpr ⟨a,rfl,hS⟩,allIs_nil.mpr rfl⟩,⟨ns,rfl,hl,rfl⟩,fun d v W' _ i e=>by subst e; exact is_bl.mp i⟩) fun _ _ _ _ _ z=>z
end My
local macro_rules | `(tactic| walk_at "fx") => `(tactic| (refine' My.FX.mk ?l ?c ?k; (case l => k_is); (case c => k_is); (case k => k_is)))
local macro_rules | `(tactic| walk_at "kk") => `(tactic| first | k_is | kit_is | kts_exm | (delta L2.ExcK; k_exc) | (delta My.Fi; k_is) | (delta My.Zn; k_is) | (delta My.Gc; k_is) | (delta My.Ki; kit_is) | (delta My.FD; refine ⟨?a, ?b⟩; (case a => k_is); (case b => walk_at "fx")) | (delta My.FM; refine ⟨?a, ?b⟩; (case a => k_is); (case b => walk_at "fx")) | (refine ⟨⟨?_, ?_, ?_, ?_⟩, ?_, ?_, ?_⟩ <;> k_is) | (refine ⟨?_, ?_, ?_, ?_, ?_, ?_, ?_⟩ <;> k_is) | (refine ⟨?_, ?_⟩ <;> k_is))
open PySem PySem.W PyProof.Rows
set_option maxRecDepth 100000 in
set_option maxHeartbeats 0 in
theorem PySem.Challenge.cw_oddbases_k35_reckoning_refused_holds : PySem.Challenge.rw_oddbases_k35_reckoning_refused.Holds := by
 w_on; o_law
 refine holds_open (q:=My.h_view_39) (loose:=[]) (Xt:=(fun s=>xlAt My.h_view_39 [] s && recOk (RowW.records (OpenRow.toRowW PySem.Challenge.rw_oddbases_k35_reckoning_refused.row)) s)) (XP:=XL My.h_view_39 []) (Yf:=Hook.obs (kHook My.h_heap_39 My.myAs My.myE)) (Ya:=Hook.val (kHook My.h_heap_39 My.myAs My.myE)) (YP:=Hook.says (kHook My.h_heap_39 My.myAs My.myE)) (N:=13824) My.left (Hook.of _) (Hook.keeps _) (fun s e=>xl_of s (Bool.and_eq_true_iff.mp e).1) XL.keeps (by rfl) (by rfl) (by rfl) (fun s e=>recFacts_of (Bool.and_eq_true_iff.mp e).2) (by rfl) (by first | assumption | decide +kernel) (by decide +kernel) ⟨rfl,rfl,rfl,rfl,rfl,by decide +kernel⟩ ?hw ?hc
 case hw=>w_witness2
 k_fill
 refine My.walk (l:=PySem.Challenge.rw_oddbases_k35_reckoning_refused) rfl rfl (fun w h Y=>PySem.W.kIn_of Y) ?F
 case F=>
  intro w mg fa h KX G hmg
  refine' My.all_mk KX G hmg ?Os ?Ot ?Ou ?Ov ?P9 ?Oa ?Ow ?Ox ?Oy ?Oz ?OA ?OB ?OC ?OE ?OF ?OG ?OH ?OI ?OJ ?r1 ?r2 ?r3 ?r4 ?r5 ?OK ?r6 ?OL ?r7 ?OM ?r8 ?ON ?r9 ?OO ?r10 ?OP ?r11 ?r12 ?r13 ?r14 ?r15 ?r16 ?OQ ?OR ?OS ?OT ?OU ?r17 ?OV ?r18 ?OW ?r19 ?OX ?r20 ?OY ?r21 ?OZ ?r22 ?O0 ?r23 ?O1 ?r24 ?r25 ?r26 ?r27 ?r28 ?r29 ?r30 ?r31 ?r32 ?r33 ?r34 ?r35 ?r36 ?r37 ?r38 ?O2 ?O3 ?O4 ?O5 ?O6 ?r39 ?O7 ?r40 ?O8 ?O9 ?O_ ?r41 ?Na ?r42 ?Nb ?r43 ?r44 ?Nc ?r45 ?Nd ?r46 ?Nf ?r47 ?Ng ?r48 ?Nh ?r49 ?Ni ?r50 ?Nj ?Nk ?Nl ?Nn ?r51 ?r52 ?No ?r53 ?r54 ?r55 ?r56 ?r57 ?r58 ?r59 ?r60 ?r61 ?r62 ?r63 ?r64 ?r65 ?r66 ?r67 ?r68 ?r69 ?r70 ?r71 ?r72 ?Qr ?Qs ?Qt ?Qu ?Qv ?Qw ?Ob ?QG ?QH ?Oc ?QI ?QJ ?Od ?QK ?QL ?Oe ?QM ?QN ?Of ?Qx ?QO ?Og ?QP ?QQ ?in_ ?it_ ?QR ?PK ?PL ?PM ?PN ?PP ?PQ ?PR ?PU ?PV ?PX ?PY ?PZ ?P0 ?P3 ?P4 ?P5 ?QS ?R_ ?QT ?P6 ?QU ?QV ?QW ?QX ?QY ?QZ ?Q0 ?Q2 ?Q3 ?Q4 ?Q5 ?Q6 ?Q7 ?Q8 ?Qa ?Q9 ?P7 ?Q_ ?Pa ?Pb ?Pc ?Pd ?Pe ?Pf ?Pg ?Ph ?Pi ?Pj ?Pk ?Pl ?Pm ?Qb ?Pn ?P8 ?Po ?Pp ?Pq ?Pr ?Ps ?Pt ?Pu ?Pw ?Px ?Py ?Pz ?PD ?PF ?z_isinstance ?z_int ?z_bool ?z_tuple ?z_list ?z_len ?z_range ?z_enumerate ?z_min ?z_max ?z_ValueError
  case Os | Ot | Ou | Ov | P9 | Oa | Ow | Ox | Oy | Oz | OA | OB | OC | OE | OF | OG | OH | OI | OJ | r1 | r2 | r3 | r4 | r5 | OK | r6 | OL | r7 | OM | r8 | ON | r9 | OO | r10 | OP | r11 | r12 | r13 | r14 | r15 | r16 | OQ | OR | OS | OT | OU | r17 | OV | r18 | OW | r19 | OX | r20 | OY | r21 | OZ | r22 | O0 | r23 | O1 | r24 | r25 | r26 | r27 | r28 | r29 | r30 | r31 | r32 | r33 | r34 | r35 | r36 | r37 | r38 | O2 | O3 | O4 | O5 | O6 | r39 | O7 | r40 | O8 | O9 | O_ | r41 | Na | r42 | Nb | r43 | r44 | Nc | r45 | Nd | r46 | Nf | r47 | Ng | r48 | Nh | r49 | Ni | r50 | Nj | Nk | Nl | Nn | r51 | r52 | No | r53 | r54 | r55 | r56 | r57 | r58 | r59 | r60 | r61 | r62 | r63 | r64 | r65 | r66 | r67 | r68 | r69 | r70 | r71 | r72 | Qr | Qs | Qt | Qu | Qv | Qw | Ob | QG | QH | Oc | QI | QJ | Od | QK | QL | Oe | QM | QN | Of | Qx | QO | Og | QP | QQ | in_ | it_ | QR | PK | PL | PM | PN | PP | PQ | PR | PU | PV | PX | PY | PZ | P0 | P3 | P4 | P5 | QS | R_ | QT | P6 | QU | QV | QW | QX | QY | QZ | Q0 | Q2 | Q3 | Q4 | Q5 | Q6 | Q7 | Q8 | Qa | Q9 | P7 | Q_ | Pa | Pb | Pc | Pd | Pe | Pf | Pg | Ph | Pi | Pj | Pk | Pl | Pm | Qb | Pn | P8 | Po | Pp | Pq | Pr | Ps | Pt | Pu | Pw | Px | Py | Pz | PD | PF | z_isinstance | z_int | z_bool | z_tuple | z_list | z_len | z_range | z_enumerate | z_min | z_max | z_ValueError=>walk_at "kk"
