import PyProof.Rows.All
import Wide.All
import OpenK.AllK
import Wide.FinOn
import Lean
import PyProof.EqAt
import PyProof.EqKinds
import PyProof.TupleCall
import PyProof.NeKinds
import PySem.Challenge.RW_oddbases_k47_machine_reads
set_option Elab.async false
set_option linter.all false
set_option maxRecDepth 100000
namespace L2
open PySem PySem.Spec PyProof.Rows
abbrev Key:=Sum Int Str
def dR:Key→Value→Bool
 | .inl k,v=>Value.isInt k v
 | .inr x,v=>Value.isStrOf x v
def WH (w:World):Key→Int
 | .inl k=>hashInt k
 | .inr x=>hashStr w x
theorem zM:∀ {k:Key} {v:Value},dR k v=true→(∃ i t,k=Sum.inl i∧v=Value.int i t)∨(∃ x t,k=Sum.inr x∧v=Value.str x t)
 | .inl i,v,h=>by
  obtain ⟨t,e⟩:=Value.isInt_shape (k:=i) (v:=v) h
  exact .inl ⟨i,t,rfl,e⟩
 | .inr x,v,h=>by
  obtain ⟨t,e⟩:=Value.isStrOf_shape (x:=x) (v:=v) h
  exact .inr ⟨x,t,rfl,e⟩
theorem Zu (a b:Int):decide ((Sum.inl a:Key)=Sum.inl b)=(a == b):=by
 by_cases e:a=b
 ·subst e; simp
 ·have h:¬ (Sum.inl a:Key)=Sum.inl b:=fun q=>e (Sum.inl.inj q)
  rw [decide_eq_false h]
  exact (beq_eq_false_iff_ne.mpr e).symm
theorem Zr (a b:Str):decide ((Sum.inr a:Key)=Sum.inr b)=decide (a=b):=by
 by_cases e:a=b
 ·subst e; simp
 ·have h:¬ (Sum.inr a:Key)=Sum.inr b:=fun q=>e (Sum.inr.inj q)
  rw [decide_eq_false h,decide_eq_false e]
theorem Zt (a:Int) (b:Str):decide ((Sum.inl a:Key)=Sum.inr b)=false:=decide_eq_false (fun q=>nomatch q)
theorem Zs (a:Str) (b:Int):decide ((Sum.inr a:Key)=Sum.inl b)=false:=decide_eq_false (fun q=>nomatch q)
def pE (prog:Program) (w:World):PySem.KeyKind prog w Key where
 is:=dR
 hash:=WH w
 inj:=fun v a b ha hb=>by
  rcases zM ha with ⟨i,t,rfl,rfl⟩ | ⟨x,t,rfl,rfl⟩
  ·rcases zM hb with ⟨j,u,rfl,e⟩ | ⟨y,u,rfl,e⟩
   ·injection e with e1 _; rw [e1]
   ·exact nomatch e
  ·rcases zM hb with ⟨j,u,rfl,e⟩ | ⟨y,u,rfl,e⟩
   ·exact nomatch e
   ·injection e with e1 _; rw [e1]
 byValue:=fun k v h=>by
  rcases zM h with ⟨i,t,rfl,rfl⟩ | ⟨x,t,rfl,rfl⟩ <;> rfl
 pyHash:=fun hv h=>by
  rcases zM hv with ⟨i,t,rfl,rfl⟩ | ⟨x,t,rfl,rfl⟩
  ·exact wpAny_pyHash_int h
  ·exact wpAny_pyHash_str h
 eqBool:=fun hu hv h=>by
  rcases zM hu with ⟨i,t,rfl,rfl⟩ | ⟨x,t,rfl,rfl⟩
  ·rcases zM hv with ⟨j,u,rfl,rfl⟩ | ⟨y,u,rfl,rfl⟩
   ·rw [Zu] at h; exact wpAny_eqBool_int h
   ·rw [Zt] at h; exact SeqAt.EqAt.int_str i t y u _ _ _ _ h
  ·rcases zM hv with ⟨j,u,rfl,rfl⟩ | ⟨y,u,rfl,rfl⟩
   ·rw [Zs] at h; exact SeqAt.EqAt.str_int x t j u _ _ _ _ h
   ·rw [Zr] at h; exact wpAny_eqBool_str h
 «strs»:=fun k x t v h=>by
  rcases zM h with ⟨i,u,rfl,e⟩ | ⟨y,u,rfl,e⟩
  ·exact nomatch e
  ·injection e with e1 _
   subst e1
   cases v <;> rfl
end L2
namespace L2
open PySem PySem.Spec PyProof.Rows
inductive V where
 | non | bl (b:Bool) | int (i:Int) | str (x:Str) | byt (b:Array UInt8) | flt (b:UInt64) | ref (a:Addr) | ty (n:String)
 deriving DecidableEq
def RelV:V→Value→Prop
 | .non,u=>u=Value.none
 | .bl b,u=>u=Value.bool b
 | .int i,u=>∃ t,u=Value.int i t
 | .str x,u=>∃ t,u=Value.str x t
 | .byt b,u=>∃ t,u=Value.bytes b t
 | .flt b,u=>∃ t,u=Value.float b t
 | .ref a,u=>u=Value.ref a
 | .ty n,u=>u=Value.type n
abbrev Vals:List V→List Value→Prop:=Paired RelV
theorem Vals.length {xs:List V} {us:List Value} (r:Vals xs us):xs.length=us.length:=Paired.length r
theorem Vals.get:∀ {xs:List V} {us:List Value} {i:Nat} {x:V},Vals xs us→xs[i]? = some x→∃ u,us[i]? = some u∧RelV x u
 | _,_,_,_,.nil,e=>by simp at e
 | _,_,0,_,.cons r _,e=>by simp at e; subst e; exact ⟨_,rfl,r⟩
 | _,_,i+1,x,.cons _ t,e=>by
  obtain ⟨u,h1,h2⟩:=Vals.get (i:=i) (x:=x) t (by simpa using e)
  exact ⟨u,by simpa using h1,h2⟩
theorem Vals.set {x:V} {u:Value} (r:RelV x u):∀ {xs:List V} {us:List Value} (i:Nat),Vals xs us→Vals (xs.set i x) (us.set i u)
 | _,_,_,.nil=>.nil
 | _,_,0,.cons _ t=>.cons r t
 | _,_,i+1,.cons q t=>.cons q (Vals.set r i t)
theorem Vals.append:∀ {xs ys:List V} {us ws:List Value},Vals xs us→Vals ys ws→Vals (xs++ys) (us++ws)
 | _,_,_,_,.nil,s=>s
 | _,_,_,_,.cons r t,s=>.cons r (Vals.append t s)
theorem Vals.take:∀ {xs:List V} {us:List Value} (n:Nat),Vals xs us→Vals (xs.take n) (us.take n)
 | _,_,0,_=>.nil
 | _,_,_+1,.nil=>.nil
 | _,_,n+1,.cons r t=>.cons r (Vals.take n t)
theorem Vals.drop:∀ {xs:List V} {us:List Value} (n:Nat),Vals xs us→Vals (xs.drop n) (us.drop n)
 | _,_,0,r=>r
 | _,_,_+1,.nil=>.nil
 | _,_,n+1,.cons _ t=>Vals.drop n t
theorem Vals.none_of:∀ {xs:List V} {us:List Value} {i:Nat},Vals xs us→xs[i]? = none→us[i]? = none:=fun {xs us i} r e=>by
 have h1:=r.length
 have h2:xs.length≤i:=List.getElem?_eq_none_iff.mp e
 exact List.getElem?_eq_none_iff.mpr (by omega)
def RelO:Option V→Option Value→Prop
 | some v,some u=>RelV v u
 | none,none=>True
 | _,_=>False
def KV {κ:Type}:List (κ × V)→List (κ × Value)→Prop:=Paired fun (p:κ × V) (q:κ × Value)=>p.1=q.1∧RelV p.2 q.2
def kV:Key→V
 | .inl i=>.int i
 | .inr x=>.str x
inductive HO where
 | lst (xs:List V)
 | tup (xs:List V)
 | dK (kvs:List (Key × V)) | dT (kvs:List (List Key × V))
 | set (S:Int→Bool) (n:Nat)
 | ins (C dx:Addr) (fs:List (Str × V))
 | own (x:Addr)
 | xd (fs:List (Str × V))
 | met (f x:Addr)
 | rng (lo hi:Int)
 | frz (o:Obj) (u:HO)
 | tbl (ps:Array Value)
 | ext (φ:Heap→Prop)
abbrev Hp:=Addr→Option HO
def upd (H:Hp) (a:Addr) (o:HO):Hp:=fun b=>if b=a then some o else H b
theorem zh {H:Hp} {a:Addr} {o:HO}:upd H a o a=some o:=by unfold upd; rw [if_pos rfl]
theorem zl {H:Hp} {a b:Addr} {o:HO} (h:b≠a):upd H a o b=H b:=by unfold upd; rw [if_neg h]
theorem zF {H:Hp} {a b:Addr} {o:HO} (h:H a=some o) (h':H b=none):a≠b:=by
 intro e; subst e; rw [h] at h'; cases h'
section
variable (P:Program) (w:World)
def ObjOk (H:Hp) (h:Heap) (a:Addr):HO→Prop
 | .lst xs=>xs.length≤sizeLine∧∃ (its:List Value) (n:Nat),Vals xs its∧h.get? a=some { cls:=.type "list",data:=.seq its.toArray n }
 | .tup xs=>xs.length≤sizeLine∧∃ its:List Value,Vals xs its∧IsTup h a its.toArray
 | .dK kvs=>kvs.length≤sizeLine∧(a == sysModules)=false∧∃ vs,KV kvs vs∧h.DictOf (pE P w) a vs
 | .dT kvs=>kvs.length≤sizeLine∧(a == sysModules)=false∧∃ xs:List (List Key × Addr × Value),
   Paired (fun (p:List Key × V) (q:List Key × Addr × Value)=>p.1=q.1∧H q.2.1=some (.tup (p.1.map kV))∧RelV p.2 q.2.2) kvs xs∧
   ∃ o es ep,h.get? a=some o∧o.ExactDict∧o.data=.dict es ep∧es.toList=xs.map (entryOfKey (tupleKind (pE P w)))∧(xs.map (·.1)).Nodup
 | .set S n=>h.SetOf (intKind P w) a S n
 | .ins C dx fs=>H dx=some (.own a)∧fs.length≤1000∧dx≠a∧h.get? a=some (PySem.W.instObj C dx)∧
   ∃ mA,h.Ns1 dx mA∧(∀ f,RelO (fs.lookup f) (mA f))∧PySem.Within mA (fs.map (·.1))
 | .own _=>∃ o,h.get? a=some o
 | .xd fs=>∃ mA,h.Ns1 a mA∧∀ f,RelO (fs.lookup f) (mA f)
 | .rng lo hi=>∃ t u v,h.get? a=some { cls:=.type "range",data:=.fields #[.int lo t,.int hi u,.int 1 v] }
 | .frz o u=>h.get? a=some o∧ObjOk H h a u
 | .tbl ps=>h.get? a=some { cls:=.none,data:=.fields ps }
 | .met f x=>h.get? a=some (PySem.W.methodObj (.ref f) (.ref x))
 | .ext φ=>φ h∧(∃ o,h.get? a=some o)∧∀ h1 h2:Heap,φ h1→(∀ o,h1.get? a=some o→h2.get? a=some o)→φ h2
def HOk (H:Hp) (h:Heap):Prop:=∀ a o,H a=some o→ObjOk P w H h a o
end
section
variable {P:Program} {w:World} {H H':Hp} {h h':Heap} {a:Addr} {o:HO}
theorem ObjOk.lt (x:ObjOk P w H h a o):a<h.objs.size:=by
 cases o with
 | lst xs=>obtain ⟨_,_,_,_,e⟩:=x; exact Heap.lt_size e
 | tup xs=>obtain ⟨_,_,_,p⟩:=x; exact p.lt
 | dK kvs=>obtain ⟨_,_,_,_,o,_,_,e,_⟩:=x; exact Heap.lt_size e
 | dT kvs=>obtain ⟨_,_,_,_,o,_,_,e,_⟩:=x; exact Heap.lt_size e
 | set S n=>obtain ⟨o,_,_,_,e,_⟩:=x; exact Heap.lt_size e
 | ins C dx fs=>obtain ⟨_,_,_,e,_⟩:=x; exact Heap.lt_size e
 | own y=>obtain ⟨_,e⟩:=x; exact Heap.lt_size e
 | xd fs=>obtain ⟨_,⟨_,_,_,e,_⟩,_⟩:=x; exact Heap.lt_size e
 | rng lo hi=>obtain ⟨_,_,_,e⟩:=x; exact Heap.lt_size e
 | frz ob u=>obtain ⟨e,_⟩:=x; exact Heap.lt_size e
 | tbl ps=>exact Heap.lt_size (show h.get? a=some _ from x)
 | met f y=>exact Heap.lt_size (show h.get? a=some _ from x)
 | ext φ=>obtain ⟨_,⟨_,e⟩,_⟩:=x; exact Heap.lt_size e
theorem Paired.mapP {α β:Type} {F G:α→β→Prop}:∀ {l₁:List α} {l₂:List β},Paired F l₁ l₂→(∀ a b,F a b→G a b)→Paired G l₁ l₂
 | _,_,.nil,_=>.nil
 | _,_,.cons r t,f=>.cons (f _ _ r) (Paired.mapP t f)
theorem ObjOk.stay (x:ObjOk P w H h a o) (k:∀ b u,(b=a∨H b=some (.own a))→h.get? b=some u→h'.get? b=some u)
  (ho:∀ b,H b=some (.own a)→H' b=some (.own a)) (ht:∀ b xs,H b=some (.tup xs)→H' b=some (.tup xs)):ObjOk P w H' h' a o:=by
 induction o with
 | lst xs=>obtain ⟨z,its,n,r,e⟩:=x; exact ⟨z,its,n,r,k _ _ (.inl rfl) e⟩
 | tup xs=>obtain ⟨z,its,r,ob,e,c⟩:=x; exact ⟨z,its,r,ob,k _ _ (.inl rfl) e,c⟩
 | dK kvs=>obtain ⟨z,y,vs,r,ob,es,ep,e,c⟩:=x; exact ⟨z,y,vs,r,ob,es,ep,k _ _ (.inl rfl) e,c⟩
 | dT kvs=>
  obtain ⟨z,y,xs,r,ob,es,ep,e,c⟩:=x
  exact ⟨z,y,xs,Paired.mapP r fun p q z=>⟨z.1,ht _ _ z.2.1,z.2.2⟩,ob,es,ep,k _ _ (.inl rfl) e,c⟩
 | set S n=>obtain ⟨ob,es,ep,t,e,c⟩:=x; exact ⟨ob,es,ep,t,k _ _ (.inl rfl) e,c⟩
 | ins C dx fs=>
  obtain ⟨d,z,ne,e,mA,⟨od,es,ep,e2,c⟩,r⟩:=x
  exact ⟨ho _ d,z,ne,k _ _ (.inl rfl) e,mA,⟨od,es,ep,k _ _ (.inr d) e2,c⟩,r⟩
 | own y=>obtain ⟨ob,e⟩:=x; exact ⟨ob,k _ _ (.inl rfl) e⟩
 | xd fs=>obtain ⟨mA,⟨od,es,ep,e,c⟩,r⟩:=x; exact ⟨mA,⟨od,es,ep,k _ _ (.inl rfl) e,c⟩,r⟩
 | rng lo hi=>obtain ⟨t,u,v,e⟩:=x; exact ⟨t,u,v,k _ _ (.inl rfl) e⟩
 | frz ob u ih=>obtain ⟨e,q⟩:=x; exact ⟨k _ _ (.inl rfl) e,ih q⟩
 | tbl ps=>
  have e:h.get? a=some { cls:=.none,data:=.fields ps }:=x
  show h'.get? a=some { cls:=.none,data:=.fields ps }
  exact k a _ (.inl rfl) e
 | met f y=>
  have e:h.get? a=some (PySem.W.methodObj (.ref f) (.ref y)):=x
  show h'.get? a=some (PySem.W.methodObj (.ref f) (.ref y))
  exact k a _ (.inl rfl) e
 | ext φ=>obtain ⟨p,⟨o,e⟩,st⟩:=x; exact ⟨st _ _ p fun o q=>k _ _ (.inl rfl) q,⟨o,k _ _ (.inl rfl) e⟩,st⟩
theorem HOk.lt (x:HOk P w H h) (e:H a=some o):a<h.objs.size:=(x a o e).lt
theorem HOk.fresh (x:HOk P w H h) (e:h.objs.size≤a):H a=none:=by
 cases q:H a with
 | none=>rfl
 | some u=>exact absurd (Nat.lt_of_lt_of_le (x.lt q) e) (Nat.lt_irrefl _)
theorem HOk.kept (x:HOk P w H h) (k:∀ b u,h.get? b=some u→h'.get? b=some u):HOk P w H h':=fun a o e=>
 (x a o e).stay (fun b u _ q=>k b u q) (fun _ q=>q) fun _ _ q=>q
theorem HOk.laid (x:HOk P w H h) (k:∀ b u,h.get? b=some u→h'.get? b=some u) (hp:h.objs.size≤a) (new:ObjOk P w (upd H a o) h' a o):HOk P w (upd H a o) h':=fun b u e=>by
 have hn:=x.fresh hp
 by_cases hb:b=a
 ·subst hb; rw [zh] at e; cases e; exact new
 ·rw [zl hb] at e
  exact (x b u e).stay (fun c v _ q=>k c v q) (fun c q=>by rw [zl (zF q hn)]; exact q) fun c xs q=>by rw [zl (zF q hn)]; exact q
end
def Rd (H:Hp) (a:Addr) (u:HO):Prop:=H a=some u∨∃ o,H a=some (.frz o u)
theorem Rd.of {H:Hp} {a:Addr} {u:HO} (h:H a=some u):Rd H a u:=.inl h
theorem Rd.ok {P:Program} {w:World} {H:Hp} {h:Heap} {a:Addr} {u:HO} (r:Rd H a u) (x:HOk P w H h):ObjOk P w H h a u:=by
 rcases r with r | ⟨o,r⟩
 ·exact x a u r
 ·obtain ⟨_,q⟩:=x a _ r
  exact q
def Mut:Option HO→Prop
 | some (.lst _)=>True
 | some (.dK _)=>True
 | some (.dT _)=>True
 | some (.set _ _)=>True
 | some (.ins _ _ _)=>True
 | some (.ext _)=>True
 | _=>False
section
variable {P:Program} {w:World} {H:Hp} {h h':Heap} {x e:Addr} {o':HO}
theorem HOk.write (ok:HOk P w H h) (mu:Mut (H x)) (he:e=x∨H e=some (.own x)) (k:∀ b u,b≠e→h.get? b=some u→h'.get? b=some u) (heo:∃ u,h'.get? e=some u)
  (new:ObjOk P w (upd H x o') h' x o'):HOk P w (upd H x o') h':=fun b u q=>by
 have nown:∀ c y,H c=some (.own y)→c≠x:=fun c y r z=>by subst z; rw [r] at mu; exact mu
 have ntup:∀ c xs,H c=some (.tup xs)→c≠x:=fun c xs r z=>by subst z; rw [r] at mu; exact mu
 by_cases hb:b=x
 ·subst hb; rw [zh] at q; cases q; exact new
 ·rw [zl hb] at q
  by_cases hbe:b=e
  ·have q':H b=some (.own x):=by
    rcases he with z | z
    ·exact absurd (hbe.trans z) hb
    ·rw [hbe]; exact z
   rw [q] at q'; cases q'
   obtain ⟨v,hv⟩:=heo
   exact ⟨v,by rw [hbe]; exact hv⟩
  ·refine (ok b u q).stay (fun c v hc r=>k c v ?_ r) (fun c r=>by rw [zl (nown c b r)]; exact r) fun c xs r=>by rw [zl (ntup c xs r)]; exact r
   rcases hc with rfl | hc
   ·exact hbe
   ·rintro rfl
    rcases he with z | z
    ·exact nown c b hc z
    ·rw [hc] at z; cases z; exact hb rfl
end
structure Un (fs ex:List Addr) (H H':Hp) (h h':Heap):Prop where
 keep:∀ b o,h.get? b=some o→H b=none→b∉fs→b∉ex→h'.get? b=some o
 slot:∀ b o,h.get? b=some o→H b=none→b∈fs→b∉ex→∃ sl,h'.get? b=some { o with slots:=sl }
 free:∀ b o,h.get? b=some o→H b=none→b∉ex→H' b=none
 there:∀ b o,h.get? b=some o→b∉ex→∃ o',h'.get? b=some o'
 tups:∀ b xs,H b=some (.tup xs)→H' b=some (.tup xs)
 frzs:∀ b o u,H b=some (.frz o u)→H' b=some (.frz o u)
 tbls:∀ b ps,H b=some (.tbl ps)→∃ more,H' b=some (.tbl (ps++more))
section
variable {fs fs' ex ex':List Addr} {H H1 H2:Hp} {h h1 h2 h':Heap} {a x e:Addr} {o:HO}
theorem Un.any (u:Un fs ex H H1 h h1) {b:Addr} {ob:Obj} (q:h.get? b=some ob) (n:H b=none) (hx:b∉ex):∃ sl,h1.get? b=some { ob with slots:=sl }:=by
 by_cases hb:b∈fs
 ·exact u.slot b ob q n hb hx
 ·exact ⟨ob.slots,u.keep b ob q n hb hx⟩
theorem Un.trans (a:Un fs ex H H1 h h1) (b:Un fs ex H1 H2 h1 h2):Un fs ex H H2 h h2 where
 keep:=fun c ob q n hc hx=>b.keep c ob (a.keep c ob q n hc hx) (a.free c ob q n hx) hc hx
 slot:=fun c ob q n hc hx=>by
  obtain ⟨sl,e1⟩:=a.slot c ob q n hc hx
  obtain ⟨sl',e2⟩:=b.slot c _ e1 (a.free c ob q n hx) hc hx
  exact ⟨sl',e2⟩
 free:=fun c ob q n hx=>by
  obtain ⟨o',e1⟩:=a.there c ob q hx
  exact b.free c o' e1 (a.free c ob q n hx) hx
 there:=fun c ob q hx=>by
  obtain ⟨o',e1⟩:=a.there c ob q hx
  exact b.there c o' e1 hx
 tups:=fun c xs q=>b.tups c xs (a.tups c xs q)
 frzs:=fun c ob xs q=>b.frzs c ob xs (a.frzs c ob xs q)
 tbls:=fun c ps q=>by
  obtain ⟨m1,e1⟩:=a.tbls c ps q
  obtain ⟨m2,e2⟩:=b.tbls c _ e1
  exact ⟨m1++m2,by rw [e2,Array.append_assoc]⟩
theorem Un.kept (k:∀ b u,h.get? b=some u→h'.get? b=some u):Un fs ex H H h h':=
 ⟨fun b ob q _ _ _=>k b ob q,fun b ob q _ _ _=>⟨ob.slots,k b ob q⟩,fun _ _ _ n _=>n,fun b ob q _=>⟨ob,k b ob q⟩,fun _ _ q=>q,fun _ _ _ q=>q,fun _ ps q=>⟨#[],by rw [q]; simp⟩⟩
theorem Un.refl:Un fs ex H H h h:=Un.kept fun _ _ q=>q
theorem Un.laid (k:∀ b u,h.get? b=some u→h'.get? b=some u) (hp:h.objs.size≤a) (hn:H a=none):Un fs ex H (upd H a o) h h' where
 keep:=fun b u q _ _ _=>k b u q
 slot:=fun b u q _ _ _=>⟨u.slots,k b u q⟩
 free:=fun b u q n _=>by rw [zl (Nat.ne_of_lt (Nat.lt_of_lt_of_le (Heap.lt_size q) hp))]; exact n
 there:=fun b u q _=>⟨u,k b u q⟩
 tups:=fun b xs q=>by rw [zl (zF q hn)]; exact q
 frzs:=fun b u xs q=>by rw [zl (zF q hn)]; exact q
 tbls:=fun b ps q=>⟨#[],by rw [zl (zF q hn),q]; simp⟩
theorem Un.write (mu:Mut (H x)) (he:e=x∨H e=some (.own x)) (k:∀ b u,b≠e→h.get? b=some u→h'.get? b=some u) (heo:∃ u,h'.get? e=some u):Un fs ex H (upd H x o) h h':=by
 have hx:∀ b,H b=none→b≠x:=fun b n z=>by subst z; rw [n] at mu; exact mu
 have hb:∀ b,H b=none→b≠e:=fun b n z=>by
  subst z
  rcases he with r | r
  ·exact hx b n r
  ·rw [n] at r; cases r
 have hm:∀ b u,H b=some u→¬ Mut (some u)→b≠x:=fun b u q nm z=>by subst z; rw [q] at mu; exact nm mu
 refine ⟨fun b u q n _ _=>k b u (hb b n) q,fun b u q n _ _=>⟨u.slots,k b u (hb b n) q⟩,fun b u q n _=>by rw [zl (hx b n)]; exact n,fun b u q _=>?_,
  fun b xs q=>by rw [zl (hm b _ q fun z=>z)]; exact q,fun b u xs q=>by rw [zl (hm b _ q fun z=>z)]; exact q,fun b ps q=>⟨#[],by rw [zl (hm b _ q fun z=>z),q]; simp⟩⟩
 by_cases hbe:b=e
 ·subst hbe; exact heo
 ·exact ⟨u,k b u hbe q⟩
theorem Un.mono (u:Un fs ex H H1 h h1) (hs:∀ b∈fs,b∈fs') (hx:∀ b∈ex,b∈ex'):Un fs' ex' H H1 h h1:=
 ⟨fun b ob q n hb he=>u.keep b ob q n (fun z=>hb (hs b z)) fun z=>he (hx b z),fun _ _ q n _ he=>u.any q n fun z=>he (hx _ z),fun b ob q n he=>u.free b ob q n fun z=>he (hx b z),fun b ob q he=>u.there b ob q fun z=>he (hx b z),u.tups,u.frzs,u.tbls⟩
end
def trk (h:Heap) (H:Hp):List Addr:=(List.range h.objs.size).filter fun a=>(H a).isSome
def sP (h:Heap) (H:Hp):Heap:=PySem.W.hideAll h (trk h H)
theorem oZ (h:Heap) (H:Hp):(sP h H).objs.size=h.objs.size:=PySem.W.hideAll_size _ _
theorem kh {h:Heap} {H:Hp} {b:Addr} {o:Obj} (e:h.get? b=some o) (n:H b=none):(sP h H).get? b=some o:=
 PySem.W.hideAll_get _ e fun hm=>by
  have q:(H b).isSome=true:=(List.mem_filter.mp hm).2
  rw [n] at q; simp at q
theorem jQ {h:Heap} {H:Hp} {b:Addr} {o:Obj} (e:(sP h H).get? b=some o):h.get? b=some o∧H b=none:=by
 have e':h.get? b=some o:=PySem.W.of_hideAll (trk h H) e
 refine ⟨e',?_⟩
 cases q:H b with
 | none=>rfl
 | some x=>
  have hm:b∈trk h H:=List.mem_filter.mpr ⟨List.mem_range.mpr (Heap.lt_size e'),by simp [q]⟩
  have z:(sP h H).get? b=none:=PySem.W.hideAll_none (trk h H) hm
  rw [z] at e; cases e
def dG (g h:Heap) (L:Addr):List (Addr × Obj):=(List.range h.objs.size).filterMap fun a=>if a=L∨(g.get? a).isSome=true then none else (h.get? a).map fun o=>(a,o)
def zW (g h:Heap) (L d:Addr):List (Addr × Obj):=(dG g h L).filter fun p=>decide (p.1≠d)
end L2
namespace L2
open PySem PySem.Spec PyProof.Rows
structure Mod (K:PySem.W.Frag) (mg:Str→Option Value) (base:Heap):Prop where
 kin:K.In base
 glob:base.Ns mainGlobals mg
 blt:∃ mb,base.Ns builtinsNs mb∧∀ x:Str,x≠"__name__"→mb x=bootBuiltins x
 nolimit:base.NoLimit
structure Cx where
 prog:Program
 w:World
 K:PySem.W.Frag
 mg:Str→Option Value
 base:Heap
 A:Around
 N:List Str
 s₀:Shared
 H₀:Hp
 env:Env
 outer:List Env
 stack:List Env
 ex:List Addr
 fn:Str→Bool
 calm:Bool
 pn:List (Addr × Obj)
 xe:Value→Shared→Prop
def frs (l:List Env):List Addr:=l.filterMap (·.frame)
abbrev Cx.fs (X:Cx):List Addr:=frs X.outer
def Vis (sc:Scope) (x:Str):Prop:=sc.names.lookup x=some .local∨sc.names.lookup x=some .cell∨sc.names.lookup x=some .free
def Loc (sc:Scope) (x:Str):Prop:=sc.names.lookup x=some .local∨sc.names.lookup x=some .cell
def Vd (env:Env) (h:Heap) (m:Str→Option Value) (x:Str) (u:Value):Prop:=
 (env.kindOf x=some .local∧m x=some u)∨((env.kindOf x=some .cell∨env.kindOf x=some .free)∧∃ c,env.cells.lookup x=some c∧h.IsCell c (some u))
structure Cx.Ok (X:Cx):Prop where
 mod:Mod X.K X.mg X.base
 kind:X.env.scope.kind=.function
 glob:X.env.globals=mainGlobals
 blt:X.env.builtins=builtinsNs
 above:X.s₀.heap.objs.size≤X.env.locals
 inj:∀ x y c,X.env.cells.lookup x=some c→X.env.cells.lookup y=some c→x=y
 has:∀ x,(X.env.kindOf x=some .cell∨X.env.kindOf x=some .free)→∃ c,X.env.cells.lookup x=some c
 cab:∀ x c,X.fn x=true→X.env.cells.lookup x=some c→X.s₀.heap.objs.size≤c
 hd:X.calm=true→X.A.handled=none
 frames:X.A.frames=some X.stack
 stk:X.stack=X.outer∨(X.stack=X.env::X.outer∧X.env.frame=some X.env.locals)
 exf:∀ b∈X.ex,b≠X.env.locals∧∀ x c,X.env.cells.lookup x=some c→c≠b
 bs:∀ b o,X.base.get? b=some o→X.s₀.heap.get? b=some o∧X.H₀ b=none
 bsz:X.base.objs.size≤X.s₀.heap.objs.size
 noex:∀ b o,X.base.get? b=some o→b∉X.ex
 exfs:∀ b∈X.ex,b∉X.fs
 funs:X.s₀.heap.FunFrames X.base X.outer
 frf:∀ b∈X.fs,X.H₀ b=none
structure Inv (X:Cx) (pins:List (Addr × Obj)) (σ:List (Option V)) (H:Hp) (s:Shared):Prop where
 ok:X.Ok
 os:s.os=X.s₀.os
 bare:AllBare s.gens
 base:Un X.fs X.ex X.H₀ H X.s₀.heap s.heap
 loc:∃ m,s.heap.Ns X.env.locals m∧∀ (i:Nat) (x:Str) (v:V),X.N[i]? = some x→σ[i]? = some (some v)→Vis X.env.scope x→∃ u,RelV v u∧Vd X.env s.heap m x u
 cell:∀ x c,X.env.cells.lookup x=some c→∃ v,s.heap.IsCell c v
 free:H X.env.locals=none
 freeC:∀ x c,X.env.cells.lookup x=some c→H c=none
 pin:∀ p∈X.pn++pins,s.heap.get? p.1=some p.2∧H p.1=none∧p.1≠X.env.locals∧p.1∉X.fs∧∀ v,p.2.data≠.cell v
 hok:HOk X.prog X.w H s.heap
 len:σ.length=X.N.length
section
variable {X:Cx} {pins:List (Addr × Obj)} {σ:List (Option V)} {H H':Hp} {s:Shared} {h':Heap}
theorem Cx.Ok.nofr (ok:X.Ok) {b:Addr} {o:Obj} (e:X.base.get? b=some o):b∉X.fs:=fun hb=>by
 have:=(ok.funs.mem hb).1
 rw [e] at this; cases this
theorem Inv.bs (I:Inv X pins σ H s):∀ b o,X.base.get? b=some o→s.heap.get? b=some o∧H b=none:=fun b o e=>
 ⟨I.base.keep b o (I.ok.bs b o e).1 (I.ok.bs b o e).2 (I.ok.nofr e) (I.ok.noex b o e),I.base.free b o (I.ok.bs b o e).1 (I.ok.bs b o e).2 (I.ok.noex b o e)⟩
theorem Inv.bk (I:Inv X pins σ H s):∀ b o,X.base.get? b=some o→s.heap.get? b=some o:=fun b o e=>(I.bs b o e).1
theorem Inv.mod (I:Inv X pins σ H s):Mod X.K X.mg X.base:=I.ok.mod
theorem Inv.kIn (I:Inv X pins σ H s):X.K.In s.heap:=I.ok.mod.kin.keeps I.bk
theorem Inv.nolimit (I:Inv X pins σ H s):s.heap.NoLimit:=I.ok.mod.nolimit.keeps I.bk
theorem Inv.fr (I:Inv X pins σ H s):∃ m,Fr X.base X.env.locals s.heap m:=
 let ⟨m,hn,_⟩:=I.loc
 ⟨m,hn,I.bk,Nat.le_trans I.ok.bsz I.ok.above⟩
theorem Inv.lt (I:Inv X pins σ H s):X.env.locals<s.heap.objs.size:=let ⟨_,hn,_⟩:=I.loc; hn.lt
theorem Inv.sz (I:Inv X pins σ H s):X.s₀.heap.objs.size≤s.heap.objs.size:=Nat.le_trans I.ok.above (Nat.le_of_lt I.lt)
theorem Inv.nofs (I:Inv X pins σ H s) {a:Addr} (h:s.heap.objs.size≤a):a∉X.fs:=fun hb=>by
 obtain ⟨_,o,ho,_⟩:=I.ok.funs.mem hb
 exact absurd (Nat.lt_of_lt_of_le (Heap.lt_size ho) (Nat.le_trans I.sz h)) (Nat.lt_irrefl _)
theorem Inv.cne (I:Inv X pins σ H s):∀ x c,X.env.cells.lookup x=some c→c≠X.env.locals:=fun x c e z=>by
 obtain ⟨v,o,ho,hd⟩:=I.cell x c e
 obtain ⟨m,⟨o',es,ep,ho',hd',_⟩,_⟩:=I.loc
 rw [z,ho'] at ho; cases ho; rw [hd'] at hd; cases hd
theorem Inv.funs (I:Inv X pins σ H s):s.heap.FunFrames X.base X.outer:=by
 have all:∀ (l:List Env),(∀ b∈frs l,b∈X.fs)→X.s₀.heap.FunFrames X.base l→s.heap.FunFrames X.base l:=by
  intro l
  induction l with
  | nil=>intro _ _; trivial
  | cons env r ih=>
   intro hs hl
   obtain ⟨hk,⟨L,o,hf,hn,ho,hd⟩,hr⟩:=hl
   have hL:L∈X.fs:=hs L (by unfold frs; rw [List.filterMap_cons,hf]; exact List.mem_cons_self)
   obtain ⟨sl,e⟩:=I.base.slot L o ho (I.ok.frf L hL) hL fun z=>I.ok.exfs L z hL
   exact ⟨hk,⟨L,_,hf,hn,e,hd⟩,ih (fun b hb=>hs b (by unfold frs; rw [List.filterMap_cons,hf]; exact List.mem_cons_of_mem _ hb)) hr⟩
 exact all X.outer (fun _ hb=>hb) I.ok.funs
theorem Inv.stack (I:Inv X pins σ H s):s.heap.FunFrames X.base X.stack:=by
 rcases I.ok.stk with e | ⟨e,hf⟩
 ·rw [e]; exact I.funs
 ·rw [e]
  obtain ⟨m,hn,_⟩:=I.loc
  refine .cons (by rw [I.ok.kind]; decide) hf hn ?_ I.funs
  exact Heap.get?_none_of_le (Nat.le_trans I.ok.bsz I.ok.above)
theorem Inv.stkSub (I:Inv X pins σ H s):∀ b∈frs X.stack,b∈X.env.locals::X.fs:=fun b hb=>by
 rcases I.ok.stk with e | ⟨e,hf⟩
 ·rw [e] at hb; exact List.mem_cons_of_mem _ hb
 ·rw [e] at hb
  unfold frs at hb
  rw [List.filterMap_cons,hf] at hb
  exact hb
theorem Inv.stkFree (I:Inv X pins σ H s):∀ b∈frs X.stack,H b=none:=fun b hb=>by
 rcases List.mem_cons.mp (I.stkSub b hb) with e | hb
 ·rw [e]; exact I.free
 ·obtain ⟨_,o,ho,_⟩:=I.ok.funs.mem hb
  exact I.base.free b o ho (I.ok.frf b hb) fun z=>I.ok.exfs b z hb
theorem Inv.step {g':Array GenState} {t':Nat} {d':Drawn} {ch:List Addr} (I:Inv X pins σ H s)
  (hch:∀ b∈ch,(b∈X.ex∨X.s₀.heap.objs.size≤b)∧b≠X.env.locals∧(∀ x c,X.env.cells.lookup x=some c→c≠b)∧∀ p∈X.pn++pins,p.1≠b)
  (keep:∀ b o,b≠X.env.locals→b∉X.fs→b∉ch→s.heap.get? b=some o→H b=none→h'.get? b=some o)
  (slot:∀ b o,b≠X.env.locals→b∈X.fs→b∉ch→s.heap.get? b=some o→H b=none→∃ sl,h'.get? b=some { o with slots:=sl }) (free:∀ b o,b∉ch→s.heap.get? b=some o→H b=none→H' b=none)
  (there:∀ b o,b∉ch→s.heap.get? b=some o→∃ o',h'.get? b=some o')
  (tups:∀ b xs,H b=some (.tup xs)→H' b=some (.tup xs)) (frzs:∀ b o u,H b=some (.frz o u)→H' b=some (.frz o u)) (tbls:∀ b ps,H b=some (.tbl ps)→∃ more,H' b=some (.tbl (ps++more)))
  (ns:∀ m,s.heap.Ns X.env.locals m→h'.Ns X.env.locals m) (hok:HOk X.prog X.w H' h') (hg:AllBare g'):
  Inv X pins σ H' { s with heap:=h',gens:=g',drawn:=d',toks:=t' }:=by
 have neL:∀ b o,X.s₀.heap.get? b=some o→b≠X.env.locals:=fun b o e=>Nat.ne_of_lt (Nat.lt_of_lt_of_le (Heap.lt_size e) I.ok.above)
 have neC:∀ b o,X.s₀.heap.get? b=some o→b∉X.ex→b∉ch:=fun b o e hx hb=>by
  rcases (hch b hb).1 with z | z
  ·exact hx z
  ·exact absurd (Nat.lt_of_lt_of_le (Heap.lt_size e) z) (Nat.lt_irrefl _)
 have cellK:∀ x c,X.env.cells.lookup x=some c→∀ v,s.heap.IsCell c v→h'.IsCell c v:=fun x c e v ⟨o,ho,hd⟩=>by
  have nch:c∉ch:=fun z=>(hch c z).2.2.1 x c e rfl
  by_cases hc:c∈X.fs
  ·obtain ⟨sl,q⟩:=slot c o (I.cne x c e) hc nch ho (I.freeC x c e)
   exact ⟨_,q,hd⟩
  ·exact ⟨o,keep c o (I.cne x c e) hc nch ho (I.freeC x c e),hd⟩
 refine ⟨I.ok,I.os,hg,⟨fun b o e n hb hx=>?_,fun b o e n hb hx=>?_,fun b o e n hx=>?_,fun b o e hx=>?_,fun b xs e=>tups b xs (I.base.tups b xs e),fun b o xs e=>frzs b o xs (I.base.frzs b o xs e),fun b ps e=>?_⟩,?_,fun x c e=>?_,?_,fun x c e=>?_,fun p hp=>?_,hok,I.len⟩
 ·exact keep b o (neL b o e) hb (neC b o e hx) (I.base.keep b o e n hb hx) (I.base.free b o e n hx)
 ·obtain ⟨sl,e1⟩:=I.base.slot b o e n hb hx
  obtain ⟨sl',e2⟩:=slot b _ (neL b o e) hb (neC b o e hx) e1 (I.base.free b o e n hx)
  exact ⟨sl',e2⟩
 ·obtain ⟨o',e1⟩:=I.base.there b o e hx
  exact free b o' (neC b o e hx) e1 (I.base.free b o e n hx)
 ·obtain ⟨o',e1⟩:=I.base.there b o e hx
  exact there b o' (neC b o e hx) e1
 ·obtain ⟨m1,e1⟩:=I.base.tbls b ps e
  obtain ⟨m2,e2⟩:=tbls b _ e1
  exact ⟨m1++m2,by rw [e2,Array.append_assoc]⟩
 ·obtain ⟨m,hn,hl⟩:=I.loc
  refine ⟨m,ns m hn,fun i x v e1 e2 e3=>?_⟩
  obtain ⟨u,r,l⟩:=hl i x v e1 e2 e3
  refine ⟨u,r,?_⟩
  rcases l with l | ⟨k,c,e,z⟩
  ·exact .inl l
  ·exact .inr ⟨k,c,e,cellK x c e _ z⟩
 ·obtain ⟨v,z⟩:=I.cell x c e
  exact ⟨v,cellK x c e v z⟩
 ·obtain ⟨m,⟨o,_,_,ho,_⟩,_⟩:=I.loc
  exact free _ o (fun z=>(hch _ z).2.1 rfl) ho I.free
 ·obtain ⟨v,o,ho,hd⟩:=I.cell x c e
  exact free c o (fun z=>(hch c z).2.2.1 x c e rfl) ho (I.freeC x c e)
 ·obtain ⟨e,n,ne,nf,d⟩:=I.pin p hp
  have nch:p.1∉ch:=fun z=>(hch p.1 z).2.2.2 p hp rfl
  exact ⟨keep p.1 p.2 ne nf nch e n,free p.1 p.2 nch e n,ne,nf,d⟩
theorem Inv.un {t':Nat} (I:Inv X pins σ H s) (u:Un X.fs [] H H' s.heap h') (hok:HOk X.prog X.w H' h'):Inv X pins σ H' { s with heap:=h',toks:=t' }:=by
 obtain ⟨m,⟨o,es,ep,ho,r⟩,_⟩:=id I.loc
 obtain ⟨sl,hL⟩:=u.any ho I.free (by simp)
 exact I.step (g':=s.gens) (d':=s.drawn) (ch:=[]) (fun _ z=>nomatch z) (fun b o _ hb _ e n=>u.keep b o e n hb (by simp)) (fun b o _ hb _ e n=>u.slot b o e n hb (by simp)) (fun b o _ e n=>u.free b o e n (by simp)) (fun b o _ e=>u.there b o e (by simp)) u.tups u.frzs u.tbls (fun m' hm=>by
  obtain ⟨o',es',ep',ho',r'⟩:=hm
  rw [ho] at ho'; cases ho'
  exact ⟨_,es',ep',hL,r'⟩) hok I.bare
theorem Inv.call {g':Array GenState} {t':Nat} {d':Drawn} {ch:List Addr} (I:Inv X pins σ H s) (u:Un (frs X.stack) ch H H' s.heap h') (hok:HOk X.prog X.w H' h') (hg:AllBare g')
  (hch:∀ b∈ch,(b∈X.ex∨X.s₀.heap.objs.size≤b)∧b≠X.env.locals∧(∀ x c,X.env.cells.lookup x=some c→c≠b)∧∀ p∈X.pn++pins,p.1≠b):
  Inv X pins σ H' { s with heap:=h',gens:=g',drawn:=d',toks:=t' }:=by
 obtain ⟨m,⟨o,es,ep,ho,r⟩,_⟩:=id I.loc
 obtain ⟨sl,hL⟩:=u.any ho I.free fun z=>(hch _ z).2.1 rfl
 exact I.step (ch:=ch) hch (fun b o hL hb hc e n=>u.keep b o e n (fun z=>(List.mem_cons.mp (I.stkSub b z)).elim hL hb) hc) (fun b o _ _ hc e n=>u.any e n hc) (fun b o hc e n=>u.free b o e n hc) (fun b o hc e=>u.there b o e hc) u.tups u.frzs u.tbls (fun m' hm=>by
  obtain ⟨o',es',ep',ho',r'⟩:=hm
  rw [ho] at ho'; cases ho'
  exact ⟨_,es',ep',hL,r'⟩) hok hg
theorem Inv.turned {t':Nat} {it:Addr} (I:Inv X pins σ H s) (k:∀ b o,b≠it→s.heap.get? b=some o→h'.get? b=some o) (hn:H it=none) (hL:it≠X.env.locals)
  (h1:it∈X.ex∨X.s₀.heap.objs.size≤it) (h2:∀ x c,X.env.cells.lookup x=some c→c≠it) (h3:∀ p∈X.pn++pins,p.1≠it):Inv X pins σ H { s with heap:=h',toks:=t' }:=by
 have nit:∀ b u,H b=some u→b≠it:=fun b u e z=>by rw [z,hn] at e; cases e
 refine I.step (g':=s.gens) (d':=s.drawn) (ch:=[it]) (fun b hb=>?_) (fun b o _ _ hc e _=>k b o (fun z=>hc (by simp [z])) e) (fun b o _ _ hc e _=>⟨o.slots,k b o (fun z=>hc (by simp [z])) e⟩) (fun _ _ _ _ n=>n)
  (fun b o hc e=>⟨o,k b o (fun z=>hc (by simp [z])) e⟩) (fun _ _ e=>e) (fun _ _ _ e=>e) (fun b ps e=>⟨#[],by rw [e]; simp⟩) (fun m hm=>?_) (fun b u e=>?_) I.bare
 ·have e:b=it:=by simpa using hb
  subst e
  exact ⟨h1,hL,h2,h3⟩
 ·obtain ⟨o,es,ep,ho,r⟩:=hm
  exact ⟨o,es,ep,k _ o (Ne.symm hL) ho,r⟩
 ·refine (I.hok b u e).stay (fun c v hc q=>k c v ?_ q) (fun _ q=>q) fun _ _ q=>q
  rcases hc with z | z
  ·rw [z]; exact nit b u e
  ·exact nit c _ z
theorem Inv.tok (I:Inv X pins σ H s) (t:Nat):Inv X pins σ H { s with toks:=t }:=I.un (h':=s.heap) (t':=t) Un.refl I.hok
theorem Inv.kept {t':Nat} (I:Inv X pins σ H s) (k:∀ b u,s.heap.get? b=some u→h'.get? b=some u):Inv X pins σ H { s with heap:=h',toks:=t' }:=I.un (Un.kept k) (I.hok.kept k)
theorem Inv.laid {a:Addr} {o:HO} {t':Nat} (I:Inv X pins σ H s) (k:∀ b u,s.heap.get? b=some u→h'.get? b=some u) (hp:s.heap.objs.size≤a) (new:ObjOk X.prog X.w (upd H a o) h' a o):
  Inv X pins σ (upd H a o) { s with heap:=h',toks:=t' }:=I.un (Un.laid k hp (I.hok.fresh hp)) (I.hok.laid k hp new)
theorem Inv.write {x e:Addr} {o:HO} {t':Nat} (I:Inv X pins σ H s) (mu:Mut (H x)) (he:e=x∨H e=some (.own x)) (k:∀ b u,b≠e→s.heap.get? b=some u→h'.get? b=some u) (heo:∃ u,h'.get? e=some u)
  (new:ObjOk X.prog X.w (upd H x o) h' x o):Inv X pins σ (upd H x o) { s with heap:=h',toks:=t' }:=I.un (Un.write mu he k heo) (I.hok.write mu he k heo new)
theorem Inv.weak {σ':List (Option V)} (I:Inv X pins σ H s) (hl:σ'.length=σ.length) (w:∀ (i:Nat) v,σ'[i]? = some (some v)→σ[i]? = some (some v)):Inv X pins σ' H s:=
 ⟨I.ok,I.os,I.bare,I.base,let ⟨m,hn,hl'⟩:=I.loc; ⟨m,hn,fun i x v e1 e2 e3=>hl' i x v e1 (w i v e2) e3⟩,I.cell,I.free,I.freeC,I.pin,I.hok,hl.trans I.len⟩
theorem Inv.pins_of {pins':List (Addr × Obj)} (I:Inv X pins σ H s) (h:∀ p∈pins',s.heap.get? p.1=some p.2∧H p.1=none∧p.1≠X.env.locals∧p.1∉X.fs∧∀ v,p.2.data≠.cell v):Inv X pins' σ H s:=
 ⟨I.ok,I.os,I.bare,I.base,I.loc,I.cell,I.free,I.freeC,fun p hp=>(List.mem_append.mp hp).elim (fun z=>I.pin p (List.mem_append_left _ z)) (h p),I.hok,I.len⟩
theorem uA {N:List Str} (hN:N.Nodup) {i j:Nat} {x:Str} (a:N[i]? = some x) (b:N[j]? = some x):i=j:=by
 obtain ⟨h1,e1⟩:=List.getElem?_eq_some_iff.mp a
 obtain ⟨h2,e2⟩:=List.getElem?_eq_some_iff.mp b
 exact (List.getElem_inj hN).mp (e1.trans e2.symm)
theorem tO {M:Model} {A:Around} {E:Value→Shared→Prop} {i:Nat} {x:Str} {v:V} {u:Value} {Q:Unit→Shared→Prop} (I:Inv X pins σ H s) (hN:X.N.Nodup) (hi:X.N[i]? = some x) (hx:Loc X.env.scope x) (r:RelV v u)
  (h:∀ s',Inv X pins (σ.set i (some v)) H s'→(∃ a,Heap.SameBut a s.heap s'.heap∧(a=X.env.locals∨X.env.cells.lookup x=some a))→Q () s') (hf:X.fn x=true∨X.env.scope.names.lookup x=some .local:=by first | exact .inl rfl | exact .inr rfl | assumption):wpAny M A (storeName X.env x u) Q E s:=by
 obtain ⟨m,hn,hl⟩:=id I.loc
 have hcls:(X.env.scope.kind == .class || (X.env.scope.kind == .module && X.env.locals != X.env.globals))=false:=by rw [I.ok.kind]; rfl
 have hiσ:i<σ.length:=by rw [I.len]; exact (List.getElem?_eq_some_iff.mp hi).1
 have cne:=I.cne
 have tracked:∀ {a:Addr} {h':Heap},(∃ o,s.heap.get? a=some o∧H a=none)→Heap.SameBut a s.heap h'→HOk X.prog X.w H h':=fun {a h'} ha hs b ob e=>by
  obtain ⟨_,_,hfree⟩:=ha
  refine (I.hok b ob e).stay (fun c w' hc q=>(hs.2 c ?_).trans q) (fun _ q=>q) fun _ _ q=>q
  rintro rfl
  rcases hc with rfl | hc
  ·rw [hfree] at e; cases e
  ·rw [hfree] at hc; cases hc
 rcases hx with hk | hk
 ·refine wpAny_storeName_local hk hn (fun h' hn' hs=>?_) hcls
  obtain ⟨oL,_,_,hoL,_⟩:=id hn
  refine h _ ⟨I.ok,I.os,I.bare,⟨fun b o e n hb hx=>?_,fun b o e n hb hx=>?_,I.base.free,fun b o e hx=>?_,I.base.tups,I.base.frzs,I.base.tbls⟩,⟨_,hn',fun j y v' e1 e2 e3=>?_⟩,fun y c e=>?_,I.free,I.freeC,fun p hp=>?_,tracked ⟨oL,hoL,I.free⟩ hs,by simpa using I.len⟩ ⟨_,hs,.inl rfl⟩
  ·exact (hs.2 b (Nat.ne_of_lt (Nat.lt_of_lt_of_le (Heap.lt_size e) I.ok.above))).trans (I.base.keep b o e n hb hx)
  ·obtain ⟨sl,e1⟩:=I.base.slot b o e n hb hx
   exact ⟨sl,(hs.2 b (Nat.ne_of_lt (Nat.lt_of_lt_of_le (Heap.lt_size e) I.ok.above))).trans e1⟩
  ·obtain ⟨o',e1⟩:=I.base.there b o e hx
   exact ⟨o',(hs.2 b (Nat.ne_of_lt (Nat.lt_of_lt_of_le (Heap.lt_size e) I.ok.above))).trans e1⟩
  ·by_cases hj:j=i
   ·subst hj
    rw [hi] at e1; cases e1
    rw [List.getElem?_set_self hiσ] at e2
    cases e2
    exact ⟨u,r,.inl ⟨hk,by simp⟩⟩
   ·rw [List.getElem?_set_ne (Ne.symm hj)] at e2
    obtain ⟨u',r',q⟩:=hl j y v' e1 e2 e3
    refine ⟨u',r',?_⟩
    rcases q with ⟨k,e⟩ | ⟨k,c,e,z⟩
    ·refine .inl ⟨k,?_⟩
     have:y≠x:=fun e=>hj (uA hN e1 (e ▸ hi))
     simp [this,e]
    ·exact .inr ⟨k,c,e,z.sameBut hs (cne y c e)⟩
  ·obtain ⟨w',z⟩:=I.cell y c e
   exact ⟨w',z.sameBut hs (cne y c e)⟩
  ·obtain ⟨e,n,ne,nf,d⟩:=I.pin p hp
   exact ⟨(hs.2 p.1 ne).trans e,n,ne,nf,d⟩
 ·have hfn:X.fn x=true:=by
   rcases hf with z | z
   ·exact z
   ·rw [z] at hk; cases hk
  obtain ⟨c,hc⟩:=I.ok.has x (.inl hk)
  obtain ⟨w',z⟩:=I.cell x c hc
  refine wpAny_storeName_cell I.ok.kind hk hc z (fun h' hc' hs=>?_)
  obtain ⟨oc,hoc,hocd⟩:=id z
  refine h { s with heap:=h' } ⟨I.ok,I.os,I.bare,⟨fun b o e n hb hx=>?_,fun b o e n hb hx=>?_,I.base.free,fun b o e hx=>?_,I.base.tups,I.base.frzs,I.base.tbls⟩,⟨m,hn.sameBut hs (Ne.symm (cne x c hc)),fun j y v' e1 e2 e3=>?_⟩,fun y c' e=>?_,I.free,I.freeC,fun p hp=>?_,tracked ⟨oc,hoc,I.freeC x c hc⟩ hs,by simpa using I.len⟩ ⟨c,hs,.inr hc⟩
  ·exact (hs.2 b (Nat.ne_of_lt (Nat.lt_of_lt_of_le (Heap.lt_size e) (I.ok.cab x c hfn hc)))).trans (I.base.keep b o e n hb hx)
  ·obtain ⟨sl,e1⟩:=I.base.slot b o e n hb hx
   exact ⟨sl,(hs.2 b (Nat.ne_of_lt (Nat.lt_of_lt_of_le (Heap.lt_size e) (I.ok.cab x c hfn hc)))).trans e1⟩
  ·obtain ⟨o',e1⟩:=I.base.there b o e hx
   exact ⟨o',(hs.2 b (Nat.ne_of_lt (Nat.lt_of_lt_of_le (Heap.lt_size e) (I.ok.cab x c hfn hc)))).trans e1⟩
  ·by_cases hj:j=i
   ·subst hj
    rw [hi] at e1; cases e1
    rw [List.getElem?_set_self hiσ] at e2
    cases e2
    exact ⟨u,r,.inr ⟨.inl hk,c,hc,hc'⟩⟩
   ·rw [List.getElem?_set_ne (Ne.symm hj)] at e2
    obtain ⟨u',r',q⟩:=hl j y v' e1 e2 e3
    refine ⟨u',r',?_⟩
    rcases q with q | ⟨k,c',e,z'⟩
    ·exact .inl q
    ·refine .inr ⟨k,c',e,z'.sameBut hs ?_⟩
     rintro rfl
     exact hj (uA hN e1 (I.ok.inj _ _ _ e hc ▸ hi))
  ·by_cases hcc:c'=c
   ·subst hcc; exact ⟨_,hc'⟩
   ·obtain ⟨w2,z2⟩:=I.cell y c' e
    exact ⟨w2,z2.sameBut hs hcc⟩
  ·obtain ⟨e,n,ne,nf,d⟩:=I.pin p hp
   refine ⟨(hs.2 p.1 ?_).trans e,n,ne,nf,d⟩
   intro q
   rw [q,hoc] at e
   have q':oc=p.2:=Option.some.inj e
   exact d w' (by rw [← q']; exact hocd)
theorem xw {M:Model} {A:Around} {E:Value→Shared→Prop} {i:Nat} {x:Str} {v:V} {u:Value} {Q:Unit→Shared→Prop} (I:Inv X pins σ H s) (hN:X.N.Nodup) (hi:X.N[i]? = some x) (hx:Loc X.env.scope x) (r:RelV v u)
  (h:∀ s',Inv X pins (σ.set i (some v)) H s'→Q () s') (hf:X.fn x=true∨X.env.scope.names.lookup x=some .local:=by first | exact .inl rfl | exact .inr rfl | assumption):wpAny M A (storeName X.env x u) Q E s:=
 tO I hN hi hx r (fun s' I' _=>h s' I') hf
theorem Inv.call' {s':Shared} {ch:List Addr} (I:Inv X pins σ H s) (ho:s'.os=s.os) (u:Un (frs X.stack) ch H H' s.heap s'.heap) (hok:HOk X.prog X.w H' s'.heap) (hg:AllBare s'.gens)
  (hch:∀ b∈ch,(b∈X.ex∨X.s₀.heap.objs.size≤b)∧b≠X.env.locals∧(∀ x c,X.env.cells.lookup x=some c→c≠b)∧∀ p∈X.pn++pins,p.1≠b):Inv X pins σ H' s':=by
 obtain ⟨h',g',d',t',o'⟩:=s'
 have e:o'=s.os:=ho
 subst e
 exact I.call (g':=g') (t':=t') (d':=d') u hok hg hch
end
abbrev XK:=Value→Option Addr→Hp→Prop
abbrev St:=List (Option V)
abbrev VK:=V→Hp→Prop
abbrev TE:=St→Hp→VK→Prop
abbrev TT:=St→Hp→(Bool→Hp→Prop)→Prop
abbrev TA:=St→Hp→(List V→Hp→Prop)→Prop
structure Ends where
 nx:St→Hp→Prop
 rt:VK
 bk:St→Hp→Prop:=fun _ _=>False
 ct:St→Hp→Prop:=fun _ _=>False
abbrev TS:=Ends→St→Hp→Prop
def EP (X:Cx) (pins:List (Addr × Obj)) (σ:St) (Q:VK) (u:Value) (s':Shared):Prop:=∃ v H',Inv X pins σ H' s'∧RelV v u∧Q v H'
def TP (X:Cx) (pins:List (Addr × Obj)) (σ:St) (Q:Bool→Hp→Prop) (b:Bool) (s':Shared):Prop:=∃ H',Inv X pins σ H' s'∧Q b H'
def AP (X:Cx) (pins:List (Addr × Obj)) (σ:St) (Q:List V→Hp→Prop) (us:List Value) (s':Shared):Prop:=∃ vs H',Inv X pins σ H' s'∧Vals vs us∧Q vs H'
def SP (X:Cx) (pins:List (Addr × Obj)) (D:Ends) (f:Flow) (s':Shared):Prop:=
 match f with
 | .next=>∃ σ' H',Inv X pins σ' H' s'∧D.nx σ' H'
 | .brk=>∃ σ' H',Inv X pins σ' H' s'∧D.bk σ' H'
 | .cont=>∃ σ' H',Inv X pins σ' H' s'∧D.ct σ' H'
 | .ret u=>∃ v σ' H',Inv X pins σ' H' s'∧RelV v u∧D.rt v H'
def PE (X:Cx) (e:Expr) (t:TE):Prop:=
 ∀ (pins:List (Addr × Obj)) (s:Shared) (σ:St) (H:Hp) (Q:VK),Inv X pins σ H s→t σ H Q→wpAny (model X.prog X.w) X.A (eval e X.env) (EP X pins σ Q) X.xe s
def PT (X:Cx) (e:Expr) (t:TT):Prop:=
 ∀ (pins:List (Addr × Obj)) (s:Shared) (σ:St) (H:Hp) (Q:Bool→Hp→Prop),Inv X pins σ H s→t σ H Q→wpAny (model X.prog X.w) X.A (isTrue e X.env (eval e X.env)) (TP X pins σ Q) X.xe s
def PW (X:Cx) (e:Expr) (t:TT):Prop:=
 ∀ (whole:Sem Value) (pins:List (Addr × Obj)) (s:Shared) (σ:St) (H:Hp) (Q:Bool→Hp→Prop),Inv X pins σ H s→t σ H Q→wpAny (model X.prog X.w) X.A (isTrue e X.env whole) (TP X pins σ Q) X.xe s
theorem PW.pt {X:Cx} {e:Expr} {t:TT} (h:PW X e t):PT X e t:=h _
def PA (X:Cx) (es:List Expr) (t:TA):Prop:=
 ∀ (pos:Pos) (pins:List (Addr × Obj)) (s:Shared) (σ:St) (H:Hp) (Q:List V→Hp→Prop),Inv X pins σ H s→t σ H Q→wpAny (model X.prog X.w) X.A (spliced (backTo pos (starEach es X.env))) (AP X pins σ Q) X.xe s
def PS (X:Cx) (st:Stmt) (t:TS):Prop:=
 ∀ (pins:List (Addr × Obj)) (s:Shared) (σ:St) (H:Hp) (D:Ends),Inv X pins σ H s→t D σ H→wpAny (model X.prog X.w) X.A (exec st X.env) (SP X pins D) X.xe s
def PSs (X:Cx) (st:List Stmt) (t:TS):Prop:=
 ∀ (pins:List (Addr × Obj)) (s:Shared) (σ:St) (H:Hp) (D:Ends),Inv X pins σ H s→t D σ H→wpAny (model X.prog X.w) X.A (execs st X.env) (SP X pins D) X.xe s
theorem thn {α:Type} {t:Sem α} {Q Q':α→Shared→Prop} {M:Model} {A:Around} {E:Value→Shared→Prop} {s:Shared} (h:wpAny M A t Q E s) (hQ:∀ a s,Q a s→Q' a s):wpAny M A t Q' E s:=wpAny_mono h hQ fun _ _ x=>x
end L2
namespace L2
open PySem PySem.Spec PyProof.Rows
section
variable {X:Cx}
theorem bin {a b:Expr} {ta tb:TE} (ha:PE X a ta) (hb:PE X b tb) {pins:List (Addr × Obj)} {s:Shared} {σ:St} {H:Hp} {R:V→V→Hp→Prop} (I:Inv X pins σ H s) (h:ta σ H fun x H1=>tb σ H1 fun y H2=>R x y H2)
  {α:Type} {Q:α→Shared→Prop} {f:Value→Value→Sem α}
  (hf:∀ v u s2 x y H2,Inv X pins σ H2 s2→RelV x v→RelV y u→R x y H2→wpAny (model X.prog X.w) X.A (f v u) Q X.xe s2):
  wpAny (model X.prog X.w) X.A (eval a X.env) (fun v s₁=>wpAny (model X.prog X.w) X.A (eval b X.env) (fun u s₂=>wpAny (model X.prog X.w) X.A (f v u) Q X.xe s₂) X.xe s₁) X.xe s:=by
 refine thn (ha pins s σ H _ I h) fun v s1 ⟨x,H1,I1,r1,q1⟩=>?_
 refine thn (hb pins s1 σ H1 _ I1 q1) fun u s2 ⟨y,H2,I2,r2,q2⟩=>?_
 exact hf v u s2 x y H2 I2 r1 r2 q2
def jw (i:Nat):TE:=fun σ H Q=>∃ v,σ[i]? = some (some v)∧Q v H
def tC (v:V):TE:=fun _ H Q=>Q v H
theorem zJ {i:Nat} {x:Str} {pos:Pos} (hN:X.N[i]? = some x) (hv:Vis X.env.scope x) (hd:(x == ("__debug__":Str))=false:=by decide) (hcd:(x == ("__classdict__":Str))=false:=by decide):PE X (.Name x pos) (jw i):=by
 intro pins s σ H Q I h
 obtain ⟨v,e,h⟩:=h
 obtain ⟨m,hn,hl⟩:=I.loc
 obtain ⟨u,r,l⟩:=hl i x v hN e hv
 have fin:EP X pins σ Q u s:=⟨v,H,I,r,h⟩
 rcases l with ⟨hk,hm⟩ | ⟨hk,c,hc,hcell⟩
 ·exact wpAny_Name (wpAny_loadName_local I.ok.kind hk hn hm fin) hd
 ·rcases hk with hk | hk
  ·exact wpAny_Name (wpAny_loadName_cell I.ok.kind hk hc hcell fin) hd
  ·exact wpAny_Name (wpAny_loadName_free I.ok.kind hk hc hcell fin hcd) hd
theorem wg {i j pos}:PE X (.Constant (.int i) j pos) (tC (.int i)):=fun _ _ _ H _ I h=>wpAny_Constant_int ⟨.int i,H,I.tok _,⟨_,rfl⟩,h⟩
theorem Yv {b j pos}:PE X (.Constant (.bool b) j pos) (tC (.bl b)):=fun _ _ _ H _ I h=>Constant_bool ⟨.bl b,H,I,rfl,h⟩
theorem cD {j pos}:PE X (.Constant .none j pos) (tC .non):=fun _ _ _ H _ I h=>Constant_none ⟨.non,H,I,rfl,h⟩
theorem cA {x j pos}:PE X (.Constant (.str x) j pos) (tC (.str x)):=fun _ _ _ H _ I h=>Calls.Constant_str ⟨.str x,H,I.tok _,⟨_,rfl⟩,h⟩
def Gl (X:Cx) (x:Str):Prop:=X.env.kindOf x=some .globalImplicit
theorem xS {E:Value→Shared→Prop} {pins:List (Addr × Obj)} {s:Shared} {σ:St} {H:Hp} {x:Str} {u:Value} {pos:Pos} {Q:Value→Shared→Prop} (I:Inv X pins σ H s) (hg:Gl X x) (hm:X.mg x=some u) (h:Q u s)
  (hd:(x == ("__debug__":Str))=false:=by decide):wpAny (model X.prog X.w) X.A (eval (.Name x pos) X.env) Q E s:=
 Calls.Name_function_global I.ok.kind hg (Calls.loadGlobal_global (by rw [I.ok.glob]; exact I.mod.glob.keeps I.bk) hm h) hd
theorem vp {E:Value→Shared→Prop} {pins:List (Addr × Obj)} {s:Shared} {σ:St} {H:Hp} {x:Str} {u:Value} {pos:Pos} {Q:Value→Shared→Prop} (I:Inv X pins σ H s) (hg:Gl X x) (hm:X.mg x=none) (hv:bootBuiltins x=some u) (h:Q u s)
  (hn:x≠"__name__":=by decide) (hd:(x == ("__debug__":Str))=false:=by decide):wpAny (model X.prog X.w) X.A (eval (.Name x pos) X.env) Q E s:=by
 obtain ⟨mb,h1,h2⟩:=I.mod.blt
 exact Calls.Name_function_global I.ok.kind hg (Calls.loadGlobal_builtin (by rw [I.ok.glob]; exact I.mod.glob.keeps I.bk) hm (by rw [I.ok.blt]; exact h1.keeps I.bk) ((h2 x hn).trans hv) h) hd
theorem vZ {x:Str} {v:V} {u:Value} {pos:Pos} (hg:Gl X x) (hm:X.mg x=some u) (r:RelV v u) (hd:(x == ("__debug__":Str))=false:=by decide):PE X (.Name x pos) (tC v):=
 fun _ _ _ H _ I h=>xS I hg hm ⟨v,H,I,r,h⟩ hd
theorem jL {x:Str} {v:V} {u:Value} {pos:Pos} (hg:Gl X x) (hm:X.mg x=none) (hv:bootBuiltins x=some u) (r:RelV v u) (hn:x≠"__name__":=by decide) (hd:(x == ("__debug__":Str))=false:=by decide):PE X (.Name x pos) (tC v):=
 fun _ _ _ H _ I h=>vp I hg hm hv ⟨v,H,I,r,h⟩ hn hd
variable {a b:Expr} {ta tb:TE} {pos:Pos}
def PC (X:Cx) (op:CmpOp) (a b:Expr) (t:TE):Prop:=
 ∀ (pins:List (Addr × Obj)) (s:Shared) (σ:St) (H:Hp) (Q:VK),Inv X pins σ H s→t σ H Q→
  wpAny (model X.prog X.w) X.A (eval a X.env) (fun v s₁=>wpAny (model X.prog X.w) X.A (eval b X.env) (fun u s₂=>wpAny (model X.prog X.w) X.A (compareOp op v u) (EP X pins σ Q) X.xe s₂) X.xe s₁) X.xe s
theorem rA (b:Expr) {op:CmpOp} (h:op≠.In) (h2:op≠.NotIn):behindInMarks op b=false:=by
 have e1:(op == CmpOp.In)=false:=by cases op <;> first | rfl | exact absurd rfl h
 have e2:(op == CmpOp.NotIn)=false:=by cases op <;> first | rfl | exact absurd rfl h2
 cases b <;> simp [behindInMarks,e1,e2]
def Yh (ta:TE):TE:=fun σ H Q=>ta σ H fun x H1=>Q (.bl (decide (x=.non))) H1
def Yc (ta:TE):TE:=fun σ H Q=>ta σ H fun x H1=>Q (.bl (!decide (x=.non))) H1
theorem RelV.none_iff {x:V} {v:Value} (r:RelV x v):(v == Value.none)=decide (x=.non):=by
 cases x with
 | non=>cases r; rfl
 | bl _=>cases r; rfl
 | int _=>obtain ⟨t,rfl⟩:=r; rfl
 | str _=>obtain ⟨t,rfl⟩:=r; rfl
 | byt _=>obtain ⟨t,rfl⟩:=r; rfl
 | flt _=>obtain ⟨t,rfl⟩:=r; rfl
 | ref _=>cases r; rfl
 | ty _=>cases r; rfl
theorem cJ {j pos'} (ha:PE X a ta):PC X .Is a (.Constant .none j pos') (Yh ta):=by
 intro pins s σ H Q I h
 refine thn (ha pins s σ H _ I h) fun v s1 ⟨x,H1,I1,r1,q1⟩=>?_
 exact Constant_none (is_none_gen ⟨.bl _,H1,I1,by rw [r1.none_iff]; rfl,q1⟩)
theorem jM {j pos'} (ha:PE X a ta):PC X .IsNot a (.Constant .none j pos') (Yc ta):=by
 intro pins s σ H Q I h
 refine thn (ha pins s σ H _ I h) fun v s1 ⟨x,H1,I1,r1,q1⟩=>?_
 exact Constant_none (isnot_none_gen ⟨.bl _,H1,I1,by rw [r1.none_iff]; rfl,q1⟩)
def tB (t:TE):TT:=fun σ H Q=>t σ H fun x H1=>∃ c,x=.bl c∧Q c H1
theorem cF {op:CmpOp} {t:TE} (h:PC X op a b t) (h1:behindInMarks op b=false:=by first | exact rA _ (by decide) (by decide) | rfl):PE X (.Compare a [op] [b] pos) t:=fun pins s σ H Q I hw=>wpAny_Compare1 (h pins s σ H Q I hw) h1
theorem nv {op:CmpOp} {t:TE} (h:PC X op a b t) (h1:behindInMarks op b=false:=by first | exact rA _ (by decide) (by decide) | rfl):PT X (.Compare a [op] [b] pos) (tB t):=by
 intro pins s σ H Q I hw
 refine wpAny_isTrue_Compare1 (thn (h pins s σ H _ I hw) fun v s1 h1=>thn h1 fun u s2 h2=>thn h2 fun c s3 ⟨x,H1,I1,r1,q1⟩=>?_) h1
 obtain ⟨d,rfl,q⟩:=q1
 cases r1
 exact wpAny_truthy_bool ⟨H1,I1,q⟩
theorem cv {e:Expr} {t:TE} (h:PE X e t) (he:∀ whole,isTrue e X.env whole=(do let v ← whole; standAt e.pos; holding [v] (truthy v)):=by intro _; rfl):PT X e (tB t):=by
 intro pins s σ H Q I hw
 refine isTrue_plain (thn (h pins s σ H _ I hw) fun v s1 ⟨x,H1,I1,r1,q1⟩=>?_) (he _)
 obtain ⟨d,rfl,q⟩:=q1
 cases r1
 exact wpAny_truthy_bool ⟨H1,I1,q⟩
variable {tA tB':TT} {zW:List Expr}
def Wm (t u:TT):TT:=fun σ H Q=>t σ H fun c H1=>if c=true then u σ H1 Q else Q false H1
def tOr (t u:TT):TT:=fun σ H Q=>t σ H fun c H1=>if c=true then Q true H1 else u σ H1 Q
def Wc (t:TT):TT:=fun σ H Q=>t σ H fun c H1=>Q (!c) H1
theorem jE (ha:PT X a tA):PW X (.BoolOp .And [a] pos) tA:=by
 intro wh pins s σ H Q I h
 refine isTrue_and (thn (ha pins s σ H Q I h) fun c s1 e=>?_)
 cases c with
 | true=>exact isTrue_and_nil e
 | false=>exact e
theorem cs (ha:PT X a tA):PW X (.BoolOp .Or [a] pos) tA:=by
 intro wh pins s σ H Q I h
 refine isTrue_or (thn (ha pins s σ H Q I h) fun c s1 e=>?_)
 cases c with
 | false=>exact isTrue_or_nil e
 | true=>exact e
theorem cu (ha:PT X a tA) (hb:PW X (.BoolOp .And (b::zW) pos) tB'):PW X (.BoolOp .And (a::b::zW) pos) (Wm tA tB'):=by
 intro wh pins s σ H Q I h
 refine isTrue_and (thn (ha pins s σ H _ I h) fun c s1 ⟨H1,I1,q1⟩=>?_)
 cases c with
 | true=>exact hb wh pins s1 σ H1 Q I1 q1
 | false=>exact ⟨H1,I1,q1⟩
theorem Ys (ha:PT X a tA) (hb:PW X (.BoolOp .Or (b::zW) pos) tB'):PW X (.BoolOp .Or (a::b::zW) pos) (tOr tA tB'):=by
 intro wh pins s σ H Q I h
 refine isTrue_or (thn (ha pins s σ H _ I h) fun c s1 ⟨H1,I1,q1⟩=>?_)
 cases c with
 | true=>exact ⟨H1,I1,q1⟩
 | false=>exact hb wh pins s1 σ H1 Q I1 q1
theorem cw (ha:PT X a tA):PT X (.UnaryOp .Not a pos) (Wc tA):=by
 intro pins s σ H Q I h
 exact isTrue_not (ha pins s σ H (fun c H1=>Q (!c) H1) I h)
def Ym (ta tb:TE):TE:=fun σ H Q=>ta σ H fun x H1=>∃ c,x=.bl c∧if c=true then tb σ H1 Q else Q (.bl false) H1
def Yb (ta:TE):TE:=fun σ H Q=>ta σ H fun x H1=>∃ c,x=.bl c∧Q (.bl (!c)) H1
theorem cB {op} {t:TE} (h:PE X a t):PE X (.BoolOp op [a] pos) t:=fun pins s σ H Q I hw=>BoolOp_one (h pins s σ H Q I hw)
theorem cG (ha:PE X a ta) (hb:PE X (.BoolOp .And (b::zW) pos) tb):PE X (.BoolOp .And (a::b::zW) pos) (Ym ta tb):=by
 intro pins s σ H Q I h
 refine BoolOp_and (thn (ha pins s σ H _ I h) fun v s1 ⟨x,H1,I1,r1,q1⟩=>?_)
 obtain ⟨c,rfl,q1⟩:=q1
 cases r1
 refine wpAny_truthy_bool ?_
 cases c with
 | true=>exact hb pins s1 σ H1 Q I1 q1
 | false=>exact ⟨.bl false,H1,I1,rfl,q1⟩
theorem cC (ha:PE X a ta):PE X (.UnaryOp .Not a pos) (Yb ta):=by
 intro pins s σ H Q I h
 refine UnaryOp_ (thn (ha pins s σ H _ I h) fun v s1 ⟨x,H1,I1,r1,q1⟩=>?_)
 obtain ⟨c,rfl,q1⟩:=q1
 cases r1
 exact not_of (wpAny_truthy_bool ⟨.bl (!c),H1,I1,rfl,q1⟩)
end
end L2
namespace L2
open PySem PySem.Spec PyProof.Rows
def SqL (K:PySem.W.Frag) (H:Hp) (a:Addr) (xs:List V):Prop:=
 Rd H a (.lst xs)∨
  ∃ (o:Obj) (its:Array Value) (n:Nat),K.lookup a=some o∧o.cls=.type "list"∧o.dict=none∧o.data=.seq its n∧its.size≤sizeLine∧Vals xs its.toList
def SqT (K:PySem.W.Frag) (H:Hp) (a:Addr) (xs:List V):Prop:=
 Rd H a (.tup xs)∨
  ∃ (o:Obj) (its:Array Value) (n:Nat),K.lookup a=some o∧o.cls=.type "tuple"∧o.data=.seq its n∧its.size≤sizeLine∧Vals xs its.toList
def Vc:Value→Option V
 | .none=>some .non
 | .bool b=>some (.bl b)
 | .int i _=>some (.int i)
 | .str x _=>some (.str x)
 | .bytes b _=>some (.byt b)
 | .float b _=>some (.flt b)
 | .ref a=>some (.ref a)
 | .type n=>some (.ty n)
 | _=>none
theorem RelV.abs {x:V} {u:Value} (r:RelV x u):Vc u=some x:=by
 cases x with
 | non=>cases r; rfl
 | bl _=>cases r; rfl
 | int _=>obtain ⟨t,rfl⟩:=r; rfl
 | str _=>obtain ⟨t,rfl⟩:=r; rfl
 | byt _=>obtain ⟨t,rfl⟩:=r; rfl
 | flt _=>obtain ⟨t,rfl⟩:=r; rfl
 | ref _=>cases r; rfl
 | ty _=>cases r; rfl
theorem RelV.inj {x y:V} {u:Value} (r:RelV x u) (q:RelV y u):x=y:=Option.some.inj (r.abs.symm.trans q.abs)
theorem Vals.inj:∀ {xs ys:List V} {us:List Value},Vals xs us→Vals ys us→xs=ys
 | _,_,_,.nil,.nil=>rfl
 | _,_,_,.cons r t,.cons r' t'=>by rw [r.inj r',Vals.inj t t']
section
variable {X:Cx} {pins:List (Addr × Obj)} {σ:St} {H:Hp} {s:Shared} {a:Addr} {xs ys:List V}
theorem SqL.of {K:PySem.W.Frag} (h:H a=some (.lst xs)):SqL K H a xs:=.inl (.inl h)
theorem SqT.of {K:PySem.W.Frag} (h:H a=some (.tup xs)):SqT K H a xs:=.inl (.inl h)
theorem Inv.list (I:Inv X pins σ H s) (h:SqL X.K H a xs):∃ its:List Value,Vals xs its∧PlainL s.heap a its.toArray∧xs.length≤sizeLine:=by
 rcases h with h | ⟨o,its,n,hk,hc,hd,hs,hz,r⟩
 ·obtain ⟨z,its,n,r,e⟩:=h.ok I.hok
  exact ⟨its,r,⟨_,n,e,rfl,rfl,rfl⟩,z⟩
 ·refine ⟨its.toList,r,⟨o,n,I.kIn a o hk,hc,hd,by simpa using hs⟩,?_⟩
  have e:=r.length
  simp only [Array.length_toList] at e
  omega
theorem Inv.tuple (I:Inv X pins σ H s) (h:SqT X.K H a xs):∃ its:List Value,Vals xs its∧IsTup s.heap a its.toArray∧xs.length≤sizeLine:=by
 rcases h with h | ⟨o,its,n,hk,hc,hs,hz,r⟩
 ·obtain ⟨z,its,r,p⟩:=h.ok I.hok
  exact ⟨its,r,p,z⟩
 ·refine ⟨its.toList,r,⟨o,I.kIn a o hk,hc,n,by simpa using hs⟩,?_⟩
  have e:=r.length
  simp only [Array.length_toList] at e
  omega
theorem Inv.list_inj (I:Inv X pins σ H s) (h:SqL X.K H a xs) (h':SqL X.K H a ys):xs=ys:=by
 obtain ⟨its,r,⟨o,n,e,_,_,d⟩,_⟩:=I.list h
 obtain ⟨its',r',⟨o',n',e',_,_,d'⟩,_⟩:=I.list h'
 rw [e] at e'; cases e'
 rw [d] at d'
 injection d' with d1 _
 have:its=its':=by simpa using congrArg Array.toList d1
 subst this
 exact r.inj r'
end
abbrev Cx.wish (X:Cx) (E:Value→Shared→Prop):Cx:={ X with xe:=E }
abbrev Cx.nox (X:Cx):Cx:=X.wish fun _ _=>False
theorem Cx.Ok.wish {X:Cx} (ok:X.Ok) (E:Value→Shared→Prop):(X.wish E).Ok:=
 ⟨ok.mod,ok.kind,ok.glob,ok.blt,ok.above,ok.inj,ok.has,ok.cab,ok.hd,ok.frames,ok.stk,ok.exf,ok.bs,ok.bsz,ok.noex,ok.exfs,ok.funs,ok.frf⟩
theorem Cx.Ok.unwish {X:Cx} {E:Value→Shared→Prop} (ok:(X.wish E).Ok):X.Ok:=
 ⟨ok.mod,ok.kind,ok.glob,ok.blt,ok.above,ok.inj,ok.has,ok.cab,ok.hd,ok.frames,ok.stk,ok.exf,ok.bs,ok.bsz,ok.noex,ok.exfs,ok.funs,ok.frf⟩
section
variable {X:Cx} {pins:List (Addr × Obj)} {σ:St} {H:Hp} {s:Shared} {E:Value→Shared→Prop}
theorem Inv.wish (I:Inv X pins σ H s) (E:Value→Shared→Prop):Inv (X.wish E) pins σ H s:=⟨I.ok.wish E,I.os,I.bare,I.base,I.loc,I.cell,I.free,I.freeC,I.pin,I.hok,I.len⟩
theorem Inv.unwish (I:Inv (X.wish E) pins σ H s):Inv X pins σ H s:=⟨I.ok.unwish,I.os,I.bare,I.base,I.loc,I.cell,I.free,I.freeC,I.pin,I.hok,I.len⟩
theorem SP.unwish {D:Ends} {f:Flow} {s':Shared} (h:SP (X.wish E) pins D f s'):SP X pins D f s':=by
 cases f with
 | next=>obtain ⟨σ',H',I,q⟩:=h; exact ⟨σ',H',I.unwish,q⟩
 | brk=>obtain ⟨σ',H',I,q⟩:=h; exact ⟨σ',H',I.unwish,q⟩
 | cont=>obtain ⟨σ',H',I,q⟩:=h; exact ⟨σ',H',I.unwish,q⟩
 | ret u=>obtain ⟨v,σ',H',I,r,q⟩:=h; exact ⟨v,σ',H',I.unwish,r,q⟩
theorem PE.nox {e:Expr} {t:TE} (h:PE X.nox e t):PE X e t:=fun pins s σ H Q I hw=>
 wpAny_mono (h pins s σ H Q (I.wish _) hw) (fun _ _ ⟨v,H',I',r,q⟩=>⟨v,H',I'.unwish,r,q⟩) fun _ _ z=>False.elim z
theorem PT.nox {e:Expr} {t:TT} (h:PT X.nox e t):PT X e t:=fun pins s σ H Q I hw=>
 wpAny_mono (h pins s σ H Q (I.wish _) hw) (fun _ _ ⟨H',I',q⟩=>⟨H',I'.unwish,q⟩) fun _ _ z=>False.elim z
theorem PSs.nox {st:List Stmt} {t:TS} (h:PSs X.nox st t):PSs X st t:=fun pins s σ H D I hw=>
 wpAny_mono (h pins s σ H D (I.wish _) hw) (fun _ _ q=>q.unwish) fun _ _ z=>False.elim z
end
section
variable {X:Cx} {st:Stmt} {zW:List Stmt} {t u:TS} {e:Expr} {te:TE} {pos:Pos}
def Ye:TS:=fun D σ H=>D.nx σ H
def Wa (t u:TS):TS:=fun D σ H=>t { D with nx:=u D } σ H
theorem pj:PSs X [] Ye:=fun _ _ σ H _ I h=>wpAny_execs_nil ⟨σ,H,I,h⟩
theorem zT (h1:PS X st t) (h2:PSs X zW u):PSs X (st::zW) (Wa t u):=by
 intro pins s σ H D I h
 refine wpAny_execs_cons (thn (h1 pins s σ H { D with nx:=u D } I h) fun f s1 q=>?_)
 cases f with
 | next=>
  obtain ⟨σ',H',I',q⟩:=q
  exact h2 pins s1 σ' H' D I' q
 | ret v=>exact q
 | brk=>exact q
 | cont=>exact q
theorem xQ (h1:PS X st t):PSs X [st] t:=by
 intro pins s σ H D I h
 refine wpAny_execs_cons (thn (h1 pins s σ H D I h) fun f s1 q=>?_)
 cases f with
 | next=>exact wpAny_execs_nil q
 | ret v=>exact q
 | brk=>exact q
 | cont=>exact q
theorem Inv.quiet {pins:List (Addr × Obj)} {σ:St} {H:Hp} {s:Shared} (I:Inv X pins σ H s):interactive X.env=false:=by simp [interactive,I.ok.kind]
def Yi (te:TE):TS:=fun D σ H=>te σ H fun _ H1=>D.nx σ H1
theorem wz (he:PE X e te) (hs:swapsWith e none pos.line X.env=pure false:=by rfl):PS X (.Expr e pos) (Yi te):=by
 intro pins s σ H D I h
 exact wpAny_Expr_any (thn (he pins s σ H _ I h) fun v s1 ⟨x,H1,I1,r1,q1⟩=>⟨σ,H1,I1,q1⟩) I.quiet hs
def Wb (te:TE):TS:=fun D σ H=>te σ H D.rt
theorem uq (he:PE X e te):PS X (.Return (some e) pos) (Wb te):=by
 intro pins s σ H D I h
 exact wpAny_Return_some (thn (he pins s σ H _ I h) fun v s1 ⟨x,H1,I1,r1,q1⟩=>⟨x,σ,H1,I1,r1,q1⟩)
def We (c:TT) (t u:TS):TS:=fun D σ H=>c σ H fun b H1=>if b=true then t D σ H1 else u D σ H1
theorem dO {c:Expr} {a b:List Stmt} {tc:TT} (hc:PT X c tc) (ha:PSs X a t) (hb:PSs X b u):PS X (.If c a b pos) (We tc t u):=by
 intro pins s σ H D I h
 refine wpAny_If (thn (hc pins s σ H _ I h) fun d s1 ⟨H1,I1,q1⟩=>?_)
 cases d with
 | true=>exact ha pins s1 σ H1 D I1 q1
 | false=>exact hb pins s1 σ H1 D I1 q1
def cj:TS:=fun _ _ _=>False
theorem nB:PS X st cj:=fun _ _ _ _ _ _ h=>h.elim
end
abbrev TG:=V→St→Hp→(St→Hp→Prop)→Prop
abbrev TGs:=List V→St→Hp→(St→Hp→Prop)→Prop
def PG (X:Cx) (target:Expr) (t:TG):Prop:=
 ∀ (pins:List (Addr × Obj)) (s:Shared) (σ:St) (H:Hp) (v:V) (u:Value) (Q:St→Hp→Prop),Inv X pins σ H s→RelV v u→t v σ H Q→
  wpAny (model X.prog X.w) X.A (assign target X.env u) (fun _ s'=>∃ σ' H',Inv X pins σ' H' s'∧Q σ' H') X.xe s
def PGs (X:Cx) (ts:List Expr) (t:TGs):Prop:=
 ∀ (pins:List (Addr × Obj)) (s:Shared) (σ:St) (H:Hp) (vs:List V) (us:List Value) (Q:St→Hp→Prop),Inv X pins σ H s→Vals vs us→t vs σ H Q→
  wpAny (model X.prog X.w) X.A (assignInOrder ((assignEach ts X.env).map (·.2)) us) (fun _ s'=>∃ σ' H',Inv X pins σ' H' s'∧Q σ' H') X.xe s
abbrev TIp:=V→V→Hp→VK→Prop
def PIp (X:Cx) (op:Operator) (t:TIp):Prop:=
 ∀ (pins:List (Addr × Obj)) (s:Shared) (σ:St) (H:Hp) (x y:V) (v u:Value) (Q:VK),Inv X pins σ H s→RelV x v→RelV y u→t x y H Q→
  wpAny (model X.prog X.w) X.A (inplaceOp op v u) (EP X pins σ Q) X.xe s
section
variable {X:Cx} {pos:Pos}
def uK (i:Nat):TG:=fun v σ H Q=>Q (σ.set i (some v)) H
theorem yR {i:Nat} {x:Str} (hN:X.N.Nodup) (hi:X.N[i]? = some x) (hx:Loc X.env.scope x) (hf:X.fn x=true∨X.env.scope.names.lookup x=some .local:=by first | exact .inl rfl | exact .inr rfl | assumption):PG X (.Name x pos) (uK i):=by
 intro pins s σ H v u Q I r h
 exact wpAny_assign_Name (xw I hN hi hx r (fun s' I'=>⟨_,H,I',h⟩) hf)
def Xn:TGs:=fun vs σ H Q=>vs=[]∧Q σ H
def km (t:TG) (u:TGs):TGs:=fun vs σ H Q=>∃ v r,vs=v::r∧t v σ H fun σ' H'=>u r σ' H' Q
theorem pr:PGs X [] Xn:=by
 intro pins s σ H vs us Q I r h
 obtain ⟨e,h⟩:=h
 subst e
 cases r
 exact assignInOrder_nil ⟨σ,H,I,h⟩
theorem wA {e:Expr} {es:List Expr} {t:TG} {u:TGs} (h1:PG X e t) (h2:PGs X es u)
  (hs:(assignEach (e::es) X.env).map (·.2)=assign e X.env::(assignEach es X.env).map (·.2):=by rfl):PGs X (e::es) (km t u):=by
 intro pins s σ H vs us Q I r h
 obtain ⟨v,vr,e1,h⟩:=h
 subst e1
 cases r with
 | cons r rr=>
  rw [hs]
  refine assignInOrder_cons (thn (h1 pins s σ H _ _ _ I r h) fun _ s1 ⟨σ1,H1,I1,q1⟩=>?_)
  exact h2 pins s1 σ1 H1 _ _ Q I1 rr q1
def Xm (K:PySem.W.Frag) (n:Nat) (t:TGs):TG:=fun v σ H Q=>∃ a xs,v=.ref a∧SqT K H a xs∧xs.length=n∧t xs σ H Q
theorem nC {es:List Expr} {k:Nat} {t:TGs} {n:Nat} (hc:X.calm=true) (h:PGs X es t)
  (hn:(assignEach es X.env).length=n:=by rfl) (hst:(assignEach es X.env).findIdx? (·.1)=none:=by rfl):PG X (.Tuple es k pos) (Xm X.K n t):=by
 intro pins s σ H v u Q I r hw
 obtain ⟨a,xs,e1,hq,hl,hw⟩:=hw
 subst e1
 cases r
 obtain ⟨its,rv,ht,hz⟩:=I.tuple hq
 refine assign_Tuple_tuple (I.ok.hd hc) ht (by simp [hn,← hl,rv.length]) hst fun h' hx=>?_
 have I1:Inv X pins σ H { s with heap:=h' }:=I.kept (t':=s.toks) fun b o e=>hx b o (Nat.ne_of_lt (Heap.lt_size e)) e
 exact h pins _ σ H xs _ Q I1 (by simpa using rv) hw
def ck (te:TE) (g:TG):TS:=fun D σ H=>te σ H fun x H1=>g x σ H1 D.nx
theorem cz {tg e:Expr} {te:TE} {g:TG} (he:PE X e te) (hg:PG X tg g) (hs:swapsWithSole [tg] e pos.line X.env=pure false:=by rfl) (hw:swappedStores [tg] e X.env=pure none:=by rfl)
  (h1:(assignEach [tg] X.env).map (·.2)=[assign tg X.env]:=by rfl):PS X (.Assign [tg] e pos) (ck te g):=by
 intro pins s σ H D I h
 refine wpAny_Assign_stores (thn (he pins s σ H _ I h) fun v s1 ⟨x,H1,I1,r1,q1⟩=>?_) hs hw
 rw [h1]
 exact thn (hg pins s1 σ H1 x v _ I1 r1 q1) fun _ s2 q=>q
theorem vf {i:Nat} {x:Str} {e:Expr} {te:TE} {pos':Pos} (hN:X.N.Nodup) (hi:X.N[i]? = some x) (hx:Loc X.env.scope x) (he:PE X e te) (hs:swapsWith e (some (.Name x pos')) pos.line X.env=pure false:=by rfl) (hf:X.fn x=true∨X.env.scope.names.lookup x=some .local:=by first | exact .inl rfl | exact .inr rfl | assumption):
  PS X (.Assign [.Name x pos'] e pos) (ck te (uK i)):=by
 intro pins s σ H D I h
 refine wpAny_Assign_Name (thn (he pins s σ H _ I h) fun v s1 ⟨y,H1,I1,r1,q1⟩=>?_) hs
 exact xw I1 hN hi hx r1 (fun s2 I2=>⟨_,H1,I2,q1⟩) hf
def Wl (i:Nat) (te:TE) (ti:TIp):TS:=fun D σ H=>∃ x,σ[i]? = some (some x)∧te σ H fun y H1=>ti x y H1 fun z H2=>D.nx (σ.set i (some z)) H2
theorem cy {i:Nat} {x:Str} {e:Expr} {te:TE} {op:Operator} {ti:TIp} {pos':Pos} (hN:X.N.Nodup) (hi:X.N[i]? = some x) (hx:Loc X.env.scope x) (he:PE X e te) (ho:PIp X op ti) (hf:X.fn x=true∨X.env.scope.names.lookup x=some .local:=by first | exact .inl rfl | exact .inr rfl | assumption):
  PS X (.AugAssign (.Name x pos') op e pos) (Wl i te ti):=by
 intro pins s σ H D I h
 obtain ⟨v,e1,h⟩:=h
 obtain ⟨m,hn,hl⟩:=I.loc
 have vis:Vis X.env.scope x:=by rcases hx with k | k; exact .inl k; exact .inr (.inl k)
 obtain ⟨u,r,l⟩:=hl i x v hi e1 vis
 refine wpAny_AugAssign_Name ?_
 have go:wpAny (model X.prog X.w) X.A (eval e X.env) (fun w s₂=>wpAny (model X.prog X.w) X.A (inplaceOp op u w) (fun r s₃=>wpAny (model X.prog X.w) X.A (storeName X.env x r) (fun _=>SP X pins D .next) X.xe s₃) X.xe s₂) X.xe s:=by
  refine thn (he pins s σ H _ I h) fun w s1 ⟨y,H1,I1,r1,q1⟩=>?_
  refine thn (ho pins s1 σ H1 v y u w _ I1 r r1 q1) fun z s2 ⟨zv,H2,I2,r2,q2⟩=>?_
  exact xw I2 hN hi hx r2 (fun s3 I3=>⟨_,H2,I3,q2⟩) hf
 rcases l with ⟨hk,hm⟩ | ⟨hk,c,hc,hcell⟩
 ·exact wpAny_loadName_local I.ok.kind hk hn hm go
 ·rcases hk with hk | hk
  ·exact wpAny_loadName_cell I.ok.kind hk hc hcell go
  ·rcases hx with k | k
   ·have:X.env.scope.names.lookup x=some .free:=hk
    rw [k] at this; cases this
   ·have:X.env.scope.names.lookup x=some .free:=hk
    rw [k] at this; cases this
def ipI (f:Int→Int→Int):TIp:=fun x y H Q=>∃ i j,x=.int i∧y=.int j∧Q (.int (f i j)) H
theorem Zz:PIp X .Add (ipI fun i j=>i+j):=by
 intro pins s σ H x y v u Q I r1 r2 h
 obtain ⟨i,j,e1,e2,q⟩:=h
 subst e1; subst e2
 obtain ⟨t,rfl⟩:=r1
 obtain ⟨t',rfl⟩:=r2
 exact iadd_int ⟨.int _,H,I.tok _,⟨_,rfl⟩,q⟩
end
section
variable {X:Cx} {pos:Pos}
def ci (c:TT) (tb:TS):TS:=fun D σ H=>∃ W:Nat→St→Hp→Prop,(∃ m,W m σ H)∧∀ m σ H,W m σ H→
 c σ H fun b H1=>if b=true then ∃ N:St→Hp→Prop,(∀ σ' H',N σ' H'→∃ m',m'<m∧W m' σ' H')∧tb { D with nx:=N,ct:=N,bk:=D.nx } σ H1 else D.nx σ H1
theorem nw {c:Expr} {body:List Stmt} {tc:TT} {tb:TS} (hp:PassesOwn (model X.prog X.w) X.A X.env X.xe) (hc:PT X c tc) (hb:PSs X body tb):PS X (.While c body [] pos) (ci tc tb):=by
 intro pins s σ H D I h
 obtain ⟨W,⟨m0,w0⟩,turn⟩:=h
 refine wpAny_While (codeAny_whileLoop (fun n s'=>∃ σ' H',Inv X pins σ' H' s'∧W n σ' H') ?_ m0 ⟨σ,H,I,w0⟩)
 rintro n s1 ⟨σ1,H1,I1,w1⟩
 refine wpAny_passesOwn hp (thn (hc pins s1 σ1 H1 _ I1 (turn n σ1 H1 w1)) fun b s2 ⟨H2,I2,q2⟩=>?_)
 cases b with
 | true=>
  obtain ⟨N,hN,q2⟩:=q2
  rw [if_pos rfl]
  refine wpAny_passesOwn hp (thn (hb pins s2 σ1 H2 _ I2 q2) fun f s3 q3=>?_)
  cases f with
  | next=>
   obtain ⟨σ3,H3,I3,n3⟩:=q3
   obtain ⟨m',hm,w3⟩:=hN σ3 H3 n3
   exact ⟨m',hm,σ3,H3,I3,w3⟩
  | cont=>
   obtain ⟨σ3,H3,I3,n3⟩:=q3
   obtain ⟨m',hm,w3⟩:=hN σ3 H3 n3
   exact ⟨m',hm,σ3,H3,I3,w3⟩
  | brk=>exact q3
  | ret v=>exact q3
 | false=>
  rw [if_neg Bool.false_ne_true]
  exact wpAny_execs_nil ⟨σ1,H2,I2,q2⟩
end
structure It where
 go:Nat→Hp→Prop
 yld:Nat→Hp→V→Hp→Prop
 stop:Nat→Hp→Prop
def vF (X:Cx) (pins:List (Addr × Obj)) (H:Hp) (b:Addr):Prop:=
 H b=none∧b≠X.env.locals∧b∉X.fs∧(b∈X.ex∨X.s₀.heap.objs.size≤b)∧(∀ x c,X.env.cells.lookup x=some c→c≠b)∧∀ p∈X.pn++pins,p.1≠b
theorem Inv.fpOk {X:Cx} {pins:List (Addr × Obj)} {σ:St} {H H':Hp} {s:Shared} {b:Addr} (I:Inv X pins σ H s) (hb:s.heap.objs.size≤b) (hn:H' b=none):vF X pins H' b:=by
 refine ⟨hn,Nat.ne_of_gt (Nat.lt_of_lt_of_le I.lt hb),I.nofs hb,.inr (Nat.le_trans I.sz hb),fun x c e z=>?_,fun p hp z=>?_⟩
 ·obtain ⟨v,q⟩:=I.cell x c e
  exact absurd (Nat.lt_of_lt_of_le q.lt (by rw [z]; exact hb)) (Nat.lt_irrefl _)
 ·exact absurd (Nat.lt_of_lt_of_le (Heap.lt_size (I.pin p hp).1) (by rw [z]; exact hb)) (Nat.lt_irrefl _)
structure ng (P:Program) (w:World) (K:PySem.W.Frag) (tg:Expr) (J:It) (fp:List Addr) (it:Addr) (tn:Nat→Heap→Prop):Prop where
 mem:it∈fp
 obj:∀ i h,tn i h→∀ b∈fp,∃ o,h.get? b=some o∧∀ v,o.data≠.cell v
 keep:∀ i h h',tn i h→(∀ b∈fp,∀ o,h.get? b=some o→h'.get? b=some o)→tn i h'
 item:∀ (X:Cx),X.prog=P→X.w=w→X.K=K→X.calm=true→∀ (i:Nat) (pins:List (Addr × Obj)) (s:Shared) (σ:St) (H:Hp) (E:Value→Shared→Prop),Inv X pins σ H s→(∀ b∈fp,vF X pins H b)→tn i s.heap→J.go i H→
  wpAny (model P w) X.A (pyNext (.ref it)) (fun r s1=>∃ u,r=some u∧
   wpAny (model P w) X.A (letOwnedTupleGo tg (.ref it) u) (fun _ s2=>∃ x H',Inv X pins σ H' s2∧RelV x u∧J.yld i H x H'∧tn (i+1) s2.heap∧∀ b∈fp,H' b=none) E s1) E s
 done:∀ (X:Cx),X.prog=P→X.w=w→X.K=K→X.calm=true→∀ (i:Nat) (pins:List (Addr × Obj)) (s:Shared) (σ:St) (H:Hp) (E:Value→Shared→Prop),Inv X pins σ H s→(∀ b∈fp,vF X pins H b)→tn i s.heap→J.stop i H→
  wpAny (model P w) X.A (pyNext (.ref it)) (fun r s1=>r=none∧Inv X pins σ H s1) E s
 self:∀ (A:Around) (i:Nat) (s:Shared) (Q:Value→Shared→Prop) (E:Value→Shared→Prop),tn i s.heap→Q (.ref it) s→wpAny (model P w) A (pyIter (.ref it)) Q E s
abbrev TI:=St→Hp→(It→Hp→Prop)→Prop
def PIE (X:Cx) (pins:List (Addr × Obj)) (σ:St) (tg:Expr) (R:It→Hp→Prop) (itv:Value) (s2:Shared):Prop:=
 ∃ (it:Addr) (fp:List Addr) (tn:Nat→Heap→Prop) (J:It) (H':Hp),itv=.ref it∧Inv X pins σ H' s2∧ng X.prog X.w X.K tg J fp it tn∧tn 0 s2.heap∧(∀ b∈fp,vF X pins H' b)∧R J H'
def PI (X:Cx) (tg iter:Expr) (wi:TI):Prop:=
 ∀ (pins:List (Addr × Obj)) (s:Shared) (σ:St) (H:Hp) (R:It→Hp→Prop),Inv X pins σ H s→wi σ H R→
  wpAny (model X.prog X.w) X.A (eval iter X.env) (fun v s1=>wpAny (model X.prog X.w) X.A (pyIter v) (PIE X pins σ tg R) X.xe s1) X.xe s
theorem kj {M:Model} {A:Around} {E:Value→Shared→Prop} {s:Shared} {tg:Expr} {it:Addr} {u:Value} {o:Obj} {n:String} {vs:Array Value} {Q:Unit→Shared→Prop} (ho:s.heap.get? it=some o) (hc:o.cls=.type n) (hd:o.data=.fields vs)
  (hn:["enumerate","zip","dict_itemiterator","dict_reverseitemiterator","odict_iterator","itertools.zip_longest","itertools.pairwise"].contains n=false) (hQ:Q () s):wpAny M A (letOwnedTupleGo tg (.ref it) u) Q E s:=by
 unfold letOwnedTupleGo
 cases tg <;> first
  | exact wpAny_pure hQ
  | (cases u <;> first
    | exact wpAny_pure hQ
    | (refine wpAny_bind (wpAny_load ho ?_)
       rw [hc,hd]
       show wpAny M A (if (["enumerate","zip","dict_itemiterator","dict_reverseitemiterator","odict_iterator","itertools.zip_longest","itertools.pairwise"].contains n && vs[0]? == some (rawInt _))=true then _ else _) Q E s
       rw [if_neg (by intro h; rw [hn,Bool.false_and] at h; cases h)]
       exact wpAny_pure hQ))
def Itl (K:PySem.W.Frag) (a:Addr):It:=
 ⟨fun i H=>∃ xs x,SqL K H a xs∧xs[i]? = some x,fun i H x H'=>H'=H∧∀ xs,SqL K H a xs→xs[i]? = some x,fun i H=>∃ xs,SqL K H a xs∧xs.length≤i⟩
def Itr (lo:Int) (n:Nat):It:=⟨fun i _=>i<n,fun i H x H'=>H'=H∧x=.int (lo+i),fun i _=>n≤i⟩
theorem oi {P:Program} {w:World} {K:PySem.W.Frag} {tg:Expr} (a it:Addr):ng P w K tg (Itl K a) [it] it (fun i h=>h.IsListIter it a i) where
 mem:=by simp
 obj:=fun i h st b hb=>by
  have e:b=it:=by simpa using hb
  subst e
  obtain ⟨o,e,c,d⟩:=st
  exact ⟨o,e,fun v z=>by rw [d] at z; cases z⟩
 keep:=fun i h h' st k=>st.at fun o e=>k it (by simp) o e
 item:=by
  intro X hP hw hK hc i pins s σ H E I hf st hg
  subst hP hw hK
  obtain ⟨xs,x,hq,hx⟩:=hg
  obtain ⟨its,rv,p,hz⟩:=I.list hq
  obtain ⟨u,hu,ru⟩:=rv.get hx
  obtain ⟨f0,f1,f2,f3,f4,f5⟩:=hf it (by simp)
  refine wpAny_pyNext_list_item st p.isList (x:=u) (by simpa using hu) fun h' st' sb=>?_
  have I1:Inv X pins σ H { s with heap:=h' }:=I.turned (t':=s.toks) (fun b o hb e=>(sb.2 b hb).trans e) f0 f1 f3 f4 f5
  obtain ⟨o,e,c,d⟩:=id st'
  exact ⟨u,rfl,kj (s:={ s with heap:=h' }) e c d (by decide) ⟨x,H,I1,ru,⟨rfl,fun ys hy=>by rw [I.list_inj hy hq]; exact hx⟩,st',fun b hb=>(hf b hb).1⟩⟩
 done:=by
  intro X hP hw hK hc i pins s σ H E I hf st hg
  subst hP hw hK
  obtain ⟨xs,hq,hx⟩:=hg
  obtain ⟨its,rv,p,hz⟩:=I.list hq
  obtain ⟨f0,f1,f2,f3,f4,f5⟩:=hf it (by simp)
  have hl:=rv.length
  exact wpAny_pyNext_list_end (I.ok.hd hc) st p.isList (by simp; omega) fun h' eb=>⟨rfl,I.turned (t':=s.toks) (fun b o hb e=>eb b o hb e) f0 f1 f3 f4 f5⟩
 self:=fun _ _ _ _ _ st h=>wpAny_pyIter_listiter st h
theorem qh {P:Program} {w:World} {K:PySem.W.Frag} {tg:Expr} (it:Addr) (lo:Int) (n:Nat):ng P w K tg (Itr lo n) [it] it (fun i h=>IsRangeIter h it (lo+(i:Nat)*1) ((n:Int) - (i:Nat)) 1) where
 mem:=by simp
 obj:=fun i h st b hb=>by
  have e:b=it:=by simpa using hb
  subst e
  exact ⟨_,st,fun v z=>by
   have z':Data.fields _=Data.cell v:=z
   cases z'⟩
 keep:=fun i h h' st k=>k it (by simp) _ st
 item:=by
  intro X hP hw hK hc i pins s σ H E I hf st hg
  subst hP hw hK
  obtain ⟨f0,f1,f2,f3,f4,f5⟩:=hf it (by simp)
  have W:=Walks.range (prog:=X.prog) (w:=X.w) (I.ok.hd hc) it lo 1 n
  refine W.item i s _ _ hg st fun v h' tk hv st' kk=>?_
  obtain ⟨t,rfl⟩:=hv
  have I1:Inv X pins σ H { s with heap:=h',toks:=tk }:=I.turned (fun b o hb e=>kk b o (by simpa using hb) e) f0 f1 f3 f4 f5
  refine ⟨_,rfl,kj (s:={ s with heap:=h',toks:=tk }) (n:="range_iterator") st' rfl rfl (by decide) ⟨.int (lo+i),H,I1,⟨t,?_⟩,⟨rfl,rfl⟩,st',fun b hb=>(hf b hb).1⟩⟩
  rw [Int.mul_one]
 done:=by
  intro X hP hw hK hc i pins s σ H E I hf st hg
  subst hP hw hK
  obtain ⟨f0,f1,f2,f3,f4,f5⟩:=hf it (by simp)
  exact wpAny_pyNext_range_end (I.ok.hd hc) st (by have:n≤i:=hg; omega) fun h' eb=>⟨rfl,I.turned (t':=s.toks) (fun b o hb e=>eb b o hb e) f0 f1 f3 f4 f5⟩
 self:=fun _ _ _ _ _ st h=>wpAny_pyIter_rangeiter st h
end L2
namespace L2
open PySem PySem.Spec PyProof.Rows
section
variable {X:Cx} {tg:Expr}
def Xk (K:PySem.W.Frag) (tl:TE):TI:=fun σ H R=>tl σ H fun x H1=>∃ a,x=.ref a∧(∃ xs,SqL K H1 a xs)∧R (Itl K a) H1
theorem pq {l:Expr} {tl:TE} (hl:PE X l tl):PI X tg l (Xk X.K tl):=by
 intro pins s σ H R I h
 refine thn (hl pins s σ H _ I h) fun v s1 ⟨x,H1,I1,r1,q1⟩=>?_
 obtain ⟨a,e,⟨xs,hq⟩,q⟩:=q1
 subst e
 cases r1
 obtain ⟨its,rv,p,hz⟩:=I1.list hq
 refine wpAny_pyIter_list p.isList ?_
 refine ⟨s1.heap.objs.size,[s1.heap.objs.size],_,_,H1,rfl,I1.kept (t':=s1.toks) fun b o e=>Heap.get?_push_of_some _ e,oi a _,⟨_,Heap.get?_push_size _ rfl,rfl,rfl⟩,fun b hb=>?_,q⟩
 have e:b=s1.heap.objs.size:=by simpa using hb
 subst e
 exact I1.fpOk (Nat.le_refl _) (I1.hok.fresh (Nat.le_refl _))
theorem nu {pins:List (Addr × Obj)} {σ:St} {H:Hp} {s:Shared} {R:It→Hp→Prop} {E:Value→Shared→Prop} {lo hi:Int} {t u v:Tok} {tk:Nat} (I:Inv X pins σ H s) (h1:-(2 ^ 62)≤lo) (h2:lo<2 ^ 62) (h3:-(2 ^ 62)≤hi) (h4:hi<2 ^ 62)
  (q:R (Itr lo (hi - lo).toNat) H):wpAny (model X.prog X.w) X.A (pyIter (.ref s.heap.objs.size)) (PIE X pins σ tg R) E { s with heap:=s.heap.push { cls:=.type "range",data:=.fields #[.int lo t,.int hi u,.int 1 v] },toks:=tk }:=by
 refine wpAny_pyIter_range (IsRange.new ..) (small_one h1 h2 h3 h4) ?_
 have I1:Inv X pins σ H { s with heap:=s.heap.push { cls:=.type "range",data:=.fields #[.int lo t,.int hi u,.int 1 v] },toks:=tk }:=I.kept fun b o e=>Heap.get?_push_of_some _ e
 refine ⟨(s.heap.push { cls:=.type "range",data:=.fields #[.int lo t,.int hi u,.int 1 v] }).objs.size,[(s.heap.push { cls:=.type "range",data:=.fields #[.int lo t,.int hi u,.int 1 v] }).objs.size],_,_,H,rfl,
  I1.kept (t':=tk) fun b o e=>Heap.get?_push_of_some _ e,qh _ lo (hi - lo).toNat,?_,fun b hb=>?_,q⟩
 ·have e1:lo+((0:Nat):Int)*1=lo:=by simp
  have e2:(((hi - lo).toNat:Nat):Int) - ((0:Nat):Int)=Builtin.Range.rangeSize lo hi 1:=by rw [rangeSize_one]; split <;> omega
  show IsRangeIter _ _ (lo+((0:Nat):Int)*1) ((((hi - lo).toNat:Nat):Int) - ((0:Nat):Int)) 1
  rw [e1,e2]
  exact Heap.get?_push_size _ rfl
 ·have e:b=(s.heap.push { cls:=.type "range",data:=.fields #[.int lo t,.int hi u,.int 1 v] }).objs.size:=by simpa using hb
  subst e
  exact I1.fpOk (Nat.le_refl _) (I1.hok.fresh (Nat.le_refl _))
def Xj (ta:TA):TI:=fun σ H R=>ta σ H fun vs H1=>∃ i j:Int,vs=[.int i,.int j]∧(-(2 ^ 62)≤i∧i<2 ^ 62∧-(2 ^ 62)≤j∧j<2 ^ 62)∧R (Itr i (j - i).toNat) H1
theorem ox {a b:Expr} {ta:TA} {p pos:Pos} (hg:Gl X "range") (hm:X.mg "range"=none) (ha:PA X [a,b] ta) (hs:starEach [a,b] X.env=[(false,eval a X.env),(false,eval b X.env)]:=by rfl) (hs2:starEach [b] X.env=[(false,eval b X.env)]:=by rfl):
  PI X tg (.Call (.Name "range" p) [a,b] [] pos) (Xj ta):=by
 intro pins s σ H R I h
 refine Call_ (vp I hg hm boot_range (PyProof.Rows.callWith_type1 (thn (ha pos pins s σ H _ I h) fun us s1 ⟨vs,H1,I1,r1,q1⟩=>?_) (by rw [hs,hs2]) (by rw [hs2]; rfl)))
 obtain ⟨i,j,e,⟨q1,q2,q3,q4⟩,q⟩:=q1
 subst e
 cases r1 with
 | cons r rr=>
  cases rr with
  | cons r' rr=>
   cases rr
   obtain ⟨t,rfl⟩:=r
   obtain ⟨t',rfl⟩:=r'
   exact call_range_2 (nu I1 q1 q2 q3 q4 q)
def Wf (wi:TI) (g:TG) (tb:TS):TS:=fun D σ H=>wi σ H fun J H1=>∃ W:Nat→Nat→St→Hp→Prop,(∃ m,W 0 m σ H1)∧∀ i m σ H,W i m σ H→
 (J.stop i H∧D.nx σ H)∨(J.go i H∧∃ N:St→Hp→Prop,(∀ σ' H',N σ' H'→∃ m',m'<m∧W (i+1) m' σ' H')∧∀ x H',J.yld i H x H'→g x σ H' fun σ2 H2=>tb { D with nx:=N,ct:=N,bk:=D.nx } σ2 H2)
def y0 (fp:List Addr) (h:Heap):List (Addr × Obj):=fp.filterMap fun b=>(h.get? b).map fun o=>(b,o)
theorem wk {fp:List Addr} {h:Heap} {b:Addr} {o:Obj} (hb:b∈fp) (e:h.get? b=some o):(b,o)∈y0 fp h:=List.mem_filterMap.mpr ⟨b,hb,by rw [e]; rfl⟩
theorem oz {fp:List Addr} {h:Heap} {p:Addr × Obj} (hp:p∈y0 fp h):p.1∈fp∧h.get? p.1=some p.2:=by
 obtain ⟨b,hb,e⟩:=List.mem_filterMap.mp hp
 cases q:h.get? b with
 | none=>rw [q] at e; cases e
 | some o=>
  rw [q] at e
  have e':(b,o)=p:=Option.some.inj e
  subst e'
  exact ⟨hb,q⟩
theorem Inv.pinned {pins:List (Addr × Obj)} {σ:St} {H:Hp} {s:Shared} {fp:List Addr} (I:Inv X pins σ H s) (hf:∀ b∈fp,vF X pins H b) (ho:∀ b∈fp,∃ o,s.heap.get? b=some o∧∀ v,o.data≠.cell v):Inv X (pins++y0 fp s.heap) σ H s:=
 I.pins_of fun p hp=>(List.mem_append.mp hp).elim (fun z=>I.pin p (List.mem_append_right _ z)) fun z=>by
  obtain ⟨hb,e⟩:=oz z
  obtain ⟨f0,f1,f2,_⟩:=hf p.1 hb
  obtain ⟨o,e',d⟩:=ho p.1 hb
  rw [e] at e'; cases e'
  exact ⟨e,f0,f1,f2,d⟩
theorem Inv.unpinned {pins pl:List (Addr × Obj)} {σ:St} {H:Hp} {s:Shared} (I:Inv X (pins++pl) σ H s):Inv X pins σ H s:=I.pins_of fun p hp=>I.pin p (List.mem_append_right _ (List.mem_append_left _ hp))
theorem qv {iter:Expr} {body:List Stmt} {wi:TI} {g:TG} {tb:TS} {pos:Pos} (hp:PassesOwn (model X.prog X.w) X.A X.env X.xe) (hc:X.calm=true) (hi:PI X tg iter wi) (hg:PG X tg g) (hb:PSs X body tb)
  (hs:∀ x,foldedSetIterable iter X.env x=pure x:=by intro _; rfl):PS X (.For tg iter body [] pos) (Wf wi g tb):=by
 intro pins s σ H D I h
 refine wpAny_For (thn (hi pins s σ H _ I h) fun v s1 h1=>thn h1 fun itv s2 h2=>?_) hs
 obtain ⟨it,fp,tn,J,H2,e,I2,T,st2,f2,W,⟨m0,w0⟩,turn⟩:=h2
 subst e
 have stat:∀ {H':Hp},(∀ b∈fp,H' b=none)→∀ b∈fp,vF X pins H' b:=fun hn b hb=>⟨hn b hb,(f2 b hb).2⟩
 refine codeAny_forLoop_any (fun n s'=>∃ i σ' H',Inv X pins σ' H' s'∧tn i s'.heap∧(∀ b∈fp,H' b=none)∧W i n σ' H') ?_ m0 ⟨0,σ,H2,I2,st2,fun b hb=>(f2 b hb).1,w0⟩
 rintro n s3 ⟨i,σ3,H3,I3,st3,fr3,w3⟩
 rcases turn i n σ3 H3 w3 with ⟨stop,qn⟩ | ⟨go,N,hN,step⟩
 ·refine wpAny_passesOwn hp (thn (T.done X rfl rfl rfl hc i pins s3 σ3 H3 X.xe I3 (stat fr3) st3 stop) fun r s4 ⟨hr,I4⟩=>?_)
  subst hr
  exact wpAny_execs_nil ⟨σ3,H3,I4,qn⟩
 ·refine wpAny_passesOwn hp (thn (T.item X rfl rfl rfl hc i pins s3 σ3 H3 X.xe I3 (stat fr3) st3 go) fun r s4 ⟨u,hr,h4⟩=>?_)
  subst hr
  refine wpAny_passesOwn hp (thn h4 fun _ s5 ⟨x,H5,I5,r5,y5,st5,fr5⟩=>?_)
  have I5':=I5.pinned (stat fr5) (T.obj _ _ st5)
  refine wpAny_passesOwn hp (thn (hg _ s5 σ3 H5 x u _ I5' r5 (step x H5 y5)) fun _ s6 ⟨σ6,H6,I6,q6⟩=>?_)
  refine wpAny_passesOwn hp (thn (hb _ s6 σ6 H6 _ I6 q6) fun f s7 q7=>?_)
  have again:∀ {σ7:St} {H7:Hp},Inv X (pins++y0 fp s5.heap) σ7 H7 s7→N σ7 H7→∃ m,m<n∧∃ i σ' H',Inv X pins σ' H' s7∧tn i s7.heap∧(∀ b∈fp,H' b=none)∧W i m σ' H':=fun {σ7 H7} I7 n7=>by
   obtain ⟨m',hm,w7⟩:=hN σ7 H7 n7
   refine ⟨m',hm,i+1,σ7,H7,I7.unpinned,T.keep _ _ _ st5 fun b hb o e=>(I7.pin (b,o) (List.mem_append_right _ (List.mem_append_right _ (wk hb e)))).1,fun b hb=>?_,w7⟩
   obtain ⟨o,e,d⟩:=T.obj _ _ st5 b hb
   exact (I7.pin (b,o) (List.mem_append_right _ (List.mem_append_right _ (wk hb e)))).2.1
  cases f with
  | next=>obtain ⟨σ7,H7,I7,n7⟩:=q7; exact again I7 n7
  | cont=>obtain ⟨σ7,H7,I7,n7⟩:=q7; exact again I7 n7
  | brk=>obtain ⟨σ7,H7,I7,q7⟩:=q7; exact ⟨σ7,H7,I7.unpinned,q7⟩
  | ret v=>obtain ⟨x7,σ7,H7,I7,r7,q7⟩:=q7; exact ⟨x7,σ7,H7,I7.unpinned,r7,q7⟩
end
theorem ko {K:PySem.W.Frag} {a:Addr} {xs:List V} {g:TG} {tb:TS} {D:Ends} {σ:St} {H:Hp} (Pv:Nat→St→Hp→Prop) (h0:Pv 0 σ H) (hl:∀ i σ H,i≤xs.length→Pv i σ H→SqL K H a xs)
  (hs:∀ i x σ H,xs[i]? = some x→Pv i σ H→g x σ H fun σ2 H2=>tb { D with nx:=Pv (i+1),ct:=Pv (i+1),bk:=D.nx } σ2 H2) (hd:∀ σ H,Pv xs.length σ H→D.nx σ H):
  ∃ W:Nat→Nat→St→Hp→Prop,(∃ m,W 0 m σ H)∧∀ i m σ H,W i m σ H→
   ((Itl K a).stop i H∧D.nx σ H)∨((Itl K a).go i H∧∃ N:St→Hp→Prop,(∀ σ' H',N σ' H'→∃ m',m'<m∧W (i+1) m' σ' H')∧∀ x H',(Itl K a).yld i H x H'→g x σ H' fun σ2 H2=>tb { D with nx:=N,ct:=N,bk:=D.nx } σ2 H2):=by
 refine ⟨fun i m σ H=>m=xs.length - i∧i≤xs.length∧Pv i σ H,⟨xs.length,by simp,Nat.zero_le _,h0⟩,?_⟩
 rintro i m σ H ⟨rfl,hi,p⟩
 have q:=hl i σ H hi p
 by_cases hlt:i<xs.length
 ·refine .inr ⟨⟨xs,xs[i],q,by simp [hlt]⟩,Pv (i+1),fun σ' H' p'=>⟨xs.length - (i+1),by omega,rfl,hlt,p'⟩,fun x H' y=>?_⟩
  obtain ⟨e,y⟩:=y
  subst e
  exact hs i x σ _ (y xs q) p
 ·have e:i=xs.length:=by omega
  subst e
  exact .inl ⟨⟨xs,q,Nat.le_refl _⟩,hd σ H p⟩
theorem o5 {lo:Int} {n:Nat} {g:TG} {tb:TS} {D:Ends} {σ:St} {H:Hp} (Pv:Nat→St→Hp→Prop) (h0:Pv 0 σ H)
  (hs:∀ i σ H,i<n→Pv i σ H→g (.int (lo+i)) σ H fun σ2 H2=>tb { D with nx:=Pv (i+1),ct:=Pv (i+1),bk:=D.nx } σ2 H2) (hd:∀ σ H,Pv n σ H→D.nx σ H):
  ∃ W:Nat→Nat→St→Hp→Prop,(∃ m,W 0 m σ H)∧∀ i m σ H,W i m σ H→
   ((Itr lo n).stop i H∧D.nx σ H)∨((Itr lo n).go i H∧∃ N:St→Hp→Prop,(∀ σ' H',N σ' H'→∃ m',m'<m∧W (i+1) m' σ' H')∧∀ x H',(Itr lo n).yld i H x H'→g x σ H' fun σ2 H2=>tb { D with nx:=N,ct:=N,bk:=D.nx } σ2 H2):=by
 refine ⟨fun i m σ H=>m=n - i∧i≤n∧Pv i σ H,⟨n,by simp,Nat.zero_le _,h0⟩,?_⟩
 rintro i m σ H ⟨rfl,hi,p⟩
 by_cases hlt:i<n
 ·refine .inr ⟨hlt,Pv (i+1),fun σ' H' p'=>⟨n - (i+1),by omega,rfl,hlt,p'⟩,fun x H' y=>?_⟩
  obtain ⟨e,y⟩:=y
  subst e y
  exact hs i σ _ hlt p
 ·have e:i=n:=by omega
  subst e
  exact .inl ⟨Nat.le_refl _,hd σ H p⟩
end L2
namespace L2
open PySem PySem.Spec PyProof.Rows
abbrev R2:=V→V→Hp→VK→Prop
def OpR (X:Cx) (f:Value→Value→Sem Value) (r:R2):Prop:=
 ∀ (pins:List (Addr × Obj)) (s:Shared) (σ:St) (H:Hp) (x y:V) (v u:Value) (Q:VK),Inv X pins σ H s→RelV x v→RelV y u→r x y H Q→
  wpAny (model X.prog X.w) X.A (f v u) (EP X pins σ Q) X.xe s
def UnR (X:Cx) (f:Value→Sem Value) (r:V→Hp→VK→Prop):Prop:=
 ∀ (pins:List (Addr × Obj)) (s:Shared) (σ:St) (H:Hp) (x:V) (v:Value) (Q:VK),Inv X pins σ H s→RelV x v→r x H Q→
  wpAny (model X.prog X.w) X.A (f v) (EP X pins σ Q) X.xe s
def CallR (X:Cx) (f:Value) (r:List V→Hp→VK→Prop):Prop:=
 ∀ (pins:List (Addr × Obj)) (s:Shared) (σ:St) (H:Hp) (xs:List V) (us:List Value) (Q:VK),Inv X pins σ H s→Vals xs us→r xs H Q→
  wpAny (model X.prog X.w) X.A (call f us) (EP X pins σ Q) X.xe s
def tOp (r:R2) (ta tb:TE):TE:=fun σ H Q=>ta σ H fun x H1=>tb σ H1 fun y H2=>r x y H2 Q
def tUn (r:V→Hp→VK→Prop) (ta:TE):TE:=fun σ H Q=>ta σ H fun x H1=>r x H1 Q
def rI (C:Int→Int→Prop) (g:Int→Int→V):R2:=fun x y H Q=>∃ i j,x=.int i∧y=.int j∧C i j∧Q (g i j) H
def rI0 (g:Int→Int→V):R2:=fun x y H Q=>∃ i j,x=.int i∧y=.int j∧Q (g i j) H
def rU (g:Int→V):V→Hp→VK→Prop:=fun x H Q=>∃ i,x=.int i∧Q (g i) H
section
variable {X:Cx} {a b c:Expr} {ta tb tc:TE} {pos:Pos}
theorem Z0 (ha:PE X a ta) (hb:PE X b tb) {pins:List (Addr × Obj)} {s:Shared} {σ:St} {H:Hp} {R:V→V→Hp→Prop} (I:Inv X pins σ H s)
  (h:ta σ H fun x H1=>tb σ H1 fun y H2=>R x y H2) {Q:Value→Shared→Prop} {f:Value→Value→Sem Value}
  (hf:∀ v u s2 x y H2,Inv X pins σ H2 s2→RelV x v→RelV y u→R x y H2→wpAny (model X.prog X.w) X.A (f v u) Q X.xe s2):
  wpAny (model X.prog X.w) X.A (eval a X.env) (fun v s₁=>wpAny (model X.prog X.w) X.A (eval b X.env) (fun u s₂=>wpAny (model X.prog X.w) X.A (f v u) Q X.xe s₂) X.xe s₁) X.xe s:=by
 refine thn (ha pins s σ H _ I h) fun v s1 ⟨x,H1,I1,r1,q1⟩=>?_
 refine thn (hb pins s1 σ H1 _ I1 q1) fun u s2 ⟨y,H2,I2,r2,q2⟩=>?_
 exact hf v u s2 x y H2 I2 r1 r2 q2
theorem Yu {op:Operator} {r:R2} (ho:OpR X (binaryOp op) r) (ha:PE X a ta) (hb:PE X b tb):PE X (.BinOp a op b pos) (tOp r ta tb):=by
 intro pins s σ H Q I h
 exact wpAny_BinOp (Z0 ha hb I h fun v u s2 x y H2 I2 rx ry q=>ho pins s2 σ H2 x y v u Q I2 rx ry q)
theorem Yt {op:UnaryOp} {r:V→Hp→VK→Prop} (ho:UnR X (unaryOp op) r) (ha:PE X a ta):PE X (.UnaryOp op a pos) (tUn r ta):=by
 intro pins s σ H Q I h
 exact UnaryOp_ (thn (ha pins s σ H _ I h) fun v s1 ⟨x,H1,I1,r1,q1⟩=>ho pins s1 σ H1 x v Q I1 r1 q1)
theorem opI {f:Value→Value→Sem Value} {C:Int→Int→Prop} {g:Int→Int→Int}
  (rule:∀ (i j:Int) (t u:Tok) (s:Shared) (Q:Value→Shared→Prop) (E:Value→Shared→Prop),C i j→Q (.int (g i j) s.toks) { s with toks:=s.toks+1 }→wpAny (model X.prog X.w) X.A (f (.int i t) (.int j u)) Q E s):
  OpR X f (rI C fun i j=>.int (g i j)):=by
 intro pins s σ H x y v u Q I rx ry h
 obtain ⟨i,j,rfl,rfl,hc,q⟩:=h
 obtain ⟨t,rfl⟩:=rx
 obtain ⟨t',rfl⟩:=ry
 exact rule i j t t' s _ _ hc ⟨.int (g i j),H,I.tok _,⟨_,rfl⟩,q⟩
theorem YB {f:Value→Value→Sem Value} {g:Int→Int→Int}
  (rule:∀ (i j:Int) (t u:Tok) (s:Shared) (Q:Value→Shared→Prop) (E:Value→Shared→Prop),Q (.int (g i j) s.toks) { s with toks:=s.toks+1 }→wpAny (model X.prog X.w) X.A (f (.int i t) (.int j u)) Q E s):
  OpR X f (rI0 fun i j=>.int (g i j)):=by
 intro pins s σ H x y v u Q I rx ry h
 obtain ⟨i,j,rfl,rfl,q⟩:=h
 obtain ⟨t,rfl⟩:=rx
 obtain ⟨t',rfl⟩:=ry
 exact rule i j t t' s _ _ ⟨.int (g i j),H,I.tok _,⟨_,rfl⟩,q⟩
theorem cP {f:Value→Value→Sem Value} {g:Int→Int→Bool}
  (rule:∀ (i j:Int) (t u:Tok) (s:Shared) (Q:Value→Shared→Prop) (E:Value→Shared→Prop),Q (.bool (g i j)) s→wpAny (model X.prog X.w) X.A (f (.int i t) (.int j u)) Q E s):
  OpR X f (rI0 fun i j=>.bl (g i j)):=by
 intro pins s σ H x y v u Q I rx ry h
 obtain ⟨i,j,rfl,rfl,q⟩:=h
 obtain ⟨t,rfl⟩:=rx
 obtain ⟨t',rfl⟩:=ry
 exact rule i j t t' s _ _ ⟨.bl (g i j),H,I,rfl,q⟩
def og (i j:Int):Prop:=j≠0∧j.natAbs<1073741824
def Z5 (i j:Int):Prop:=0≤j∧j≤1000000∧i.natAbs<2 ^ 64
def CMul (i j:Int):Prop:=(-(2 ^ 64)<i∧i<2 ^ 64)∨(-(2 ^ 64)<j∧j<2 ^ 64)
theorem CMul.ok {i j:Int} (h:CMul i j):IntMulOk i j:=by
 rcases h with ⟨h1,h2⟩ | ⟨h1,h2⟩
 ·exact .of_left (intBits_le_64 h1 h2)
 ·exact .of_right (intBits_le_64 h1 h2)
theorem cO:OpR X (binaryOp .Add) (rI0 fun i j=>.int (i+j)):=YB fun _ _ _ _ _ _ _ q=>add_int q
theorem cL:OpR X (binaryOp .Sub) (rI0 fun i j=>.int (i - j)):=YB fun _ _ _ _ _ _ _ q=>sub_int q
theorem nK:OpR X (binaryOp .FloorDiv) (rI og fun i j=>.int (i.fdiv j)):=opI fun _ _ _ _ _ _ _ hc q=>floordiv_int hc.1 q (.inl (PyProof.noPylong_small hc.2))
theorem jO:OpR X (binaryOp .Mod) (rI (fun _ j=>j≠0) fun i j=>.int (i.fmod j)):=opI fun _ _ _ _ _ _ _ hc q=>mod_int' hc q
theorem cM:OpR X (binaryOp .Pow) (rI Z5 fun i j=>.int (i ^ j.toNat)):=opI fun _ _ _ _ _ _ _ hc q=>pow_int_small hc.1 hc.2.1 hc.2.2 q
theorem unI {f:Value→Sem Value} {g:Int→Int}
  (rule:∀ (i:Int) (t:Tok) (s:Shared) (Q:Value→Shared→Prop) (E:Value→Shared→Prop),Q (.int (g i) s.toks) { s with toks:=s.toks+1 }→wpAny (model X.prog X.w) X.A (f (.int i t)) Q E s):
  UnR X f (rU fun i=>.int (g i)):=by
 intro pins s σ H x v Q I rx h
 obtain ⟨i,rfl,q⟩:=h
 obtain ⟨t,rfl⟩:=rx
 exact rule i t s _ _ ⟨.int (g i),H,I.tok _,⟨_,rfl⟩,q⟩
theorem ce:UnR X (unaryOp .USub) (rU fun i=>.int (-i)):=unI fun _ _ _ _ _ q=>neg_int q
end
def Yn:V→V→Bool
 | .non,.non=>true | .non,.int _=>true | .int _,.non=>true | .non,.bl _=>true | .bl _,.non=>true | .non,.str _=>true | .str _,.non=>true
 | .int _,.int _=>true | .bl _,.bl _=>true | .str _,.str _=>true | .byt _,.byt _=>true
 | .int _,.str _=>true | .str _,.int _=>true | .bl _,.str _=>true | .str _,.bl _=>true
 | _,_=>false
def rEq:R2:=fun x y H Q=>Yn x y=true∧Q (.bl (decide (x=y))) H
def rNe:R2:=fun x y H Q=>Yn x y=true∧Q (.bl (!decide (x=y))) H
theorem pS {i j:Int}:decide (V.int i=V.int j)=(i == j):=by
 rw [Bool.eq_iff_iff]
 simp
theorem kP {i j:Bool}:decide (V.bl i=V.bl j)=(i == j):=by
 rw [Bool.eq_iff_iff]
 simp
theorem pR {i j:Str}:decide (V.str i=V.str j)=(i == j):=by
 rw [Bool.eq_iff_iff]
 simp
theorem pT {i j:Array UInt8}:decide (V.byt i=V.byt j)=(i.toList == j.toList):=by
 rw [Bool.eq_iff_iff]
 cases i
 cases j
 simp
section
variable {X:Cx} {a b c:Expr} {ta tb tc:TE} {pos:Pos}
theorem zD {pins:List (Addr × Obj)} {σ:St} {H:Hp} {s:Shared} {Q:VK} {k k':Bool} (I:Inv X pins σ H s) (q:Q (.bl k) H) (e:k=k'):EP X pins σ Q (.bool k') s:=by
 subst e
 exact ⟨.bl k,H,I,rfl,q⟩
theorem YA:OpR X (compareOp .Eq) rEq:=by
 intro pins s σ H x y v u Q I rx ry h
 obtain ⟨hs,q⟩:=h
 cases x with
 | non=>
  cases rx
  cases y with
  | non=>cases ry; exact PySem.EqNone.eq_none_none (zD I q (by simp))
  | bl j=>cases ry; exact PySem.EqNone.eq_none_bool (zD I q (by simp))
  | int j=>obtain ⟨t',rfl⟩:=ry; exact PySem.EqNone.eq_none_int (zD I q (by simp))
  | str j=>obtain ⟨t',rfl⟩:=ry; exact PySem.EqNone.eq_none_str (zD I q (by simp))
  | _=>exact absurd (show false=true from hs) Bool.false_ne_true
 | bl i=>
  cases rx
  cases y with
  | non=>cases ry; exact PySem.EqNone.eq_bool_none (zD I q (by simp))
  | bl j=>cases ry; exact eq_bool (zD I q kP)
  | str j=>obtain ⟨t',rfl⟩:=ry; exact PySem.EqMixed.eq_bool_str (zD I q (by simp))
  | _=>exact absurd (show false=true from hs) Bool.false_ne_true
 | int i=>
  obtain ⟨t,rfl⟩:=rx
  cases y with
  | non=>cases ry; exact PySem.EqNone.eq_int_none (zD I q (by simp))
  | int j=>obtain ⟨t',rfl⟩:=ry; exact eq_int (zD I q pS)
  | str j=>obtain ⟨t',rfl⟩:=ry; exact PySem.EqMixed.eq_int_str (zD I q (by simp))
  | _=>exact absurd (show false=true from hs) Bool.false_ne_true
 | str i=>
  obtain ⟨t,rfl⟩:=rx
  cases y with
  | non=>cases ry; exact PySem.EqNone.eq_str_none (zD I q (by simp))
  | bl j=>cases ry; exact PySem.EqMixed.eq_str_bool (zD I q (by simp))
  | int j=>obtain ⟨t',rfl⟩:=ry; exact PySem.EqMixed.eq_str_int (zD I q (by simp))
  | str j=>obtain ⟨t',rfl⟩:=ry; exact eq_str (zD I q pR)
  | _=>exact absurd (show false=true from hs) Bool.false_ne_true
 | byt i=>
  obtain ⟨t,rfl⟩:=rx
  cases y with
  | byt j=>obtain ⟨t',rfl⟩:=ry; exact PySem.W.eq_bytes (zD I q pT)
  | _=>exact absurd (show false=true from hs) Bool.false_ne_true
 | _=>cases y <;> exact absurd (show false=true from hs) Bool.false_ne_true
theorem Yw:OpR X (compareOp .NotEq) rNe:=by
 intro pins s σ H x y v u Q I rx ry h
 obtain ⟨hs,q⟩:=h
 cases x with
 | non=>
  cases rx
  cases y with
  | non=>cases ry; exact PySem.EqNone.ne_none_none (zD I q (by simp))
  | bl j=>cases ry; exact PySem.EqNone.ne_none_bool (zD I q (by simp))
  | int j=>obtain ⟨t',rfl⟩:=ry; exact PySem.EqNone.ne_none_int (zD I q (by simp))
  | str j=>obtain ⟨t',rfl⟩:=ry; exact PySem.EqNone.ne_none_str (zD I q (by simp))
  | _=>exact absurd (show false=true from hs) Bool.false_ne_true
 | bl i=>
  cases rx
  cases y with
  | non=>cases ry; exact PySem.EqNone.ne_bool_none (zD I q (by simp))
  | bl j=>cases ry; exact ne_bool (zD I q (congrArg not kP))
  | str j=>obtain ⟨t',rfl⟩:=ry; exact PySem.EqMixed.ne_bool_str (zD I q (by simp))
  | _=>exact absurd (show false=true from hs) Bool.false_ne_true
 | int i=>
  obtain ⟨t,rfl⟩:=rx
  cases y with
  | non=>cases ry; exact PySem.EqNone.ne_int_none (zD I q (by simp))
  | int j=>obtain ⟨t',rfl⟩:=ry; exact ne_int (zD I q (congrArg not pS))
  | str j=>obtain ⟨t',rfl⟩:=ry; exact PySem.EqMixed.ne_int_str (zD I q (by simp))
  | _=>exact absurd (show false=true from hs) Bool.false_ne_true
 | str i=>
  obtain ⟨t,rfl⟩:=rx
  cases y with
  | non=>cases ry; exact PySem.EqNone.ne_str_none (zD I q (by simp))
  | bl j=>cases ry; exact PySem.EqMixed.ne_str_bool (zD I q (by simp))
  | int j=>obtain ⟨t',rfl⟩:=ry; exact PySem.EqMixed.ne_str_int (zD I q (by simp))
  | str j=>obtain ⟨t',rfl⟩:=ry; exact ne_str (zD I q (congrArg not pR))
  | _=>exact absurd (show false=true from hs) Bool.false_ne_true
 | byt i=>
  obtain ⟨t,rfl⟩:=rx
  cases y with
  | byt j=>obtain ⟨t',rfl⟩:=ry; exact PySem.W.ne_bytes (zD I q (congrArg not pT))
  | _=>exact absurd (show false=true from hs) Bool.false_ne_true
 | _=>cases y <;> exact absurd (show false=true from hs) Bool.false_ne_true
theorem Yx:OpR X (compareOp .Lt) (rI0 fun i j=>.bl (decide (i<j))):=cP fun _ _ _ _ _ _ _ q=>lt_int q
theorem Yy:OpR X (compareOp .LtE) (rI0 fun i j=>.bl (decide (i≤j))):=cP fun _ _ _ _ _ _ _ q=>le_int q
theorem Yz:OpR X (compareOp .Gt) (rI0 fun i j=>.bl (decide (j<i))):=cP fun _ _ _ _ _ _ _ q=>gt_int q
theorem OpR.or {f:Value→Value→Sem Value} {r r':R2} (h:OpR X f r) (h':OpR X f r'):OpR X f (fun x y H Q=>r x y H Q∨r' x y H Q):=by
 intro pins s σ H x y v u Q I rx ry q
 rcases q with q | q
 ·exact h pins s σ H x y v u Q I rx ry q
 ·exact h' pins s σ H x y v u Q I rx ry q
theorem zB (b:Expr) {op:CmpOp} (h:op≠.In:=by decide) (h2:op≠.NotIn:=by decide):behindInMarks op b=false:=by
 have e1:(op == CmpOp.In)=false:=by cases op <;> first | rfl | exact absurd rfl h
 have e2:(op == CmpOp.NotIn)=false:=by cases op <;> first | rfl | exact absurd rfl h2
 cases b <;> simp [behindInMarks,e1,e2]
theorem jK {op:CmpOp} {r:R2} (ho:OpR X (compareOp op) r) (ha:PE X a ta) (hb:PE X b tb) (hm:behindInMarks op b=false):PE X (.Compare a [op] [b] pos) (tOp r ta tb):=by
 intro pins s σ H Q I h
 exact wpAny_Compare1 (Z0 ha hb I h fun v u s2 x y H2 I2 rx ry q=>ho pins s2 σ H2 x y v u Q I2 rx ry q) hm
def dL (t:TE):TT:=fun σ H Q=>t σ H fun x H'=>∃ k,x=.bl k∧Q k H'
theorem jF {op:CmpOp} {r:R2} (ho:OpR X (compareOp op) r) (ha:PE X a ta) (hb:PE X b tb) (hm:behindInMarks op b=false):PT X (.Compare a [op] [b] pos) (dL (tOp r ta tb)):=by
 intro pins s σ H Q I h
 refine wpAny_isTrue_Compare1 (thn (ha pins s σ H _ I h) fun v s1 ⟨x,H1,I1,r1,q1⟩=>thn (hb pins s1 σ H1 _ I1 q1) fun u s2 ⟨y,H2,I2,r2,q2⟩=>
  thn (ho pins s2 σ H2 x y v u _ I2 r1 r2 q2) fun c s3 ⟨z,H3,I3,r3,k,e,q3⟩=>?_) hm
 subst e
 cases r3
 exact wpAny_truthy_bool ⟨H3,I3,q3⟩
def nj (r r':R2) (ta tb tc:TE):TE:=fun σ H Q=>ta σ H fun x H1=>tb σ H1 fun y H2=>r x y H2 fun z H3=>∃ k,z=.bl k∧
 (if k=true then tc σ H3 fun w' H4=>r' y w' H4 Q else Q (.bl false) H3)
theorem nJ {op op':CmpOp} {r r':R2} (ho:OpR X (compareOp op) r) (ho':OpR X (compareOp op') r') (ha:PE X a ta) (hb:PE X b tb) (hc:PE X c tc)
  (hm:lastMarks [op,op'] [b,c]=false:=by with_unfolding_all rfl):PE X (.Compare a [op,op'] [b,c] pos) (nj r r' ta tb tc):=by
 intro pins s σ H Q I h
 refine Compare_chain (thn (ha pins s σ H _ I h) fun v s1 ⟨x,H1,I1,r1,q1⟩=>chain_link (thn (hb pins s1 σ H1 _ I1 q1) fun u s2 ⟨y,H2,I2,r2,q2⟩=>
  thn (ho pins s2 σ H2 x y v u _ I2 r1 r2 q2) fun d s3 ⟨z,H3,I3,r3,k,e,q3⟩=>?_)) hm
 subst e
 cases r3
 refine wpAny_truthy_bool ?_
 cases k with
 | false=>exact ite_ff ⟨.bl false,H3,I3,rfl,q3⟩
 | true=>exact ite_tt (chain_last (thn (hc pins s3 σ H3 _ I3 q3) fun w' s4 ⟨z',H4,I4,r4,q4⟩=>ho' pins s4 σ H4 y z' u w' Q I4 r2 r4 q4))
theorem uH:(sizeLine:Nat)<2 ^ 63:=by rw [sizeLine_eq]; decide
theorem dJ {x:V} {us:List Value} (r:Vals [x] us):∃ u,us=[u]∧RelV x u:=by
 cases r with
 | cons r1 r2=>cases r2; exact ⟨_,rfl,r1⟩
theorem Z7 {x y:V} {us:List Value} (r:Vals [x,y] us):∃ u w',us=[u,w']∧RelV x u∧RelV y w':=by
 cases r with
 | cons r1 r2=>
  cases r2 with
  | cons r3 r4=>cases r4; exact ⟨_,_,rfl,r1,r3⟩
theorem o9 (hc:X.calm=true):CallR X (.builtin "min") (fun xs H Q=>∃ i j,xs=[.int i,.int j]∧Q (.int (if j<i then j else i)) H):=by
 intro pins s σ H xs us Q I r h
 obtain ⟨i,j,rfl,q⟩:=h
 obtain ⟨u,w',rfl,⟨t,rfl⟩,⟨t',rfl⟩⟩:=Z7 r
 refine min_two_ints (I.ok.hd hc) fun h' tk k=>⟨_,H,I.kept k,?_,q⟩
 by_cases hj:j<i
 ·rw [if_pos hj,if_pos hj]; exact ⟨_,rfl⟩
 ·rw [if_neg hj,if_neg hj]; exact ⟨_,rfl⟩
end
end L2
namespace L2
open PySem PySem.Spec PyProof.Rows
structure ObjM (h:Heap) (x dx C:Addr) (mA:Str→Option Value):Prop where
 obj:h.get? x=some (PySem.W.instObj C dx)
 ns:h.Ns1 dx mA
 ne:dx≠x
theorem oU {h:Heap} {dx:Addr} {mA:Str→Option Value} (n:h.Ns1 dx mA):∃ od,h.get? dx=some od∧∀ name,PySem.W.lookIn name od=some (mA name):=by
 obtain ⟨o,es,ep,ho,hd,hk,_,hm⟩:=n
 refine ⟨o,ho,fun name=>?_⟩
 have e:=hm name
 unfold nsFind findBy at e
 rw [← Array.find?_toList] at e
 unfold PySem.W.lookIn
 rw [hd]
 dsimp only
 split
 ·rename_i y q
  rw [q] at e
  exact congrArg some e
 ·rename_i q
  rw [q] at e
  have a:es.toList.any (·.refKey)=false:=by
   rw [List.any_eq_false]
   intro y hy
   obtain ⟨z,t,hkey⟩:=hk y (Array.mem_toList_iff.mp hy)
   simp [DictEntry.refKey,hkey]
  have a':¬ es.toList.any (·.refKey)=true:=by rw [a]; exact Bool.false_ne_true
  rw [if_neg a']
  exact congrArg some e
theorem ObjM.look {h:Heap} {x dx C:Addr} {mA:Str→Option Value} (I:ObjM h x dx C mA):∃ od,PySem.W.InstAt h x (PySem.W.instObj C dx) C (some od)∧∀ name,PySem.W.lookIn name od=some (mA name):=
 let ⟨od,ho,hl⟩:=oU I.ns
 ⟨od,⟨I.obj,rfl,rfl,ho⟩,hl⟩
section
variable {prog:Program} {w:World} {A:Around} {E:Value→Shared→Prop} {s:Shared} {K:PySem.W.Frag} {x dx C f:Addr} {mA:Str→Option Value} {name:Str} {v:Value}
theorem eH {expr:Bool} {Q:Value→Shared→Prop} (X:K.In s.heap) (I:ObjM s.heap x dx C mA) (hg:PySem.W.plainGet K C name=true) (hh:PySem.W.hasDictIn K C=true)
  (ha:PySem.W.findIn K (.ref C) name=some none) (hv:mA name=some v) (hv':PySem.W.handedIn v=true) (h:Q v { s with toks:=s.toks+1 }):
  wpAny (model prog w) A (getAttr (.ref x) name expr) Q E s:=by
 obtain ⟨od,J,hl⟩:=I.look
 exact PySem.W.get_value X J (PySem.W.plainGet_of hg).1 (PySem.W.findObj_own hh ha rfl (by rw [hl,hv])) hv' h
theorem kl {pl:Sem Bool} {Q:Value × List Value→Shared→Prop} (X:K.In s.heap) (I:ObjM s.heap x dx C mA) (hg:PySem.W.plainGet K C name=true)
  (hf:PySem.W.findIn K (.ref C) name=some (some (.ref f))) (ht:PySem.W.isFn K (.ref f)=true) (hv:mA name=none) (h:Q (.ref f,[.ref x]) s):
  wpAny (model prog w) A (getMethod (.ref x) name pl) Q E s:=by
 obtain ⟨od,J,hl⟩:=I.look
 exact PySem.W.method_fn X J (PySem.W.plainGet_of hg).1 (PySem.W.plainGet_of hg).2 hf (beq_iff_eq.mp ht) (by show (PySem.W.lookIn name od).map (·.isSome)=some false; rw [hl,hv]; rfl) h
theorem jz {ns:List Str} {Q:Unit→Shared→Prop} (X:K.In s.heap) (I:ObjM s.heap x dx C mA)
  (hs:PySem.W.findIn K (.ref C) "__setattr__"=some (some (.builtin "object.__setattr__"))) (hp:PySem.W.plainOver K C=true) (ht:PySem.W.takerIn K C name=some none) (hh:PySem.W.hasDictIn K C=true)
  (hw:PySem.Within mA ns) (hsz:ns.length≤sizeLine)
  (h:∀ h',ObjM h' x dx C (fun y=>if y=name then some v else mA y)→Heap.SameBut dx s.heap h'→Q () { s with heap:=h',toks:=s.toks+2 }):
  wpAny (model prog w) A (setAttr (.ref x) name v) Q E s:=by
 obtain ⟨od,J,hl⟩:=I.look
 refine PySem.W.set_plain X J hs (PySem.W.osa_open (s:={ s with toks:=s.toks+1 }) (r:=none) X J hp ht fun b=>?_)
 obtain ⟨cd,hc,hd'⟩:=PySem.W.any_some hh
 have hx:s.heap.get? x=some ⟨.ref C,some dx,.plain,#[]⟩:=I.obj
 refine wpAny_bind (wpAny_pure (wpAny_bind (wpAny_bind (wpAny_loadPart hx (wpAny_bind (PySem.W.Looks.here (s:={ s with toks:=s.toks+1 }) (PySem.W.looks_clsIn X hc) ?_))))))
 rw [hd']
 refine wpAny_pure (a:=some dx) (wpAny_bind (wpAny_pure (wpAny_bind ?_)))
 refine wpAny_nsSet1 (s:={ s with toks:=s.toks+1 }) I.ns fun h' hn2 hs2=>?_
 obtain ⟨oD,esD,epD,hoD,hdD,hcD⟩:=hn2.count (PySem.Within.cons name v hw)
 refine wpAny_bind (wpAny_lookBehind hoD (by rw [hdD]; exact pastItsLine_dict (Nat.le_trans hcD (by rw [List.length_cons]; omega))) ?_)
 exact wpAny_pure (h _ ⟨(hs2.2 _ (Ne.symm I.ne)).trans I.obj,hn2,I.ne⟩ hs2)
theorem lX {R:Result→Shared→Prop} {vs:List Value} {kw:List (Str × Value)} (X:K.In s.heap) (hm:PySem.W.makesIn K C=true)
  (hi:PySem.W.findIn K (.ref C) "__init__"=some (some (.ref f))) (hf:PySem.W.typeIn K (.ref f)=some (.type "function"))
  (h:codeAny (model prog w) (A.under (.builtin "type.__call__" ⟨.ref C::vs,kw⟩)) (.call (.ref f) ⟨.ref (s.heap.objs.size+1)::vs,kw⟩) (PySem.W.InitBack (s.heap.objs.size+1) R)
   { s with heap:=(s.heap.push PySem.W.emptyDict).push (PySem.W.instObj C s.heap.objs.size) }):
  codeAny (model prog w) A (.call (.ref C) ⟨vs,kw⟩) R s:=by
 obtain ⟨hh,g,d,t,os⟩:=s
 exact PySem.W.make_core (PySem.W.makes_of X hm) (PySem.W.looks_findIn X hi) (fun self=>PySem.W.bind_fn X self hf) (.inl rfl) h
end
def y9 (f:Str) (v:V):List (Str × V)→List (Str × V)
 | []=>[(f,v)]
 | (g,x)::r=>if g=f then (g,v)::r else (g,x)::y9 f v r
theorem vJ (f g:Str) (v:V):∀ fs:List (Str × V),(y9 f v fs).lookup g=if g=f then some v else fs.lookup g
 | []=>by
  show List.lookup g [(f,v)]=_
  by_cases h:g=f
  ·have hb:(g == f)=true:=beq_iff_eq.mpr h
   simp only [List.lookup,hb,if_pos h]
  ·have hb:(g == f)=false:=beq_eq_false_iff_ne.mpr h
   simp only [List.lookup,hb,if_neg h]
 | (k,x)::r=>by
  have ih:=vJ f g v r
  rw [show y9 f v ((k,x)::r)=(if k=f then (k,v)::r else (k,x)::y9 f v r) from rfl]
  by_cases hk:k=f
  ·rw [if_pos hk]
   by_cases h:g=k
   ·have hb:(g == k)=true:=beq_iff_eq.mpr h
    simp only [List.lookup,hb,if_pos (h.trans hk)]
   ·have hb:(g == k)=false:=beq_eq_false_iff_ne.mpr h
    simp only [List.lookup,hb,if_neg (fun e:g=f=>h (e.trans hk.symm))]
  ·rw [if_neg hk]
   by_cases h:g=k
   ·have hb:(g == k)=true:=beq_iff_eq.mpr h
    simp only [List.lookup,hb,if_neg (fun e:g=f=>hk (h.symm.trans e))]
   ·have hb:(g == k)=false:=beq_eq_false_iff_ne.mpr h
    simp only [List.lookup,hb]
    exact ih
theorem vq (f:Str) (v:V):∀ fs:List (Str × V),f∈(y9 f v fs).map (·.1)∧∀ g,g∈fs.map (·.1)→g∈(y9 f v fs).map (·.1)
 | []=>⟨by simp [y9],fun g h=>by simp at h⟩
 | (k,x)::r=>by
  obtain ⟨i1,i2⟩:=vq f v r
  rw [show y9 f v ((k,x)::r)=(if k=f then (k,v)::r else (k,x)::y9 f v r) from rfl]
  by_cases hk:k=f
  ·rw [if_pos hk]
   subst hk
   exact ⟨by simp,fun g h=>by simpa using h⟩
  ·rw [if_neg hk]
   refine ⟨?_,fun g h=>?_⟩
   ·rw [List.map_cons]
    exact List.mem_cons_of_mem _ i1
   ·rw [List.map_cons] at h ⊢
    rcases List.mem_cons.mp h with e | e
    ·exact List.mem_cons.mpr (.inl e)
    ·exact List.mem_cons_of_mem _ (i2 g e)
theorem vK (f:Str) (v:V):∀ fs:List (Str × V),(y9 f v fs).length≤fs.length+1
 | []=>by simp [y9]
 | (k,x)::r=>by
  have ih:=vK f v r
  rw [show y9 f v ((k,x)::r)=(if k=f then (k,v)::r else (k,x)::y9 f v r) from rfl]
  by_cases hk:k=f
  ·rw [if_pos hk,List.length_cons,List.length_cons]; omega
  ·rw [if_neg hk,List.length_cons,List.length_cons]; omega
theorem RelO.some_of {v:V} {o:Option Value} (r:RelO (some v) o):∃ u,o=some u∧RelV v u:=by
 cases o with
 | none=>exact (show False from r).elim
 | some u=>exact ⟨u,rfl,r⟩
theorem RelO.none_of {o:Option Value} (r:RelO none o):o=none:=by
 cases o with
 | none=>rfl
 | some u=>exact (show False from r).elim
theorem o0 {v:V} {u:Value} (r:RelV v u):PySem.W.handedIn u=true:=by
 cases v with
 | non=>cases (show u=Value.none from r); rfl
 | bl b=>cases (show u=Value.bool b from r); rfl
 | int i=>obtain ⟨t,e⟩:=(show ∃ t,u=Value.int i t from r); cases e; rfl
 | str x=>obtain ⟨t,e⟩:=(show ∃ t,u=Value.str x t from r); cases e; rfl
 | byt b=>obtain ⟨t,e⟩:=(show ∃ t,u=Value.bytes b t from r); cases e; rfl
 | flt b=>obtain ⟨t,e⟩:=(show ∃ t,u=Value.float b t from r); cases e; rfl
 | ref a=>cases (show u=Value.ref a from r); rfl
 | ty n=>cases (show u=Value.type n from r); rfl
section
variable {P:Program} {w:World} {H H':Hp} {h h':Heap} {a C dx:Addr} {fs fs':List (Str × V)}
theorem wP (hok:HOk P w H h) (e:H a=some (.ins C dx fs)):∃ mA,ObjM h a dx C mA∧(∀ f,RelO (fs.lookup f) (mA f))∧PySem.Within mA (fs.map (·.1))∧fs.length≤1000∧H dx=some (.own a):=by
 obtain ⟨d,z,ne,ob,mA,n,r,q⟩:=(show ObjOk P w H h a (.ins C dx fs) from hok a _ e)
 exact ⟨mA,⟨ob,n,ne⟩,r,q,z,d⟩
end
structure Cls (K:PySem.W.Frag) (C:Addr):Prop where
 pg:PySem.W.plainGet K C Str.empty=true
 hd:PySem.W.hasDictIn K C=true
 po:PySem.W.plainOver K C=true
 sa:PySem.W.findIn K (.ref C) "__setattr__"=some (some (.builtin "object.__setattr__"))
theorem Cls.get {K:PySem.W.Frag} {C:Addr} (c:Cls K C) (f:Str):PySem.W.plainGet K C f=true:=c.pg
def NoAttr (K:PySem.W.Frag) (C:Addr) (f:Str):Prop:=PySem.W.findIn K (.ref C) f=some none
theorem NoAttr.taker {K:PySem.W.Frag} {C:Addr} {f:Str} (n:NoAttr K C f):PySem.W.takerIn K C f=some none:=by
 unfold PySem.W.takerIn
 rw [show PySem.W.findIn K (.ref C) f=some none from n]
 rfl
structure s9 (K:PySem.W.Frag) (C:Addr) (m:Str) (f:Addr):Prop where
 at_:PySem.W.findIn K (.ref C) m=some (some (.ref f))
 fn:PySem.W.isFn K (.ref f)=true
 kp:PySem.W.keepIn K (.ref f)=true
section
variable {X:Cx} {pins:List (Addr × Obj)} {σ:St} {H:Hp} {s:Shared} {a C dx:Addr} {fs:List (Str × V)} {f:Str} {v:V} {A:Around} {E:Value→Shared→Prop}
theorem qO {b:Bool} {Q:Value→Shared→Prop} (I:Inv X pins σ H s) (e:H a=some (.ins C dx fs)) (c:Cls X.K C) (n:NoAttr X.K C f) (l:fs.lookup f=some v)
  (h:∀ u s',Inv X pins σ H s'→RelV v u→Q u s'):wpAny (model X.prog X.w) A (getAttr (.ref a) f b) Q E s:=by
 obtain ⟨mA,O,r,_,_,_⟩:=wP I.hok e
 obtain ⟨u,hu,ru⟩:=RelO.some_of (v:=v) (o:=mA f) (by rw [← l]; exact r f)
 exact eH I.kIn O (c.get f) c.hd n hu (o0 ru) (h u _ (I.tok _) ru)
theorem xo {m:Str} {g:Addr} {pl:Sem Bool} {Q:Value × List Value→Shared→Prop} (I:Inv X pins σ H s) (e:H a=some (.ins C dx fs)) (c:Cls X.K C) (k:s9 X.K C m g) (l:fs.lookup m=none)
  (h:Q (.ref g,[.ref a]) s):wpAny (model X.prog X.w) A (getMethod (.ref a) m pl) Q E s:=by
 obtain ⟨mA,O,r,_,_,_⟩:=wP I.hok e
 have hn:mA m=none:=RelO.none_of (by rw [← l]; exact r m)
 exact kl I.kIn O (c.get m) k.at_ k.fn hn h
theorem qm {y:V} {u:Value} {Q:Unit→Shared→Prop} (I:Inv X pins σ H s) (e:H a=some (.ins C dx fs)) (c:Cls X.K C) (n:NoAttr X.K C f) (hl:fs.length<1000) (ry:RelV y u)
  (h:∀ s',Inv X pins σ (upd H a (.ins C dx (y9 f y fs))) s'→Q () s'):wpAny (model X.prog X.w) A (setAttr (.ref a) f u) Q E s:=by
 obtain ⟨mA,O,r,wi,_,ho⟩:=wP I.hok e
 have hz:(fs.map (·.1)).length≤sizeLine:=by rw [List.length_map,sizeLine_eq]; omega
 refine jz I.kIn O c.sa c.po n.taker c.hd wi hz fun h' O' sb=>h _ ?_
 have hd:∃ o,h'.get? dx=some o:=let ⟨o,_,_,e',_⟩:=O'.ns; ⟨o,e'⟩
 refine I.write (x:=a) (e:=dx) (by rw [e]; exact True.intro) (.inr ho) (fun b q hb z=>(sb.2 b hb).trans z) hd ?_
 refine ⟨by rw [zl O.ne]; exact ho,?_,O.ne,O'.obj,_,O'.ns,fun g=>?_,fun g hg=>?_⟩
 ·have:=vK f y fs; omega
 ·show RelO ((y9 f y fs).lookup g) (if g=f then some u else mA g)
  rw [vJ]
  by_cases q:g=f
  ·rw [if_pos q,if_pos q]; exact ry
  ·rw [if_neg q,if_neg q]; exact r g
 ·by_cases q:g=f
  ·rw [q]; exact (vq f y fs).1
  ·refine (vq f y fs).2 g (wi g fun z=>hg ?_)
   show (if g=f then some u else mA g)=none
   rw [if_neg q]; exact z
theorem Inv.made (I:Inv X pins σ H s):Inv X pins σ (upd (upd H s.heap.objs.size (.own (s.heap.objs.size+1))) (s.heap.objs.size+1) (.ins C s.heap.objs.size []))
  { s with heap:=(s.heap.push PySem.W.emptyDict).push (PySem.W.instObj C s.heap.objs.size) }:=by
 have e1:(s.heap.push PySem.W.emptyDict).get? s.heap.objs.size=some PySem.W.emptyDict:=Heap.get?_push_size s.heap rfl
 have e2:((s.heap.push PySem.W.emptyDict).push (PySem.W.instObj C s.heap.objs.size)).get? (s.heap.objs.size+1)=some (PySem.W.instObj C s.heap.objs.size):=by
  have:=Heap.get?_push_size (s.heap.push PySem.W.emptyDict) (o:=PySem.W.instObj C s.heap.objs.size) rfl
  rwa [Heap.size_push] at this
 have e3:(s.heap.push PySem.W.emptyDict).Ns s.heap.objs.size (fun _=>none):=⟨PySem.W.emptyDict,#[],_,e1,rfl,(fun e he=>absurd he (by simp)),fun _=>rfl⟩
 have I1:=I.laid (a:=s.heap.objs.size) (o:=.own (s.heap.objs.size+1)) (h':=s.heap.push PySem.W.emptyDict) (t':=s.toks) (fun b u q=>Heap.get?_push_of_some _ q) (Nat.le_refl _) ⟨_,e1⟩
 refine I1.laid (a:=s.heap.objs.size+1) (o:=.ins C s.heap.objs.size []) (t':=s.toks) (fun b u q=>Heap.get?_push_of_some _ q) (Nat.le_of_eq (Heap.size_push _ _)) ?_
 have ne:s.heap.objs.size≠s.heap.objs.size+1:=Nat.ne_of_lt (Nat.lt_succ_self _)
 refine ⟨by rw [zl ne,zh],Nat.zero_le _,ne,e2,fun _=>none,(Heap.Ns1.of_empty e3).at fun o q=>Heap.get?_push_of_some _ q,fun _=>True.intro,fun y hy=>absurd rfl hy⟩
theorem dE {prog:Program} {w:World} {env:Env} {e:Expr} {f:Str} {pos:Pos} {s:Shared} {Q:Value→Shared→Prop} (hb:attributeBase e f env (eval e env)=eval e env)
  (h:wpAny (model prog w) A (eval e env) (fun o s₁=>wpAny (model prog w) A (getAttr o f true) Q E s₁) E s):wpAny (model prog w) A (eval (.Attribute e f pos) env) Q E s:=
 Attribute_any_ h (by rw [arm_eval_Attribute,hb])
end
def Wg (K:PySem.W.Frag) (ta:TE) (f:Str):TE:=fun σ H Q=>ta σ H fun x H1=>∃ a C dx fs v,x=.ref a∧H1 a=some (.ins C dx fs)∧Cls K C∧NoAttr K C f∧fs.lookup f=some v∧Q v H1
def Yo (K:PySem.W.Frag) (ta tv:TE) (f:Str):TS:=fun D σ H=>tv σ H fun y H1=>ta σ H1 fun x H2=>∃ a C dx fs,x=.ref a∧H2 a=some (.ins C dx fs)∧Cls K C∧NoAttr K C f∧fs.length<1000∧
 D.nx σ (upd H2 a (.ins C dx (y9 f y fs)))
section
variable {X:Cx} {o e value:Expr} {f:Str} {pos pos' tpos:Pos} {ta tv:TE}
theorem nG (he:PE X e ta) (hb:attributeBase e f X.env (eval e X.env)=eval e X.env):PE X (.Attribute e f pos) (Wg X.K ta f):=by
 intro pins s σ H Q I h
 refine dE hb (thn (he pins s σ H _ I h) fun u s1 ⟨x,H1,I1,rx,a,C,dx,fs,v,ex,ea,c,n,l,q⟩=>?_)
 subst ex
 obtain rfl:u=Value.ref a:=rx
 exact qO I1 ea c n l fun u' s2 I2 ru=>⟨v,H1,I2,ru,q⟩
theorem wf (ha:PE X o ta) (hv:PE X value tv) (hs:swapsWith value (some (.Attribute o f pos')) pos.line X.env=pure false):PS X (.Assign [.Attribute o f pos'] value pos) (Yo X.K ta tv f):=by
 intro pins s σ H D I h
 refine plainObj_wpAny_Assign_Attribute (thn (hv pins s σ H _ I h) fun u s1 ⟨y,H1,I1,ry,q⟩=>thn (ha pins s1 σ H1 _ I1 q) fun ov s2 ⟨x,H2,I2,rx,a,C,dx,fs,ex,ea,c,n,l,q2⟩=>?_) hs
 subst ex
 obtain rfl:ov=Value.ref a:=rx
 exact qm I2 ea c n l ry fun s3 I3=>⟨σ,_,I3,q2⟩
end
section
variable {X:Cx} {pins:List (Addr × Obj)} {σ:St} {H:Hp} {s:Shared} {A:Around} {E:Value→Shared→Prop} {Q:Value→Shared→Prop} {c:Value} {b:Bool}
inductive wr (K:PySem.W.Frag) (H:Hp):V→Value→Prop where
 | non:wr K H .non (.type "NoneType")
 | bl (x:Bool):wr K H (.bl x) (.type "bool")
 | int (i:Int):wr K H (.int i) (.type "int")
 | str (x:Str):wr K H (.str x) (.type "str")
 | flt (x:UInt64):wr K H (.flt x) (.type "float")
 | lst {a:Addr} {xs:List V} (e:H a=some (.lst xs)):wr K H (.ref a) (.type "list")
 | frz {a:Addr} {o:Obj} {xs:List V} (e:H a=some (.frz o (.lst xs))):wr K H (.ref a) (.type "list")
 | tup {a:Addr} {xs:List V} (e:H a=some (.tup xs)):wr K H (.ref a) (.type "tuple")
 | dK {a:Addr} {kvs:List (Key × V)} (e:H a=some (.dK kvs)):wr K H (.ref a) (.type "dict")
 | dT {a:Addr} {kvs:List (List Key × V)} (e:H a=some (.dT kvs)):wr K H (.ref a) (.type "dict")
 | ins {a C dx:Addr} {fs:List (Str × V)} (e:H a=some (.ins C dx fs)) (cl:Cls K C) (ha:PySem.W.findIn K (.ref C) "__class__"=some (some (.builtin "object.__class__")))
   (hn:PySem.W.specialIn K (.builtin "object.__class__") "__get__"=some (some (.builtin "getset_descriptor.__get__"))) (htk:PySem.W.takesIn K (.builtin "object.__class__")=some true)
   (hm:PySem.W.mroIn K C (.type "object")=some true):wr K H (.ref a) (.ref C)
theorem tV {x:V} {u t:Value} (I:Inv X pins σ H s) (rx:RelV x u) (ty:wr X.K H x t) (e:PySem.W.kitOne X.K t c=some b) (h:∀ tk,Q (.bool b) { s with toks:=tk }):
  wpAny (model X.prog X.w) A (call (.builtin "isinstance") [u,c]) Q E s:=by
 cases ty with
 | non=>cases (show u=Value.none from rx); exact PySem.W.kia_one PySem.W.kitx_none I.kIn True.intro e (fun z=>nomatch z) h
 | bl y=>cases (show u=Value.bool y from rx); exact PySem.W.kia_one PySem.W.kitx_bool I.kIn True.intro e (fun z=>nomatch z) h
 | int i=>obtain ⟨t,q⟩:=(show ∃ t,u=Value.int i t from rx); cases q; exact PySem.W.kia_one PySem.W.kitx_int I.kIn True.intro e (fun z=>nomatch z) h
 | str y=>obtain ⟨t,q⟩:=(show ∃ t,u=Value.str y t from rx); cases q; exact PySem.W.kia_one PySem.W.kitx_str I.kIn True.intro e (fun z=>nomatch z) h
 | flt y=>obtain ⟨t,q⟩:=(show ∃ t,u=Value.float y t from rx); cases q; exact PySem.W.kia_one PySem.W.kitx_float I.kIn True.intro e (fun z=>nomatch z) h
 | @lst a xs ea=>
  cases (show u=Value.ref a from rx)
  obtain ⟨_,_,n,_,h1⟩:=(show ObjOk X.prog X.w H s.heap a (.lst xs) from I.hok a _ ea)
  exact PySem.W.kia_one PySem.W.kitx_list I.kIn ⟨_,h1,rfl⟩ e (fun z=>nomatch z) h
 | @frz a ob xs ea=>
  cases (show u=Value.ref a from rx)
  obtain ⟨_,_,_,n,_,h1⟩:=(show ObjOk X.prog X.w H s.heap a (.frz ob (.lst xs)) from I.hok a _ ea)
  exact PySem.W.kia_one PySem.W.kitx_list I.kIn ⟨_,h1,rfl⟩ e (fun z=>nomatch z) h
 | @tup a xs ea=>
  cases (show u=Value.ref a from rx)
  obtain ⟨_,_,_,p⟩:=(show ObjOk X.prog X.w H s.heap a (.tup xs) from I.hok a _ ea)
  obtain ⟨o,h1,h2,_⟩:=p
  exact PySem.W.kia_one PySem.W.kitx_tuple I.kIn ⟨o,h1,h2⟩ e (fun z=>nomatch z) h
 | @dK a kvs ea=>
  cases (show u=Value.ref a from rx)
  obtain ⟨_,_,vs,_,p⟩:=(show ObjOk X.prog X.w H s.heap a (.dK kvs) from I.hok a _ ea)
  obtain ⟨o,es,ep,h1,h2,_⟩:=p
  exact PySem.W.kia_one PySem.W.kitx_dict I.kIn ⟨o,h1,h2.1⟩ e (fun z=>nomatch z) h
 | @dT a kvs ea=>
  cases (show u=Value.ref a from rx)
  obtain ⟨_,_,xs,_,o,es,ep,h1,h2,_⟩:=(show ObjOk X.prog X.w H s.heap a (.dT kvs) from I.hok a _ ea)
  exact PySem.W.kia_one PySem.W.kitx_dict I.kIn ⟨o,h1,h2.1⟩ e (fun z=>nomatch z) h
 | @ins a C dx fs ea cl ha hn htk hm=>
  cases (show u=Value.ref a from rx)
  obtain ⟨mA,O,_⟩:=wP I.hok ea
  obtain ⟨od,J,_⟩:=O.look
  exact PySem.W.kia_one (PySem.W.kitx_own (cl.get _) cl.hd ha hn htk hm) I.kIn J e (fun z=>nomatch z) h
end
end L2
namespace L2
open PySem PySem.Spec PyProof.Rows
structure Room (k:Nat) (A:Around):Prop where
 hd:A.handled=none
 dp:A.depth+3*k+5<recursionLimit
 un:A.units+16*k+200<cLine
theorem Room.mono {j k:Nat} {A:Around} (r:Room k A) (h:j≤k):Room j A:=⟨r.hd,by have:=r.dp; omega,by have:=r.un; omega⟩
theorem Room.deeper {k:Nat} {A:Around} (r:Room (k+1) A) (env:Env):Room k (A.deeper env):=
 ⟨r.hd,by have:=r.dp; show A.depth+1+3*k+5<_; omega,by have:=r.un; show A.units+3+16*k+200<_; omega⟩
theorem Room.in1 {k:Nat} {A:Around} (r:Room (k+1) A):Room k A.in1:=
 ⟨r.hd,by have:=r.dp; show A.depth+3*k+5<_; omega,by have:=r.un; show A.units+1+16*k+200<_; omega⟩
theorem qE {A:Around} {C:Addr} {us:List Value} {kw:List (Str × Value)}:(A.under (.builtin "type.__call__" ⟨.ref C::us,kw⟩)).depth=A.depth+1:=by
 first | rfl | simp [Around.under,Code.weight,Code.isCreation,Code.isGuard,Code.isCaller,Code.frames,Code.isFrame,guardIds]
theorem qD {A:Around} {C:Addr} {us:List Value} {kw:List (Str × Value)}:(A.under (.builtin "type.__call__" ⟨.ref C::us,kw⟩)).units=A.units+1:=by
 first | rfl | simp [Around.under,Code.cUnits,Code.frames,Code.isFrame]
theorem Room.make {k:Nat} {A:Around} (r:Room (k+1) A) (C:Addr) (us:List Value) (kw:List (Str × Value)):Room k (A.under (.builtin "type.__call__" ⟨.ref C::us,kw⟩)):=
 ⟨r.hd,by have:=r.dp; rw [qE]; omega,by have:=r.un; rw [qD]; omega⟩
theorem Room.depth {k:Nat} {A:Around} (r:Room k A):A.depth<recursionLimit:=by have:=r.dp; omega
theorem Room.units {k:Nat} {A:Around} (r:Room k A):A.units+64<cLine:=by have:=r.un; omega
def Yd:TA:=fun _ H Q=>Q [] H
def Yk (ta:TE) (tr:TA):TA:=fun σ H Q=>ta σ H fun x H1=>tr σ H1 fun xs H2=>Q (x::xs) H2
section
variable {X:Cx} {e:Expr} {es:List Expr} {te:TE} {t:TA} {pos:Pos}
theorem zP:PA X [] Yd:=fun _ _ _ _ H Q I h=>Calls.spliced_nil ⟨[],H,I,.nil,h⟩
theorem zx (ha:PE X e te) (hr:PA X es t) (hs:starEach (e::es) X.env=(false,eval e X.env)::starEach es X.env:=by rfl):PA X (e::es) (Yk te t):=by
 intro pos pins s σ H Q I h
 rw [hs]
 show wpAny _ _ (spliced ((false,eval e X.env)::backTo pos (starEach es X.env))) _ _ s
 refine Calls.spliced_cons (thn (ha pins s σ H _ I h) fun u s1 ⟨x,H1,I1,r1,q1⟩=>?_)
 exact thn (hr pos pins s1 σ H1 _ I1 q1) fun us s2 ⟨xs,H2,I2,r2,q2⟩=>⟨x::xs,H2,I2,.cons r1 r2,q2⟩
def X_ (t:TA):TE:=fun σ H Q=>t σ H fun xs H1=>xs.length≤sizeLine∧∀ p,H1 p=none→Q (.ref p) (upd H1 p (.tup xs))
def Wd (t:TA):TE:=fun σ H Q=>t σ H fun xs H1=>xs.length≤sizeLine∧∀ p,H1 p=none→Q (.ref p) (upd H1 p (.lst xs))
theorem ur {x1} (h:PA X es t):PE X (.Tuple es x1 pos) (X_ t):=by
 intro pins s σ H Q I hq
 refine wpAny_Tuple_spliced (thn (h pos pins s σ H _ I hq) fun us s1 ⟨xs,H1,I1,r,z,q⟩=>⟨by rw [← r.length]; exact z,?_⟩)
 have hf:H1 s1.heap.objs.size=none:=I1.hok.fresh (Nat.le_refl _)
 refine ⟨.ref s1.heap.objs.size,upd H1 s1.heap.objs.size (.tup xs),I1.laid (t':=s1.toks) (fun b u e=>Heap.get?_push_of_some _ e) (Nat.le_refl _) ?_,rfl,q _ hf⟩
 exact ⟨z,us,r,⟨_,Heap.get?_push_size _ rfl,rfl,_,rfl⟩⟩
theorem nF (h:PA X es t):PE X (.List es pos) (Wd t):=by
 intro pins s σ H Q I hq
 refine wpAny_List_spliced (thn (h pos pins s σ H _ I hq) fun us s1 ⟨xs,H1,I1,r,z,q⟩=>⟨by rw [← r.length]; exact z,?_⟩)
 have hf:H1 s1.heap.objs.size=none:=I1.hok.fresh (Nat.le_refl _)
 refine ⟨.ref s1.heap.objs.size,upd H1 s1.heap.objs.size (.lst xs),I1.laid (t':=s1.toks) (fun b u e=>Heap.get?_push_of_some _ e) (Nat.le_refl _) ?_,rfl,q _ hf⟩
 exact ⟨z,us,0,r,Heap.get?_push_size _ rfl⟩
end
abbrev Sp:=List V→Hp→VK→XK→Prop
abbrev CXT:=List Env→Hp→Shared→XK→Value→Shared→Prop
structure Env0 (P:Program) (w:World) (K:PySem.W.Frag) (mg:Str→Option Value) (base:Heap) (A:Around) (outer:List Env) (s:Shared) (H:Hp):Prop where
 frames:A.frames=some outer
 mod:Mod K mg base
 bs:∀ b o,base.get? b=some o→s.heap.get? b=some o∧H b=none
 bsz:base.objs.size≤s.heap.objs.size
 funs:s.heap.FunFrames base outer
 frf:∀ b∈frs outer,H b=none
 hok:HOk P w H s.heap
 bare:AllBare s.gens
def CE (outer:List Env) (P:Program) (w:World) (H:Hp) (s:Shared) (Q:VK) (u:Value) (s':Shared):Prop:=
 ∃ v H',s'.os=s.os∧AllBare s'.gens∧Un (frs outer) [] H H' s.heap s'.heap∧HOk P w H' s'.heap∧RelV v u∧Q v H'
def CR (CX:CXT) (outer:List Env) (P:Program) (w:World) (H:Hp) (s:Shared) (Q:VK) (E:XK) (r:Result) (s':Shared):Prop:=
 match r with
 | .ok (.ret u)=>CE outer P w H s Q u s'
 | .ok _=>False
 | .error e=>CX outer H s E e s'
structure FnOk (P:Program) (w:World) (K:PySem.W.Frag) (mg:Str→Option Value) (base:Heap) (CX:CXT) (k:Nat) (f:Addr) (fd:FuncData) (ps:List Str) (sp:Sp):Prop where
 len:∀ vs H Q E,sp vs H Q E→vs.length=ps.length
 run:∀ (A:Around) (outer:List Env) (s:Shared) (H:Hp) (args:Args) (us:List Value) (vs:List V) (Q:VK) (E:XK),Room k A→Env0 P w K mg base A outer s H→BindsTo s fd args (ps.zip us)→Vals vs us→sp vs H Q E→
  codeAny (model P w) A (.call (.ref f) args) (CR CX outer P w H s Q E) s
theorem FnOk.mono {P:Program} {w:World} {K:PySem.W.Frag} {mg:Str→Option Value} {base:Heap} {CX:CXT} {j k:Nat} {f:Addr} {fd:FuncData} {ps:List Str} {sp:Sp} (F:FnOk P w K mg base CX j f fd ps sp) (h:j≤k):
  FnOk P w K mg base CX k f fd ps sp:=⟨F.len,fun A outer s H args us vs Q E hr=>F.run A outer s H args us vs Q E (hr.mono h)⟩
theorem FnOk.imp {P:Program} {w:World} {K:PySem.W.Frag} {mg:Str→Option Value} {base:Heap} {CX:CXT} {k:Nat} {f:Addr} {fd:FuncData} {ps:List Str} {sp sp':Sp} (F:FnOk P w K mg base CX k f fd ps sp)
  (h:∀ vs H Q E,sp' vs H Q E→sp vs H Q E):FnOk P w K mg base CX k f fd ps sp':=
 ⟨fun vs H Q E q=>F.len vs H Q E (h _ _ _ _ q),fun A outer s H args us vs Q E hr he hb hv hs=>F.run A outer s H args us vs Q E hr he hb hv (h _ _ _ _ hs)⟩
theorem Env0.make {P:Program} {w:World} {K:PySem.W.Frag} {mg:Str→Option Value} {base:Heap} {A:Around} {outer:List Env} {s:Shared} {H:Hp} (e:Env0 P w K mg base A outer s H) (C:Addr) (us:List Value) (kw:List (Str × Value)):
  Env0 P w K mg base (A.under (.builtin "type.__call__" ⟨.ref C::us,kw⟩)) outer s H:=⟨by first | exact e.frames | (simpa [Around.under,Code.envs,Code.isFrame,pushEnvs] using e.frames),e.mod,e.bs,e.bsz,e.funs,e.frf,e.hok,e.bare⟩
theorem Env0.in1 {P:Program} {w:World} {K:PySem.W.Frag} {mg:Str→Option Value} {base:Heap} {A:Around} {outer:List Env} {s:Shared} {H:Hp} (e:Env0 P w K mg base A outer s H):
  Env0 P w K mg base A.in1 outer s H:=⟨e.frames,e.mod,e.bs,e.bsz,e.funs,e.frf,e.hok,e.bare⟩
section
variable {X:Cx} {pins:List (Addr × Obj)} {σ:St} {H:Hp} {s s':Shared}
theorem Inv.env0 (I:Inv X pins σ H s):Env0 X.prog X.w X.K X.mg X.base X.A X.stack s H:=
 ⟨I.ok.frames,I.ok.mod,I.bs,Nat.le_trans I.ok.bsz I.sz,I.stack,I.stkFree,I.hok,I.bare⟩
theorem Inv.after {Q:VK} {u:Value} (I:Inv X pins σ H s) (h:CE X.stack X.prog X.w H s Q u s'):EP X pins σ Q u s':=by
 obtain ⟨v,H',os,bare,un,hok,r,q⟩:=h
 obtain ⟨hh,g,d,t,os'⟩:=s'
 obtain rfl:os'=s.os:=os
 exact ⟨v,H',I.call (h':=hh) (g':=g) (d':=d) (t':=t) (ch:=[]) un hok bare (fun b z=>absurd z (by simp)),r,q⟩
end
def Yl (sp:Sp) (dvs:List V) (E:XK) (t:TA):TE:=fun σ H Q=>t σ H fun vs H1=>sp (vs++dvs) H1 Q E
def Yg (C:Addr) (sp:Sp) (dvs:List V) (E:XK) (t:TA):TE:=fun σ H Q=>t σ H fun vs H1=>∀ x dx,H1 x=none→H1 dx=none→dx≠x→
 sp (.ref x::(vs++dvs)) (upd (upd H1 dx (.own x)) x (.ins C dx [])) (fun v H2=>v=.non∧Q (.ref x) H2) E
def Binds (K:PySem.W.Frag) (fd:FuncData) (ps:List Str) (ds:List Value):Prop:=
 ∀ (s:Shared) (us:List Value),K.In s.heap→(us++ds).length=ps.length→BindsTo s fd ⟨us,[]⟩ (ps.zip (us++ds))
theorem Binds.all {K:PySem.W.Frag} {fd:FuncData} {ps:List Str} (h:∀ us:List Value,us.length=ps.length→bindArgs fd ⟨us,[]⟩=pure (ps.zip us)):Binds K fd ps []:=fun s us _ hl=>by
 rw [List.append_nil] at hl ⊢
 exact .of_eq (h us hl)
def vE (CX:CXT) (X:Cx) (E:XK):Prop:=∀ (pins:List (Addr × Obj)) (σ:St) (H:Hp) (s:Shared) (e:Value) (s':Shared),Inv X pins σ H s→CX X.stack H s E e s'→X.xe e s'
section
variable {X:Cx} {CX:CXT} {k:Nat} {f C:Addr} {fd:FuncData} {ps:List Str} {sp:Sp} {dvs:List V} {ds:List Value} {E:XK} {x m:Str} {p pos apos:Pos} {e o:Expr} {es:List Expr} {ta:TE} {t:TA}
theorem sy {pins:List (Addr × Obj)} {σ:St} {H:Hp} {s:Shared} {Q:VK} {us:List Value} {vs:List V} (F:FnOk X.prog X.w X.K X.mg X.base CX k f fd ps sp) (hr:Room k X.A) (hb:Binds X.K fd ps ds) (hd:Vals dvs ds) (hx:vE CX X E)
  (I:Inv X pins σ H s) (r:Vals vs us) (h:sp (vs++dvs) H Q E):wpAny (model X.prog X.w) X.A (call (.ref f) us) (EP X pins σ Q) X.xe s:=by
 have r2:Vals (vs++dvs) (us++ds):=r.append hd
 have hl:(us++ds).length=ps.length:=by rw [← r2.length]; exact F.len _ _ _ _ h
 refine wpAny_call (codeAny_mono (F.run X.A X.stack s H ⟨us,[]⟩ (us++ds) (vs++dvs) Q E hr I.env0 (hb s us I.kIn hl) r2 h) fun r s' hq=>?_)
 cases r with
 | error e=>exact hx pins σ H s e s' I hq
 | ok fl=>
  cases fl with
  | ret u=>exact I.after hq
  | next=>exact False.elim hq
  | brk=>exact False.elim hq
  | cont=>exact False.elim hq
theorem sB (F:FnOk X.prog X.w X.K X.mg X.base CX k f fd ps sp) (hr:Room k X.A) (hg:Gl X x) (hm:X.mg x=some (.ref f)) (hk:PySem.W.keepIn X.K (.ref f)=true) (hb:Binds X.K fd ps ds) (hd:Vals dvs ds) (hx:vE CX X E)
  (ha:PA X (e::es) t) (hdb:(x == ("__debug__":Str))=false:=by decide) (he:starEach (e::es) X.env=(false,eval e X.env)::starEach es X.env:=by rfl) (hpl:(backTo pos (starEach es X.env)).any (·.1)=false:=by rfl):
  PE X (.Call (.Name x p) (e::es) [] pos) (Yl sp dvs E t):=by
 intro pins s σ H Q I h
 refine wpAny_Call_Name_kw (xS I hg hm ?_ hdb)
 refine PySem.W.callWith_K (h₀:=X.base) I.ok.mod.kin hk (thn (ha pos pins s σ H _ I h) fun us s1 ⟨vs,H1,I1,r,q⟩=>⟨I1.kIn,?_⟩) he hpl
 exact sy F hr hb hd hx I1 r q
structure Mk (K:PySem.W.Frag) (C f:Addr):Prop where
 makes:PySem.W.makesIn K C=true
 init:PySem.W.findIn K (.ref C) "__init__"=some (some (.ref f))
 fn:PySem.W.isFn K (.ref f)=true
 kp:PySem.W.keepIn K (.ref C)=true
theorem nr {pins:List (Addr × Obj)} {σ:St} {H:Hp} {s:Shared} {Q:VK} {us:List Value} {vs:List V} (M:Mk X.K C f) (F:FnOk X.prog X.w X.K X.mg X.base CX k f fd ps sp) (hr:Room (k+1) X.A) (hb:Binds X.K fd ps ds) (hd:Vals dvs ds)
  (hx:vE CX X E) (I:Inv X pins σ H s) (r:Vals vs us)
  (h:∀ x dx,H x=none→H dx=none→dx≠x→sp (.ref x::(vs++dvs)) (upd (upd H dx (.own x)) x (.ins C dx [])) (fun v H2=>v=.non∧Q (.ref x) H2) E):
  wpAny (model X.prog X.w) X.A (call (.ref C) us) (EP X pins σ Q) X.xe s:=by
 have hq:=h (s.heap.objs.size+1) s.heap.objs.size (I.hok.fresh (Nat.le_succ _)) (I.hok.fresh (Nat.le_refl _)) (Nat.ne_of_lt (Nat.lt_succ_self _))
 have I2:=Inv.made (C:=C) I
 have r2:Vals (V.ref (s.heap.objs.size+1)::(vs++dvs)) (Value.ref (s.heap.objs.size+1)::(us++ds)):=.cons rfl (r.append hd)
 have hl:(Value.ref (s.heap.objs.size+1)::us++ds).length=ps.length:=by
  have e:=r2.length
  rw [F.len _ _ _ _ hq] at e
  exact e.symm
 refine wpAny_call (lX (f:=f) I.kIn M.makes M.init (beq_iff_eq.mp M.fn) (codeAny_mono (F.run _ X.stack _ _ ⟨Value.ref (s.heap.objs.size+1)::us,[]⟩ (Value.ref (s.heap.objs.size+1)::(us++ds)) _ _ E (hr.make C us [])
  (I2.env0.make C us []) (hb _ (Value.ref (s.heap.objs.size+1)::us) I2.kIn hl) r2 hq) fun r s' hq'=>?_))
 cases r with
 | error e=>exact hx pins σ _ _ e s' I2 hq'
 | ok fl=>
  cases fl with
  | ret u=>
   obtain ⟨v,H',I3,rv,ev,q3⟩:=I2.after hq'
   subst ev
   exact ⟨rv,⟨V.ref (s.heap.objs.size+1),H',I3,rfl,q3⟩⟩
  | next=>exact False.elim hq'
  | brk=>exact False.elim hq'
  | cont=>exact False.elim hq'
theorem pA (M:Mk X.K C f) (F:FnOk X.prog X.w X.K X.mg X.base CX k f fd ps sp) (hr:Room (k+1) X.A) (hg:Gl X x) (hm:X.mg x=some (.ref C)) (hb:Binds X.K fd ps ds) (hd:Vals dvs ds) (hx:vE CX X E)
  (ha:PA X (e::es) t) (hdb:(x == ("__debug__":Str))=false:=by decide) (he:starEach (e::es) X.env=(false,eval e X.env)::starEach es X.env:=by rfl) (hpl:(backTo pos (starEach es X.env)).any (·.1)=false:=by rfl):
  PE X (.Call (.Name x p) (e::es) [] pos) (Yg C sp dvs E t):=by
 intro pins s σ H Q I h
 refine wpAny_Call_Name_kw (xS I hg hm ?_ hdb)
 refine PySem.W.callWith_K (h₀:=X.base) I.ok.mod.kin M.kp (thn (ha pos pins s σ H _ I h) fun us s1 ⟨vs,H1,I1,r,q⟩=>⟨I1.kIn,?_⟩) he hpl
 exact nr M F hr hb hd hx I1 r q
end
section
variable {X:Cx} {CX:CXT} {k:Nat} {f C:Addr} {fd:FuncData} {ps ks:List Str} {sp:Sp} {E:XK} {x m:Str} {p pos apos kpos:Pos} {e o:Expr} {es:List Expr} {kws:List Keyword} {te ta:TE} {t tk:TA} {nm:Option Str}
variable {g:List Value→List Value→List Value} {gV:List V→List V→List V}
end
structure zi (N P:List Str) (sc:Scope):Prop where
 kind:sc.kind=.function
 co:sc.isCoroutine=false
 gen:sc.isGenerator=false
 nd:N.Nodup
 pre:N.take P.length=P
 par:∀ x∈P,sc.names.lookup x=some .local∨sc.names.lookup x=some .cell
 nofree:∀ y∈sc.names,y.2≠.free
theorem sd {kindOf:Str→Option NameKind} {x:Str}:∀ {binds:List (Str × Value)} {m:Str→Option Value},(∀ v,(x,v)∉binds)→bindL kindOf binds m x=m x
 | [],_,_=>rfl
 | (n,v)::r,m,h=>by
  unfold bindL
  rw [sd fun w hw=>h w (List.mem_cons_of_mem _ hw)]
  split
  ·have:x≠n:=by rintro rfl; exact h v List.mem_cons_self
   simp [this]
  ·rfl
theorem sf {kindOf:Str→Option NameKind} {x:Str}:∀ {binds:List (Str × Value)} {m:Str→Option Value},(∀ v,(x,v)∉binds)→bindC kindOf binds m x=m x
 | [],_,_=>rfl
 | (n,v)::r,m,h=>by
  unfold bindC
  rw [sf fun w hw=>h w (List.mem_cons_of_mem _ hw)]
  split
  ·rfl
  ·have:x≠n:=by rintro rfl; exact h v List.mem_cons_self
   simp [this]
theorem se {kindOf:Str→Option NameKind} {x:Str} {v:Value}:∀ {P:List Str} {vs:List Value} {i:Nat} {m:Str→Option Value},P.Nodup→P[i]? = some x→vs[i]? = some v→kindOf x=some .local→
  bindL kindOf (P.zip vs) m x=some v
 | [],_,_,_,_,h,_,_=>by simp at h
 | _::_,[],_,_,_,_,h,_=>by simp at h
 | p::P,w::vs,0,m,nd,h1,h2,hk=>by
  simp at h1 h2; subst h1; subst h2
  show bindL kindOf ((p,w)::P.zip vs) m p=_
  unfold bindL
  rw [sd fun v hv=>(List.nodup_cons.mp nd).1 (List.of_mem_zip hv).1,if_pos hk]
  simp
 | p::P,w::vs,i+1,m,nd,h1,h2,hk=>by
  show bindL kindOf ((p,w)::P.zip vs) m x=_
  unfold bindL
  exact se (i:=i) (List.nodup_cons.mp nd).2 (by simpa using h1) (by simpa using h2) hk
theorem si {kindOf:Str→Option NameKind} {x:Str} {v:Value}:∀ {P:List Str} {vs:List Value} {i:Nat} {m:Str→Option Value},P.Nodup→P[i]? = some x→vs[i]? = some v→kindOf x≠some .local→
  bindC kindOf (P.zip vs) m x=some v
 | [],_,_,_,_,h,_,_=>by simp at h
 | _::_,[],_,_,_,_,h,_=>by simp at h
 | p::P,w::vs,0,m,nd,h1,h2,hk=>by
  simp at h1 h2; subst h1; subst h2
  show bindC kindOf ((p,w)::P.zip vs) m p=_
  unfold bindC
  rw [sf fun v hv=>(List.nodup_cons.mp nd).1 (List.of_mem_zip hv).1,if_neg hk]
  simp
 | p::P,w::vs,i+1,m,nd,h1,h2,hk=>by
  show bindC kindOf ((p,w)::P.zip vs) m x=_
  unfold bindC
  exact si (i:=i) (List.nodup_cons.mp nd).2 (by simpa using h1) (by simpa using h2) hk
def start (N:List Str) (vs:List V):St:=vs.map some++List.replicate (N.length - vs.length) none
def yb (CX:CXT) (P:Program) (w:World) (K:PySem.W.Frag) (mg:Str→Option Value) (base:Heap) (N:List Str) (qual:Str) (scope:Scope) (f:Addr) (cd:Value) (A:Around) (outer:List Env) (s:Shared) (H:Hp) (E:XK):Cx where
 prog:=P
 w:=w
 K:=K
 mg:=mg
 base:=base
 A:=A.deeper (envOfC qual scope s.heap.objs.size f cd)
 N:=N
 s₀:=s
 H₀:=H
 env:=envOfC qual scope s.heap.objs.size f cd
 outer:=outer
 stack:=envOfC qual scope s.heap.objs.size f cd::outer
 ex:=[]
 calm:=true
 fn:=fun _=>true
 pn:=[]
 xe:=fun e s'=>wpAny (model P w) (A.deeper (envOfC qual scope s.heap.objs.size f cd)) (leaving (envOfC qual scope s.heap.objs.size f cd) e) (fun _ s''=>CX outer H s E e s'') (fun e' s''=>CX outer H s E e' s'') s'
theorem uV {sc:Scope} {n:Nat} {x:Str} (h:sc.names.lookup x=some .cell):∃ c,(cellsFrom n sc.names []).lookup x=some c:=by
 have q:=PySem.W.cellsFrom_some sc.names n [] (.inl h)
 exact Option.isSome_iff_exists.mp q
theorem oW {CX:CXT} {P:Program} {w:World} {K:PySem.W.Frag} {mg:Str→Option Value} {base:Heap} {N ps:List Str} {qual:Str} {scope:Scope} {f:Addr} {cd:Value} {A:Around} {outer:List Env} {s s1:Shared} {H:Hp} {E:XK} {us:List Value} {vs:List V}
  (S:zi N ps scope) (hd:A.handled=none) (e0:Env0 P w K mg base A outer s H) (hl:vs.length=ps.length) (r:Vals vs us)
  (x:InCallC s s.heap.objs.size (bindL (envOfC qual scope s.heap.objs.size f cd).kindOf (ps.zip us) fun _=>none) (cellsFrom (s.heap.objs.size+1) scope.names []) (bindC (envOfC qual scope s.heap.objs.size f cd).kindOf (ps.zip us) fun _=>none) s1):
  Inv (yb CX P w K mg base N qual scope f cd A outer s H E) [] (start N vs) H s1:=by
 have hpl:ps.length≤N.length:=by have:=congrArg List.length S.pre; rw [List.length_take] at this; omega
 obtain ⟨h1,tk,rfl,hk⟩:=x.done
 have noA:∀ b:Addr,b∉(yb CX P w K mg base N qual scope f cd A outer s H E).ex:=fun b z=>absurd (show b∈([]:List Addr) from z) (by simp)
 refine ⟨⟨e0.mod,S.kind,rfl,rfl,Nat.le_refl _,fun y z c h1 h2=>?_,fun y hy=>?_,fun y c _ h=>?_,fun _=>hd,Around.frames_deeper e0.frames,.inr ⟨rfl,rfl⟩,fun b z=>absurd z (noA b),e0.bs,e0.bsz,fun b _ _=>noA b,fun b z=>absurd z (noA b),e0.funs,e0.frf⟩,
  rfl,e0.bare,Un.kept hk,⟨_,x.toInCall.ns,fun i y v h1 h2 h3=>?_⟩,fun y c h=>⟨_,x.cell y c h⟩,e0.hok.fresh (Nat.le_refl _),fun y c h=>?_,fun p hp=>absurd (show p∈([]:List (Addr × Obj)) from hp) (by simp),e0.hok.kept hk,?_⟩
 ·exact name_of_addr x.apart (PySem.mem_of_lookup h1) (PySem.mem_of_lookup h2)
 ·have hy:scope.names.lookup y=some .cell∨scope.names.lookup y=some .free:=hy
  rcases hy with hy | hy
  ·exact uV hy
  ·exact absurd rfl (S.nofree _ (PySem.mem_of_lookup hy))
 ·exact Nat.le_of_lt (x.above y c (PySem.mem_of_lookup h))
 ·have hi:i<vs.length:=by
   unfold start at h2
   by_cases hi:i<vs.length
   ·exact hi
   ·rw [List.getElem?_append_right (by simpa using hi)] at h2
    rw [List.getElem?_replicate] at h2
    split at h2 <;> cases h2
  have ha:vs[i]? = some v:=by
   unfold start at h2
   rw [List.getElem?_append_left (by simpa using hi),List.getElem?_map] at h2
   cases e:vs[i]? with
   | none=>rw [e] at h2; cases h2
   | some a=>rw [e] at h2; cases h2; rfl
  obtain ⟨u,hu,rv⟩:=r.get ha
  have hp:ps[i]? = some y:=by
   rw [← S.pre,List.getElem?_take_of_lt (by omega)]; exact h1
  have ndP:ps.Nodup:=by rw [← S.pre]; exact S.nd.sublist (List.take_sublist _ _)
  refine ⟨u,rv,?_⟩
  rcases S.par y (List.mem_of_getElem? hp) with k | k
  ·exact .inl ⟨k,se ndP hp hu k⟩
  ·obtain ⟨c,e⟩:=uV (n:=s.heap.objs.size+1) k
   refine .inr ⟨.inl k,c,e,?_⟩
   have q:=x.cell y c e
   rw [si ndP hp hu (by show scope.names.lookup y≠_; rw [k]; decide)] at q
   exact q
 ·exact e0.hok.fresh (Nat.le_of_lt (x.above y c (PySem.mem_of_lookup h)))
 ·unfold start
  show _=N.length
  rw [List.length_append,List.length_map,List.length_replicate]
  omega
theorem dW {CX:CXT} {P:Program} {w:World} {K:PySem.W.Frag} {mg:Str→Option Value} {base:Heap} {k:Nat} {f:Addr} {name qual:Str} {params:Arguments} {body:List Stmt} {scope:Scope} {dV kV doc pm cdv ct oc:Value} {an od:Option Addr}
  {osl:Array (Option Value)} {N ps:List Str} {sp:Sp} (lk:K.lookup f=some ⟨oc,od,.func (PySem.W.fnOf name qual params body scope dV kV doc pm an cdv ct),osl⟩) (hcd:PySem.W.codeIn K cdv qual=true) (S:zi N ps scope)
  (len:∀ vs H Q E,sp vs H Q E→vs.length=ps.length)
  (hbody:∀ (A:Around) (outer:List Env) (s:Shared) (H:Hp) (vs:List V) (Q:VK) (E:XK),Room k (A.deeper (envOfC qual scope s.heap.objs.size f cdv))→sp vs H Q E→
   ∃ t,PSs (yb CX P w K mg base N qual scope f cdv A outer s H E) body t∧t { nx:=fun _ H'=>Q .non H',rt:=Q } (start N vs) H):
  FnOk P w K mg base CX (k+1) f (PySem.W.fnOf name qual params body scope dV kV doc pm an cdv ct) ps sp:=by
 refine ⟨len,fun A outer s H args us vs Q E hr e0 hb r hsp=>?_⟩
 have hl:=len _ _ _ _ hsp
 have KX:K.In s.heap:=e0.mod.kin.keeps fun b o e=>(e0.bs b o e).1
 have lim:s.heap.NoLimit:=e0.mod.nolimit.keeps fun b o e=>(e0.bs b o e).1
 have hkind:∀ y∈ps.zip us,scope.names.lookup y.1=some .local∨(scope.names.lookup y.1=some .cell∧((cellsFrom (s.heap.objs.size+1) scope.names []).lookup y.1).isSome=true):=fun ⟨n,v⟩ hy=>by
  rcases S.par n (List.of_mem_zip hy).1 with q | q
  ·exact .inl q
  ·exact .inr ⟨q,PySem.W.cellsFrom_some _ _ _ (.inl q)⟩
 refine codeAny_call_function hr.depth (KX _ _ lk) rfl S.co S.gen rfl (PySem.W.codeRec_of KX hcd) (hb _ _ _ _ ?_)
 refine wpAny_newFunctionEnv_cells S.kind hkind fun env he s1 x=>?_
 subst he
 refine ⟨lim.keeps x.toInCall.keep,codeAny_func ?_⟩
 obtain ⟨t,ht,hq⟩:=hbody A outer s H vs Q E (hr.deeper _) hsp
 have I:Inv (yb CX P w K mg base N qual scope f cdv A outer s H E) [] (start N vs) H s1:=oW S hr.hd e0 hl r x
 refine wpAny_mono (ht [] s1 (start N vs) H _ I hq) (fun fl s' hs=>?_) fun e s' hs=>hs
 have fin:∀ {σ':St} {H':Hp} {v:V} {u:Value},Inv (yb CX P w K mg base N qual scope f cdv A outer s H E) [] σ' H' s'→RelV v u→Q v H'→CE outer P w H s Q u s':=
  fun {σ' H' v u} J rv q=>⟨v,H',J.os,J.bare,J.base,J.hok,rv,q⟩
 cases fl with
 | ret u=>
  obtain ⟨v,σ',H',J,rv,q⟩:=hs
  exact fin J rv q
 | next=>
  obtain ⟨σ',H',J,q⟩:=hs
  exact fin (v:=V.non) (u:=Value.none) J rfl q
 | brk=>
  obtain ⟨_,_,_,q⟩:=hs
  exact False.elim q
 | cont=>
  obtain ⟨_,_,_,q⟩:=hs
  exact False.elim q
end L2
namespace L2
open PySem PySem.Spec PyProof.Rows
section
variable {X:Cx} {x:Str} {p pos:Pos} {e:Expr} {es:List Expr} {t:TA} {id T:String} {r:List V→Hp→VK→Prop}
def tCB (r:List V→Hp→VK→Prop) (t:TA):TE:=fun σ H Q=>t σ H fun vs H1=>r vs H1 Q
theorem yj (hc:CallR X (.builtin id) r) (hg:Gl X x) (hm:X.mg x=none) (hv:bootBuiltins x=some (.builtin id)) (ha:PA X (e::es) t) (hn:x≠"__name__":=by decide) (hdb:(x == ("__debug__":Str))=false:=by decide)
  (he:starEach (e::es) X.env=(false,eval e X.env)::starEach es X.env:=by rfl) (hpl:(backTo pos (starEach es X.env)).any (·.1)=false:=by rfl):PE X (.Call (.Name x p) (e::es) [] pos) (tCB r t):=by
 intro pins s σ H Q I h
 refine wpAny_Call_Name_kw (vp I hg hm hv ?_ hn hdb)
 exact PyProof.Rows.callWith_builtin1 (thn (ha pos pins s σ H _ I h) fun us s1 ⟨vs,H1,I1,r1,q1⟩=>hc pins s1 σ H1 vs us Q I1 r1 q1) he hpl
theorem tQ (hc:CallR X (.type T) r) (hg:Gl X x) (hm:X.mg x=none) (hv:bootBuiltins x=some (.type T)) (ha:PA X (e::es) t) (hn:x≠"__name__":=by decide) (hdb:(x == ("__debug__":Str))=false:=by decide)
  (he:starEach (e::es) X.env=(false,eval e X.env)::starEach es X.env:=by rfl) (hpl:(backTo pos (starEach es X.env)).any (·.1)=false:=by rfl):PE X (.Call (.Name x p) (e::es) [] pos) (tCB r t):=by
 intro pins s σ H Q I h
 refine wpAny_Call_Name_kw (vp I hg hm hv ?_ hn hdb)
 exact PyProof.Rows.callWith_type1 (thn (ha pos pins s σ H _ I h) fun us s1 ⟨vs,H1,I1,r1,q1⟩=>hc pins s1 σ H1 vs us Q I1 r1 q1) he hpl
end
end L2
namespace HT
open PySem PyProof.Rows
section
open PySem.SeqAt
open PySem.AutoSeq1 (wpAny_loadPart')
open PySem.MeetsSeq PySem.MeetsSeq2 PySem.MeetsSeq3
end
section
variable {prog:Program} {w:World} {A:Around} {E:Value→Shared→Prop} {s:Shared}
def sIx (n d:Nat):Option Int→Nat
 | none=>d
 | some v=>if v<0 then (v+(n:Int)).toNat else min v.toNat n
end
end HT
namespace L2
open PySem PySem.Spec PyProof.Rows
abbrev TO:=St→Hp→(Option Int→Hp→Prop)→Prop
def PO (X:Cx) (e:Option Expr) (t:TO):Prop:=
 ∀ (pins:List (Addr × Obj)) (s:Shared) (σ:St) (H:Hp) (Q:Option Int→Hp→Prop),Inv X pins σ H s→t σ H Q→
  wpAny (model X.prog X.w) X.A (evalPart e X.env) (fun u s'=>∃ o H',Inv X pins σ H' s'∧IsPart u o∧Q o H') X.xe s
def Z9 (t:TE):TO:=fun σ H Q=>t σ H fun x H1=>∃ i,x=.int i∧Q (some i) H1
section
variable {X:Cx} {e:Expr} {te:TE} {lo hi:Option Expr} {tl th:TO} {pos p2:Pos}
theorem jG (h:PE X e te):PO X (some e) (Z9 te):=by
 intro pins s σ H Q I hw
 rw [evalPart_some]
 refine thn (h pins s σ H _ I hw) fun u s1 ⟨x,H1,I1,r1,q1⟩=>?_
 obtain ⟨i,rfl,q⟩:=q1
 obtain ⟨t,rfl⟩:=r1
 exact ⟨some i,H1,I1,.int i t,q⟩
def SlR (X:Cx) (r:V→Option Int→Option Int→Hp→VK→Prop):Prop:=
 ∀ (pins:List (Addr × Obj)) (s:Shared) (σ:St) (H:Hp) (x:V) (v vl vu:Value) (lo hi:Option Int) (sl:Addr) (Q:VK),Inv X pins σ H s→RelV x v→s.heap.IsSliceOf sl vl vu .none→IsPart vl lo→IsPart vu hi→r x lo hi H Q→
  ∃ T id,typeLookup (.type T) "__getitem__"=pure (some (.builtin id))∧s.TypeIs v T∧wpAny (model X.prog X.w) X.A (getItem v (.ref sl)) (EP X pins σ Q) X.xe s
theorem SlR.or {r r':V→Option Int→Option Int→Hp→VK→Prop} (h:SlR X r) (h':SlR X r'):SlR X (fun x lo hi H Q=>r x lo hi H Q∨r' x lo hi H Q):=by
 intro pins s σ H x v vl vu lo hi sl Q I rx hs pl pu q
 rcases q with q | q
 ·exact h pins s σ H x v vl vu lo hi sl Q I rx hs pl pu q
 ·exact h' pins s σ H x v vl vu lo hi sl Q I rx hs pl pu q
def tSl (r:V→Option Int→Option Int→Hp→VK→Prop) (te:TE) (tl th:TO):TE:=fun σ H Q=>te σ H fun x H1=>tl σ H1 fun l H2=>th σ H2 fun u H3=>r x l u H3 Q
theorem nD {r:V→Option Int→Option Int→Hp→VK→Prop} (hr:SlR X r) (he:PE X e te) (hl:PO X lo tl) (hu:PO X hi th):PE X (.Subscript e (.Slice lo hi none p2) pos) (tSl r te tl th):=by
 intro pins s σ H Q I h
 refine Subscript_ (thn (he pins s σ H _ I h) fun v s1 ⟨x,H1,I1,r1,q1⟩=>?_)
 refine wpAny_Slice (thn (hl pins s1 σ H1 _ I1 q1) fun vl s2 ⟨l,H2,I2,pl,q2⟩=>thn (hu pins s2 σ H2 _ I2 q2) fun vu s3 ⟨u,H3,I3,pu,q3⟩=>?_)
 rw [evalPart_none]
 refine wpAny_pure ?_
 have I4:Inv X pins σ H3 { s3 with heap:=s3.heap.push { cls:=.type "slice",data:=.fields #[vl,vu,.none] } }:=I3.kept (t':=s3.toks) fun b ob q=>Heap.get?_push_of_some _ q
 obtain ⟨T,id,hT,ht,hg⟩:=hr pins { s3 with heap:=s3.heap.push { cls:=.type "slice",data:=.fields #[vl,vu,.none] } } σ H3 x v vl vu l u s3.heap.objs.size Q I4 r1 (Heap.IsSliceOf.new ..) pl pu q3
 show wpAny (model X.prog X.w) X.A (subscriptTail e (.Slice lo hi none p2) v (.ref s3.heap.objs.size)) (EP X pins σ Q) X.xe { s3 with heap:=s3.heap.push { cls:=.type "slice",data:=.fields #[vl,vu,.none] } }
 exact tail_any (ops:=[.ref s3.heap.objs.size,v]) ht hT hg (by with_unfolding_all rfl)
def qX (xs:List V) (lo hi:Option Int):List V:=(xs.drop (HT.sIx xs.length 0 lo)).take (HT.sIx xs.length xs.length hi - HT.sIx xs.length 0 lo)
theorem rX (xs:List V) (lo hi:Option Int):(qX xs lo hi).length≤xs.length:=by
 unfold qX
 rw [List.length_take,List.length_drop]
 omega
end
end L2
namespace L2
open PySem PySem.Spec PyProof.Rows
def ixN (n:Nat) (i:Int):Option Nat:=if 0≤i then (if i<n then some i.toNat else none) else if -(n:Int)≤i then some (i+n).toNat else none
def atI {α:Type} (xs:List α) (i:Int):Option α:=(ixN xs.length i).bind fun j=>xs[j]?
theorem eG {n:Nat} {i:Int} {j:Nat} (h:ixN n i=some j):seqIndex? i n=some j∧j<n∧-(n:Int)≤i∧i<n:=by
 unfold ixN at h
 by_cases h0:0≤i
 ·rw [if_pos h0] at h
  by_cases h1:i<n
  ·rw [if_pos h1] at h
   have e:i.toNat=j:=Option.some.inj h
   exact ⟨by rw [seqIndex_of h0 h1,e],by omega,by omega,h1⟩
  ·rw [if_neg h1] at h; cases h
 ·rw [if_neg h0] at h
  by_cases h1:-(n:Int)≤i
  ·rw [if_pos h1] at h
   have e:(i+n).toNat=j:=Option.some.inj h
   exact ⟨by rw [seqIndex_neg (by omega) h1,e],by omega,h1,by omega⟩
  ·rw [if_neg h1] at h; cases h
theorem sZ {α:Type} {xs:List α} {i:Int} {v:α} (h:atI xs i=some v):∃ j,seqIndex? i xs.length=some j∧xs[j]? = some v∧j<xs.length∧-(xs.length:Int)≤i∧i<xs.length:=by
 unfold atI at h
 cases e:ixN xs.length i with
 | none=>rw [e] at h; cases h
 | some j=>
  rw [e] at h
  obtain ⟨h1,h2,h3,h4⟩:=eG e
  exact ⟨j,h1,h,h2,h3,h4⟩
theorem uf {α:Type} {xs:List α} {j:Nat} {v:α} (h:xs[j]? = some v):atI xs (j:Int)=some v:=by
 have hj:j<xs.length:=(List.getElem?_eq_some_iff.mp h).1
 have e:ixN xs.length (j:Int)=some j:=by
  unfold ixN
  rw [if_pos (by omega),if_pos (by omega)]; simp
 unfold atI; rw [e]; exact h
def xq (b:Expr):Prop:=∀ o i,subscripted b false o i=operate [o,i] (getItem o i)
def IxR (X:Cx) (r:R2):Prop:=
 ∀ (value slice:Expr) (pins:List (Addr × Obj)) (s:Shared) (σ:St) (H:Hp) (x y:V) (v u:Value) (Q:VK),Inv X pins σ H s→RelV x v→RelV y u→r x y H Q→
  subscripted slice false v u=operate [v,u] (getItem v u)→wpAny (model X.prog X.w) X.A (subscriptTail value slice v u) (EP X pins σ Q) X.xe s
def MtR (X:Cx) (id:String) (r:V→List V→Hp→VK→Prop):Prop:=
 ∀ (pins:List (Addr × Obj)) (s:Shared) (σ:St) (H:Hp) (x:V) (xs:List V) (v:Value) (us:List Value) (Q:VK),Inv X pins σ H s→RelV x v→Vals xs us→r x xs H Q→
  wpAny (model X.prog X.w) X.A (call (.builtin id) (v::us)) (EP X pins σ Q) X.xe s
section
variable {X:Cx} {a b:Expr} {ta tb:TE} {pos:Pos}
theorem IxR.or {r r':R2} (h:IxR X r) (h':IxR X r'):IxR X (fun x y H Q=>r x y H Q∨r' x y H Q):=by
 intro value slice pins s σ H x y v u Q I rx ry q hs
 rcases q with q | q
 ·exact h value slice pins s σ H x y v u Q I rx ry q hs
 ·exact h' value slice pins s σ H x y v u Q I rx ry q hs
theorem MtR.or {id:String} {r r':V→List V→Hp→VK→Prop} (h:MtR X id r) (h':MtR X id r'):MtR X id (fun x xs H Q=>r x xs H Q∨r' x xs H Q):=by
 intro pins s σ H x xs v us Q I rx rs q
 rcases q with q | q
 ·exact h pins s σ H x xs v us Q I rx rs q
 ·exact h' pins s σ H x xs v us Q I rx rs q
theorem wB {r:R2} (hr:IxR X r) (ha:PE X a ta) (hb:PE X b tb) (hs:xq b):PE X (.Subscript a b pos) (tOp r ta tb):=by
 intro pins s σ H Q I h
 exact Subscript_ (Z0 ha hb I h fun v u s2 x y H2 I2 rx ry q=>hr a b pins s2 σ H2 x y v u Q I2 rx ry q (hs _ _))
def Yr (K:PySem.W.Frag):R2:=fun x y H Q=>∃ p xs i v,x=.ref p∧y=.int i∧SqL K H p xs∧atI xs i=some v∧Q v H
def Yp (K:PySem.W.Frag):R2:=fun x y H Q=>∃ p xs i v,x=.ref p∧y=.int i∧SqT K H p xs∧atI xs i=some v∧Q v H
def Yq:R2:=fun x y H Q=>∃ z i c,x=.str z∧y=.int i∧z.length≤sizeLine∧atI z.cps.toList i=some c∧Q (.str ⟨#[c]⟩) H
theorem ix_list:IxR X (Yr X.K):=by
 intro value slice pins s σ H x y v u Q I rx ry h hs
 obtain ⟨p,xs,i,z,rfl,rfl,hq,he,q⟩:=h
 cases rx
 obtain ⟨t,rfl⟩:=ry
 obtain ⟨its,r,pl,hz⟩:=I.list hq
 obtain ⟨j,h1,h2,h3,h4,h5⟩:=sZ he
 obtain ⟨w,ew,rw'⟩:=r.get h2
 have hl:=r.length
 have hn:=uH
 have fin:EP X pins σ Q w s:=⟨z,H,I,rw',q⟩
 by_cases h0:0≤i
 ·have hj:i.toNat=j:=by
   rw [seqIndex_of h0 h5] at h1
   exact Option.some.inj h1
  exact item_listR pl.isList h0 (by omega) (by rw [hj]; simpa using ew) fin hs
 ·have hj:(i+(its.toArray.size:Int)).toNat=j:=by
   rw [seqIndex_neg (by omega) h4] at h1
   rw [List.size_toArray,← hl]
   exact Option.some.inj h1
  exact subscriptTail_builtinR (x:=w) pl.isList.typeIs slot_list_getitem.lookup
   (wpAny_getItem_list_neg (Q:=fun r s'=>r=w∧EP X pins σ Q r s') pl.isList (by omega) (by rw [List.size_toArray] <;> omega) (by omega) (by rw [hj]; simpa using ew) ⟨rfl,fin⟩) hs
theorem ix_tup:IxR X (Yp X.K):=by
 intro value slice pins s σ H x y v u Q I rx ry h hs
 obtain ⟨p,xs,i,z,rfl,rfl,hq,he,q⟩:=h
 cases rx
 obtain ⟨t,rfl⟩:=ry
 obtain ⟨its,r,pl,hz⟩:=I.tuple hq
 obtain ⟨j,h1,h2,h3,h4,h5⟩:=sZ he
 obtain ⟨w,ew,rw'⟩:=r.get h2
 have hl:=r.length
 have hn:=uH
 have fin:EP X pins σ Q w s:=⟨z,H,I,rw',q⟩
 exact subscriptTail_builtinR (x:=w) pl.typeIs slot_tuple_getitem.lookup
  (getItem_tuple (j:=j) (Q:=fun r s'=>r=w∧EP X pins σ Q r s') pl (by omega) (by omega) (by rw [List.size_toArray,← hl]; exact h1) (by simpa using ew) ⟨rfl,fin⟩) hs
theorem Zv:IxR X Yq:=by
 intro value slice pins s σ H x y v u Q I rx ry h hs
 obtain ⟨z,i,c,rfl,rfl,hz,he,q⟩:=h
 obtain ⟨t,rfl⟩:=rx
 obtain ⟨t',rfl⟩:=ry
 obtain ⟨j,h1,h2,h3,h4,h5⟩:=sZ he
 have hl:z.cps.toList.length=z.length:=by simp [Str.length]
 rw [hl] at h1 h4 h5
 have hn:=uH
 exact tail_any (typeIs_str s z t) slot_str_getitem.lookup (getItem_str (c:=c) (by
  have e1:decide (i < -(2 ^ 63:Int))=false:=decide_eq_false (by omega)
  have e2:decide (i ≥ 2 ^ 63)=false:=decide_eq_false (by omega)
  rw [e1,e2,Bool.or_false]) (by rw [h1]; simpa using h2) ⟨.str ⟨#[c]⟩,H,I.tok _,⟨_,rfl⟩,q⟩) hs
def rIx (K:PySem.W.Frag):R2:=fun x y H Q=>Yr K x y H Q∨Yp K x y H Q∨Yq x y H Q
theorem kg:IxR X (rIx X.K):=ix_list.or (ix_tup.or Zv)
theorem Inv.lst {pins:List (Addr × Obj)} {σ:St} {H:Hp} {s:Shared} {p:Addr} {xs:List V} (I:Inv X pins σ H s) (h:H p=some (.lst xs)):
  ∃ (its:List Value) (n:Nat),Vals xs its∧s.heap.get? p=some { cls:=.type "list",data:=.seq its.toArray n }∧xs.length≤sizeLine:=by
 obtain ⟨z,its,n,r,e⟩:=I.hok p _ h
 exact ⟨its,n,r,e,z⟩
theorem su (lo hi:Option Int) (n:Nat):(sliceBounds lo hi none n).1=((HT.sIx n 0 lo:Nat):Int)∧(sliceBounds lo hi none n).2.1=((HT.sIx n n hi:Nat):Int)∧(sliceBounds lo hi none n).2.2=1:=by
 refine ⟨?_,?_,rfl⟩
 ·cases lo with
  | none=>simp [sliceBounds,HT.sIx]
  | some i=>
   simp only [sliceBounds,HT.sIx,Option.getD_none,show (1:Int)>0 by decide,if_true]
   by_cases h:i<0
   ·simp only [h,if_true] <;> omega
   ·simp only [h,if_false] <;> omega
 ·cases hi with
  | none=>simp [sliceBounds,HT.sIx]
  | some i=>
   simp only [sliceBounds,HT.sIx,Option.getD_none,show (1:Int)>0 by decide,if_true]
   by_cases h:i<0
   ·simp only [h,if_true] <;> omega
   ·simp only [h,if_false] <;> omega
theorem uX (its:List Value) (lo hi:Option Int):slicePick its.toArray lo hi none=((its.drop (HT.sIx its.length 0 lo)).take (HT.sIx its.length its.length hi - HT.sIx its.length 0 lo)).toArray:=by
 obtain ⟨h1,h2,h3⟩:=su lo hi its.toArray.size
 unfold slicePick
 rw [h1,h2,h3]
 simp only [sliceRange_one,pick_run,List.size_toArray] <;> rfl
def Wp (K:PySem.W.Frag):V→Option Int→Option Int→Hp→VK→Prop:=fun x lo hi H Q=>∃ a xs,x=.ref a∧SqL K H a xs∧∀ p,H p=none→Q (.ref p) (upd H p (.lst (qX xs lo hi)))
theorem jy:SlR X (Wp X.K):=by
 intro pins s σ H x v vl vu lo hi sl Q I rx hs pl pu h
 obtain ⟨a,xs,rfl,hx,q⟩:=h
 cases rx
 obtain ⟨its,r,ht,hz⟩:=I.list hx
 have hlen:=r.length
 refine ⟨"list",_,slot_list_getitem.lookup,ht.isList.typeIs,?_⟩
 refine wpAny_getItem_list_slice ht.isList hs pl pu .none (by simp) ?_ (by rw [List.size_toArray] <;> omega)
 rw [uX,← hlen]
 refine ⟨.ref s.heap.objs.size,_,I.laid (t':=s.toks) (o:=.lst (qX xs lo hi)) (fun b ob q=>Heap.get?_push_of_some _ q) (Nat.le_refl _) ?_,rfl,q _ (I.hok.fresh (Nat.le_refl _))⟩
 exact ⟨Nat.le_trans (rX xs lo hi) hz,_,0,(r.drop (HT.sIx xs.length 0 lo)).take (HT.sIx xs.length xs.length hi - HT.sIx xs.length 0 lo),Heap.get?_push_size _ rfl⟩
def pK:V→Bool
 | .non=>true
 | .bl _=>true
 | .int _=>true
 | .str _=>true
 | _=>false
def eqV:V→V→Bool
 | .non,.non=>true
 | .bl a,.bl b=>a == b
 | .bl a,.int b=>(if a then 1 else 0) == b
 | .int a,.bl b=>a == (if b then 1 else 0)
 | .int a,.int b=>a == b
 | .str a,.str b=>a == b
 | _,_=>false
theorem ky {A:Around} {s:Shared} {y x:V} {u v:Value} (ry:RelV y u) (rx:RelV x v) (fy:pK y=true) (fx:pK x=true):SeqAt.EqAt A s u v (eqV y x):=by
 cases y with
 | non=>
  cases ry
  cases x with
  | non=>cases rx; exact SeqAt.EqAt.same _
  | bl b=>cases rx; exact SeqAt.EqAt.none_bool b
  | int b=>obtain ⟨t,rfl⟩:=rx; exact SeqAt.EqAt.none_int b t
  | str b=>obtain ⟨t,rfl⟩:=rx; exact SeqAt.EqAt.none_str b t
  | _=>exact absurd (show false=true from fx) Bool.false_ne_true
 | bl a=>
  cases ry
  cases x with
  | non=>cases rx; exact SeqAt.EqAt.bool_none a
  | bl b=>cases rx; exact SeqAt.EqAt.bool_bool a b
  | int b=>obtain ⟨t,rfl⟩:=rx; exact SeqAt.EqAt.bool_int a b t
  | str b=>obtain ⟨t,rfl⟩:=rx; exact SeqAt.EqAt.bool_str a b t
  | _=>exact absurd (show false=true from fx) Bool.false_ne_true
 | int a=>
  obtain ⟨t',rfl⟩:=ry
  cases x with
  | non=>cases rx; exact SeqAt.EqAt.int_none a t'
  | bl b=>cases rx; exact SeqAt.EqAt.int_bool a t' b
  | int b=>obtain ⟨t,rfl⟩:=rx; exact SeqAt.EqAt.int_int a t' b t
  | str b=>obtain ⟨t,rfl⟩:=rx; exact SeqAt.EqAt.int_str a t' b t
  | _=>exact absurd (show false=true from fx) Bool.false_ne_true
 | str a=>
  obtain ⟨t',rfl⟩:=ry
  cases x with
  | non=>cases rx; exact SeqAt.EqAt.str_none a t'
  | bl b=>cases rx; exact SeqAt.EqAt.str_bool a t' b
  | int b=>obtain ⟨t,rfl⟩:=rx; exact SeqAt.EqAt.str_int a t' b t
  | str b=>obtain ⟨t,rfl⟩:=rx; exact SeqAt.EqAt.str_str a t' b t
  | _=>exact absurd (show false=true from fx) Bool.false_ne_true
 | _=>exact absurd (show false=true from fy) Bool.false_ne_true
theorem wW:CallR X (.builtin "len") (fun xs H Q=>∃ p ys,xs=[.ref p]∧(SqL X.K H p ys∨SqT X.K H p ys)∧Q (.int ys.length) H):=by
 intro pins s σ H xs us Q I r h
 obtain ⟨p,ys,rfl,hq,q⟩:=h
 obtain ⟨u,rfl,rx⟩:=dJ r
 cases rx
 have hn:=uH
 rcases hq with hq | hq
 ·obtain ⟨its,r',pl,hz⟩:=I.list hq
  have hlen:=r'.length
  exact Calls.call_len_list pl.isList (by simp only [List.size_toArray] <;> omega) ⟨.int ys.length,H,I.tok _,⟨s.toks + 1,by rw [List.size_toArray,hlen]⟩,q⟩
 ·obtain ⟨its,r',pl,hz⟩:=I.tuple hq
  have hlen:=r'.length
  exact len_tuple pl (by simp only [List.size_toArray] <;> omega) ⟨.int ys.length,H,I.tok _,⟨s.toks + 1,by rw [List.size_toArray,hlen]⟩,q⟩
theorem CallR.or {f:Value} {r r':List V→Hp→VK→Prop} (h:CallR X f r) (h':CallR X f r'):CallR X f (fun xs H Q=>r xs H Q∨r' xs H Q):=by
 intro pins s σ H xs us Q I rs q
 rcases q with q | q
 ·exact h pins s σ H xs us Q I rs q
 ·exact h' pins s σ H xs us Q I rs q
theorem wV:CallR X (.type "list") (fun xs H Q=>∃ p ys,xs=[.ref p]∧(SqL X.K H p ys∨SqT X.K H p ys)∧∀ l,H l=none→Q (.ref l) (upd H l (.lst ys))):=by
 intro pins s σ H xs us Q I r h
 obtain ⟨p,ys,rfl,hq,q⟩:=h
 obtain ⟨u,rfl,rx⟩:=dJ r
 cases rx
 have fin:∀ (its:List Value),Vals ys its→ys.length≤sizeLine→∀ (h':Heap) (c':Nat),(∀ b o',s.heap.get? b=some o'→h'.get? b=some o')→
   h'.get? s.heap.objs.size=some { cls:=.type "list",dict:=none,data:=.seq its.toArray c',slots:=#[] }→EP X pins σ Q (.ref s.heap.objs.size) { s with heap:=h' }:=fun its r' hz h' c' kp e=>
  ⟨.ref s.heap.objs.size,_,I.laid (t':=s.toks) kp (Nat.le_refl _) (show ObjOk X.prog X.w _ h' _ (.lst ys) from ⟨hz,its,c',r',e⟩),rfl,q _ (I.hok.fresh (Nat.le_refl _))⟩
 rcases hq with hq | hq
 ·obtain ⟨its,r',pl,hz⟩:=I.list hq
  have hlen:=r'.length
  obtain ⟨o,ho,hc,n,hd⟩:=pl.isList
  exact call_list_seq p (.inl rfl) ho hc hd (fun h' c' kp e=>fin its r' hz h' c' kp e) (by simp only [List.size_toArray] <;> omega)
 ·obtain ⟨its,r',pl,hz⟩:=I.tuple hq
  have hlen:=r'.length
  obtain ⟨o,ho,hc,n,hd⟩:=pl
  exact call_list_seq p (.inr rfl) ho hc hd (fun h' c' kp e=>fin its r' hz h' c' kp e) (by simp only [List.size_toArray] <;> omega)
def tyV (K:PySem.W.Frag) (T:String) (x:V) (H:Hp):Prop:=match x with
 | .str _=>T="str"
 | .int _=>T="int"
 | .ref p=>(T="list"∧∃ xs,SqL K H p xs)∨(T="tuple"∧∃ o,K.lookup p=some o∧o.cls=.type "tuple"∧o.dict=none)∨
   (T="dict"∧((∃ kvs,H p=some (.dK kvs))∨∃ kvs,H p=some (.dT kvs)))∨(T="set"∧∃ S n,H p=some (.set S n))
 | _=>False
theorem cf {pins:List (Addr × Obj)} {σ:St} {H:Hp} {s:Shared} {T:String} {x:V} {v:Value} (I:Inv X pins σ H s) (r:RelV x v) (ty:tyV X.K T x H):
  s.TypeIs v T∧∀ a,v=.ref a→∃ ob,s.heap.get? a=some ob∧ob.dict=none:=by
 cases x with
 | str z=>
  obtain ⟨t,rfl⟩:=r
  cases (show T="str" from ty)
  exact ⟨typeIs_str s z t,fun _ e=>nomatch e⟩
 | int i=>
  obtain ⟨t,rfl⟩:=r
  cases (show T="int" from ty)
  exact ⟨typeIs_int s i t,fun _ e=>nomatch e⟩
 | ref p=>
  cases r
  rcases ty with ⟨rfl,xs,hq⟩ | ⟨rfl,o,hk,hc,hd⟩ | ⟨rfl,hk⟩ | ⟨rfl,S,n,hk⟩
  ·obtain ⟨its,_,pl,_⟩:=I.list hq
   refine ⟨pl.isList.typeIs,fun a e=>?_⟩
   cases e
   obtain ⟨o,n,e,c,hd,_⟩:=pl
   exact ⟨o,e,hd⟩
  ·refine ⟨⟨o,I.kIn p o hk,hc⟩,fun a e=>?_⟩
   cases e
   exact ⟨o,I.kIn _ o hk,hd⟩
  ·have z:∃ o,s.heap.get? p=some o∧o.ExactDict:=by
    rcases hk with ⟨kvs,hk⟩ | ⟨kvs,hk⟩
    ·obtain ⟨_,_,_,_,o,_,_,e,ex,_⟩:=I.hok p _ hk
     exact ⟨o,e,ex⟩
    ·obtain ⟨_,_,_,_,o,_,_,e,ex,_⟩:=I.hok p _ hk
     exact ⟨o,e,ex⟩
   obtain ⟨o,e,ex⟩:=z
   refine ⟨⟨o,e,ex.1⟩,fun a e2=>?_⟩
   cases e2
   exact ⟨o,e,ex.2.1⟩
  ·obtain ⟨o,_,_,_,e,ex,_⟩:=I.hok p _ hk
   refine ⟨⟨o,e,ex.1⟩,fun a e2=>?_⟩
   cases e2
   exact ⟨o,e,ex.2.1⟩
 | _=>exact False.elim ty
def tBM (K:PySem.W.Frag) (T:String) (r:V→List V→Hp→VK→Prop) (to:TE) (t:TA):TE:=fun σ H Q=>to σ H fun x H1=>tyV K T x H1∧t σ H1 fun xs H2=>r x xs H2 Q
variable {o e:Expr} {es:List Expr} {to:TE} {t:TA} {name:Str} {apos cpos:Pos} {T id:String} {r:V→List V→Hp→VK→Prop}
theorem pB (pa:PlainAttrs T) (slot:Slot T name id) (hty:typeOf (.builtin id)=pure (.type "method_descriptor")) (hm:MtR X id r) (ho:PE X o to) (ha:PA X (e::es) t)
  (hbase:attributeBase o name X.env (eval o X.env)=eval o X.env:=by rfl)
  (hfew:((backTo cpos (starEach (e::es) X.env)).all (fun x=>!x.1) && (backToKw cpos (keywordEach [] X.env)).all (fun x=>x.1.isSome)
   && decide ((e::es).length+([]:List Keyword).length+(if ([]:List Keyword).isEmpty then 0 else 1)<30))=true:=by rfl)
  (hline:(apos.endLine == cpos.line)=true:=by rfl) (hs:starEach (e::es) X.env=(false,eval e X.env)::starEach es X.env:=by rfl) (hplain:(backTo cpos (starEach es X.env)).any (·.1)=false:=by rfl):
  PE X (.Call (.Attribute o name apos) (e::es) [] cpos) (tBM X.K T r to t):=by
 intro pins s σ H Q I h
 refine wpAny_Call_method_late hbase hfew hline rfl (thn (ho pins s σ H _ I h) fun v s1 ⟨x,H1,I1,r1,ty,q1⟩=>?_)
 obtain ⟨h1,h2⟩:=cf I1 r1 ty
 refine ⟨T,id,pa,slot,hty,h1,h2,?_⟩
 have hA:=ha cpos pins s1 σ H1 _ I1 q1
 rw [hs] at hA ⊢
 refine Calls.callWith_builtin (by show (false || (backTo cpos (starEach es X.env)).any (·.1))=false; rw [hplain] <;> rfl) (Calls.evalArgs_plain ?_)
 exact thn hA fun us s2 ⟨vs,H2,I2,r2,q2⟩=>hm pins s2 σ H2 x vs v us Q I2 r1 r2 q2
end
end L2
namespace L2
open PySem PySem.Spec PyProof.Rows
def MtM (X:Cx) (id:String) (r:V→List V→Hp→VK→Prop):Prop:=
 ∀ (pins:List (Addr × Obj)) (s:Shared) (σ:St) (H:Hp) (x:V) (xs:List V) (v:Value) (us:List Value) (Q:VK),Inv X pins σ H s→RelV x v→Vals xs us→r x xs H Q→
  wpAny (model X.prog X.w) X.A (call (.builtin id) (v::us)) (EP X pins σ Q) X.xe s
theorem Vals.one:∀ {x:V} {us:List Value},Vals [x] us→∃ u,us=[u]∧RelV x u
 | _,_,.cons r .nil=>⟨_,rfl,r⟩
theorem Vals.two:∀ {x y:V} {us:List Value},Vals [x,y] us→∃ u v,us=[u,v]∧RelV x u∧RelV y v
 | _,_,_,.cons r (.cons q .nil)=>⟨_,_,rfl,r,q⟩
theorem Vals.zero:∀ {us:List Value},Vals [] us→us=[]
 | _,.nil=>rfl
section
variable {X:Cx} {pins:List (Addr × Obj)} {σ:St} {H:Hp} {s:Shared} {l b:Addr} {xs ys zs:List V}
theorem Inv.lset {its its':List Value} {n:Nat} {f:Array Value→Array Value} {t':Nat} (I:Inv X pins σ H s) (hH:H l=some (.lst xs))
  (e:s.heap.get? l=some { cls:=.type "list",data:=.seq its.toArray n }) (hf:f its.toArray=its'.toArray) (hv:Vals ys its') (hz:ys.length≤sizeLine):
  Inv X pins σ (upd H l (.lst ys)) { s with heap:=s.heap.update l (Obj.mapSeq f),toks:=t' }:=by
 have q:=PySem.IsL.update e f
 rw [hf] at q
 refine I.write (x:=l) (e:=l) (by rw [hH]; exact trivial) (.inl rfl) (fun b' u hb hu=>(Heap.get?_update_other s.heap (Obj.mapSeq f) (Ne.symm hb)).trans hu) ⟨_,q⟩ ?_
 exact ⟨hz,its',_,hv,q⟩
theorem Inv.lnew {its:List Value} {t':Nat} (I:Inv X pins σ H s) (hv:Vals ys its) (hz:ys.length≤sizeLine):
  Inv X pins σ (upd H s.heap.objs.size (.lst ys)) { s with heap:=s.heap.push { cls:=.type "list",data:=.seq its.toArray },toks:=t' }:=
 I.laid (fun _ _ q=>Heap.get?_push_of_some _ q) (Nat.le_refl _) ⟨hz,its,0,hv,Heap.get?_push_size _ rfl⟩
theorem Inv.fresh (I:Inv X pins σ H s):H s.heap.objs.size=none:=I.hok.fresh (Nat.le_refl _)
theorem Inv.lstM (I:Inv X pins σ H s) (hH:H l=some (.lst xs)):xs.length≤sizeLine∧∃ (its:List Value) (n:Nat),Vals xs its∧xs.length=its.length∧s.heap.get? l=some { cls:=.type "list",data:=.seq its.toArray n }:=by
 obtain ⟨z,its,n,r,e⟩:=I.hok l _ hH
 exact ⟨z,its,n,r,r.length,e⟩
theorem lT {n:Nat} (h:n≤sizeLine):Builtin.List.listTooLong n=false:=by
 unfold Builtin.List.listTooLong
 exact decide_eq_false (by omega)
end
section
variable {X:Cx}
def jD:V→List V→Hp→VK→Prop:=fun x vs H Q=>∃ l xs y,x=.ref l∧vs=[y]∧H l=some (.lst xs)∧xs.length<sizeLine∧Q .non (upd H l (.lst (xs++[y])))
theorem xR:MtM X "list.append" jD:=by
 intro pins s σ H x vs v us Q I rx rv h
 obtain ⟨l,xs,y,rfl,rfl,hH,hz,q⟩:=h
 cases rx
 obtain ⟨u,rfl,ru⟩:=rv.one
 obtain ⟨z,its,n,r,hl,e⟩:=I.lstM hH
 refine call_meets F.slot_list_append ⟨_,e,rfl⟩ F.entry_list_append (F.args_list_append_2 _ _) (PySem.list_append l its.toArray n u (by rw [List.size_toArray]; omega)) ⟨e,?_⟩
 refine ⟨.non,_,I.lset (its':=its++[u]) hH e (by simp) (r.append (.cons ru .nil)) ?_,rfl,q⟩
 rw [List.length_append,List.length_singleton]
 omega
def jC:V→List V→Hp→VK→Prop:=fun x vs H Q=>∃ l b xs zs,x=.ref l∧vs=[.ref b]∧H l=some (.lst xs)∧H b=some (.lst zs)∧xs.length+zs.length≤sizeLine∧Q .non (upd H l (.lst (xs++zs)))
theorem Z6:MtM X "list.extend" jC:=by
 intro pins s σ H x vs v us Q I rx rv h
 obtain ⟨l,b,xs,zs,rfl,rfl,hH,hB,hz,q⟩:=h
 cases rx
 obtain ⟨u,rfl,ru⟩:=rv.one
 cases ru
 obtain ⟨z,its,n,r,hl,e⟩:=I.lstM hH
 obtain ⟨z2,its2,n2,r2,hl2,e2⟩:=I.lstM hB
 have hsz:its.toArray.size+its2.toArray.size≤sizeLine:=by rw [List.size_toArray,List.size_toArray]; omega
 have hlong:¬ (!its.toArray.isEmpty && Builtin.List.listTooLong (its.toArray.size+its2.toArray.size))=true:=by
  rw [lT hsz,Bool.and_false]
  exact Bool.false_ne_true
 refine call_meets F.slot_list_extend ⟨_,e,rfl⟩ F.entry_list_extend (F.args_list_extend_2 _ _)
  (AutoSeq1.list_extend_list_list_0 l its.toArray n b its2.toArray n2 hlong (by rw [List.size_toArray]; omega) (by omega)) ⟨e,e2,?_⟩
 refine ⟨.non,_,I.lset (its':=its++its2) hH e (by simp) (r.append r2) ?_,rfl,q⟩
 rw [List.length_append]
 omega
def Wq:R2:=fun x y H Q=>∃ l b xs zs,x=.ref l∧y=.ref b∧H l=some (.lst xs)∧H b=some (.lst zs)∧xs.length+zs.length≤sizeLine∧∀ p,H p=none→Q (.ref p) (upd H p (.lst (xs++zs)))
theorem cN:OpR X (binaryOp .Add) Wq:=by
 intro pins s σ H x y v u Q I rx ry h
 obtain ⟨l,b,xs,zs,rfl,rfl,hH,hB,hz,q⟩:=h
 cases rx
 cases ry
 obtain ⟨z,its,n,r,hl,e⟩:=I.lstM hH
 obtain ⟨z2,its2,n2,r2,hl2,e2⟩:=I.lstM hB
 refine PySem.P.add_list e e2 ?_ (by rw [List.size_toArray,List.size_toArray]; omega)
 have ea:its.toArray++its2.toArray=(its++its2).toArray:=by simp
 rw [ea]
 exact ⟨.ref _,_,I.lnew (t':=s.toks) (r.append r2) (by rw [List.length_append]; omega),rfl,q _ I.fresh⟩
end
section
variable {prog:Program} {w:World} {A:Around} {E:Value→Shared→Prop} {s:Shared}
set_option maxRecDepth 100000 in
end
section
variable {X:Cx}
end
end L2
namespace Att
open PySem PySem.W PySem.Calls PyProof.Rows
theorem vY {P:Params} {h:Heap}:∀ (ns:List Int) (vs:List Value),WellAll P h vs (ns.map WData.int)→IntsAre vs ns:=by
 intro ns
 induction ns with
 | nil=>
  intro vs w
  rw [List.map_nil] at w
  cases w
  exact .nil
 | cons n ns ih=>
  intro vs w
  rw [List.map_cons] at w
  cases w with
  | cons a b=>
   cases a
   exact .cons _ _ (ih _ b)
theorem oq {l:OpenLaw} {n:Nat} (hn:l.most=some n) {P:Params} {h:Heap} {args:List WData} {vals:List Value}
  (hpre:l.row.toRowW.claim.pre args=true) (hwl:WellAll P h vals args):
  ∃ a vs ns,vals=[Value.ref a]∧args=[WData.list (ns.map WData.int)]∧h.get? a=some { cls:=.type "list",data:=.seq vs.toArray }∧IntsAre vs ns∧ns.length≤n:=by
 have hsh:WShape.hasAll [] args [.list .int]=true:=(pre_splitW hpre).1
 have hc:l.pre.holds [] { args:=args }=true:=(pre_splitW hpre).2
 obtain ⟨d,r,rfl,h1,h2⟩:=hasAllW_cons hsh
 obtain rfl:=hasAllW_nil h2
 obtain ⟨xs,rfl,h3⟩:=hasW_list h1
 obtain ⟨ns,rfl⟩:=items_int h3
 have hlen:ns.length≤n:=by
  unfold OpenLaw.pre at hc
  have h4:(WTm.not (.lt (.lit (.int (n:Int))) (.len (.arg 0)))).holds [] { args:=[.list (ns.map .int)] }=true:=by
   have h4:=(holds_andW hc).1
   rw [hn] at h4
   exact h4
  have h5:=condW_of h4 (w_not (w_lt w_lit (w_len_list (w_arg rfl))))
  rw [List.length_map] at h5
  refine Nat.le_of_not_lt fun q=>?_
  have q':(n:Int)<((ns.length:Nat):Int):=by omega
  first
   | (rw [decide_eq_true q'] at h5; exact absurd h5 (by decide))
   | (simp at h5; omega)
 cases hwl with
 | cons w1 w2=>
  cases w2
  cases w1 with
  | list ho hall=>exact ⟨_,_,ns,rfl,rfl,ho,vY ns _ hall,hlen⟩
theorem ou (l:OpenLaw) (args:List WData):l.row.toRowW.claim.post args (.bool true) args=true:=
 postW_of (r:=l.row.toRowW) (X:=(true == true))
  (show WShape.has [] (.bool true) .bool=true by first | rfl | decide | simp [WShape.has,WShape.arms,WShape.armsAll])
  (show (WTm.eq .res (.lit (.bool true))).value [] { args:=args,res:=some (.bool true),after:=args }=some (.bool (true == true)) from w_eq_bool (w_res rfl) w_lit) rfl
theorem attach_call {l:OpenLaw} {n:Nat} {q:Program} {loose:List Str} {XP:(Str→Option Value)→Heap→Prop} {YP:World→Heap→Prop} {d:DefRec}
  (hn:l.most=some n) (hdf:d.params.defaults=[])
  (call:∀ (w:World) (s₀ s₁:Shared) (mg mb:Str→Option Value) (fa:Addr) (o:Obj) (pm cd doc:Value) (a:Addr) (vs:List Value) (ns:List Int),
   Ground q loose [] XP w s₀ mg mb s₁.heap→YP w s₁.heap→
   s₁.heap.get? fa=some o→o.data=.func (docDef d.name d.params d.body d.scope pm cd doc)→s₁.heap.CodeRec cd d.name→mg d.name=some (.ref fa)→
   s₁.heap.get? a=some { cls:=.type "list",data:=.seq vs.toArray }→IntsAre vs ns→ns.length≤n→s₁.gens=#[]→
   codeAny (model l.prog w) callerA (.call (.ref fa) ⟨[.ref a],[]⟩) (fun r s'=>r=.ok (.ret (.bool true))∧OldK s₁.heap s'.heap∧s'.os=s₁.os∧AllBare s'.gens) s₁):
  WalkO q loose XP YP l.row.toRowW d [] (fun f vs=>PySem.call f vs):=by
 intro w s₀ s₁ mg mb G Y fa o pm cd doc dV kV ho hd hcd hD hmg hg args vals as hpre hlay hrd hwl hlo
 obtain rfl:dV=.none:=Dflts.none hD hdf
 obtain rfl:kV=.none:=Dflts.noKw hD
 obtain ⟨a,vs,ns,rfl,rfl,hobj,hints,hlen⟩:=oq hn hpre hwl
 refine enter_call (codeAny_mono (call w s₀ s₁ mg mb fa o pm cd doc a vs ns G Y ho (fd_plain hd) hcd hmg hobj hints hlen hg) fun r s' hq=>?_)
 obtain ⟨rfl,h2,h3,h4⟩:=hq
 exact ⟨.inl ⟨.bool true,.bool true,[],rfl,fun _=>rfl,.bool true,ou l _,fun _=>⟨List.Pairwise.nil,fun _ hm=>(nomatch hm)⟩⟩,h2,h3,h4⟩
section
variable {prog:Program} {w:World} {A:Around} {E:Value→Shared→Prop} {s:Shared} {K:Frag}
def WC (h:Heap) (L d:Addr):List (Addr × Obj):=(List.range h.objs.size).filterMap fun a=>if a=L∨a=d then none else (h.get? a).map fun o=>(a,o)
end
end Att
namespace L2
open PySem PySem.Spec PyProof.Rows
theorem tN:∀ {vs:List Value} {ns:List Int},IntsAre vs ns→Vals (ns.map V.int) vs
 | _,_,.nil=>.nil
 | _,_,.cons n t h=>.cons ⟨t,rfl⟩ (tN h)
def Z3 (H:Hp):Prop:=∀ b,H b=none∨∃ o xs,H b=some (.frz o (.lst xs))
theorem l7 {P:Program} {w:World} {K:PySem.W.Frag} {mg mb:Str→Option Value} {CX:CXT} {k:Nat} {fa a:Addr} {fd:FuncData} {x:Str} {sp:Sp} {s₁:Shared} {vs:List Value} {ns:List Int}
  (KX:K.In s₁.heap) (hns:s₁.heap.Ns mainGlobals mg) (hb:s₁.heap.Ns builtinsNs mb) (hbb:∀ x:Str,x≠"__name__"→mb x=bootBuiltins x) (hlim:s₁.heap.NoLimit) (hg:s₁.gens=#[])
  (ha:s₁.heap.get? a=some { cls:=.type "list",data:=.seq vs.toArray }) (hi:IntsAre vs ns) (hl:ns.length≤sizeLine) (hr:Room k callerA)
  (F:∀ base:Heap,K.In base→base.Ns mainGlobals mg→FnOk P w K mg base CX k fa fd [x] sp) (hbind:∀ (s:Shared) (u:Value),BindsTo s fd ⟨[u],[]⟩ [(x,u)])
  (hsp:∀ H:Hp,Z3 H→SqL K H a (ns.map V.int)→sp [.ref a] H (fun v _=>v=.bl true) fun _ _ _=>False)
  (hCX:∀ H e s',CX [] H s₁ (fun _ _ _=>False) e s'→False):
  codeAny (model P w) callerA (.call (.ref fa) ⟨[.ref a],[]⟩) (fun r s'=>r=.ok (.ret (.bool true))∧OldK s₁.heap s'.heap∧s'.os=s₁.os∧AllBare s'.gens) s₁:=by
 have rv:=tN hi
 have lenV:=hi.length
 have core:∀ H:Hp,Z3 H→SqL K H a (ns.map V.int)→HOk P w H s₁.heap→(∀ b,H b≠none→b=a)→(H a≠none→K.lookup a=none)→
   codeAny (model P w) callerA (.call (.ref fa) ⟨[.ref a],[]⟩) (fun r s'=>r=.ok (.ret (.bool true))∧OldK s₁.heap s'.heap∧s'.os=s₁.os∧AllBare s'.gens) s₁:=by
  intro H hO hS hok hA hK
  have base_of:∀ {b:Addr} {o:Obj},s₁.heap.get? b=some o→H b=none→(sP s₁.heap H).get? b=some o:=fun e n=>kh e n
  have noA:∀ {b:Addr} {o:Obj} {es:Array DictEntry} {ep:Nat},s₁.heap.get? b=some o→o.data=.dict es ep→H b=none:=fun {b o es ep} e d=>by
   cases q:H b with
   | none=>rfl
   | some u=>
    have e':b=a:=hA b (by rw [q]; simp)
    subst e'
    rw [ha] at e; cases e
    have d':Data.seq vs.toArray _=Data.dict es ep:=d
    cases d'
  have nsK:∀ {b:Addr} {m:Str→Option Value},s₁.heap.Ns b m→(sP s₁.heap H).Ns b m:=fun {b m} ⟨o,es,ep,e,d,r⟩=>⟨o,es,ep,base_of e (noA e d),d,r⟩
  have hKb:K.In (sP s₁.heap H):=fun b o e=>base_of (KX b o e) (by
   cases q:H b with
   | none=>rfl
   | some u=>
    have e':b=a:=hA b (by rw [q]; simp)
    subst e'
    rw [hK (by rw [q]; simp)] at e; cases e)
  have hM:Mod K mg (sP s₁.heap H):=⟨hKb,nsK hns,⟨mb,nsK hb,hbb⟩,let ⟨mc,h1,h2⟩:=hlim; ⟨mc,nsK h1,h2⟩⟩
  have e0:Env0 P w K mg (sP s₁.heap H) callerA [] s₁ H:=⟨rfl,hM,fun b o e=>jQ e,Nat.le_of_eq (oZ _ _),trivial,fun b hb=>absurd (show b∈([]:List Addr) from hb) (by simp),hok,.of_eq hg⟩
  refine codeAny_mono ((F _ hKb (nsK hns)).run callerA [] s₁ H ⟨[.ref a],[]⟩ [.ref a] [.ref a] _ _ hr e0 (hbind s₁ (.ref a)) (.cons rfl .nil) (hsp H hO hS)) fun r s' h=>?_
  cases r with
  | error e=>exact (hCX H e s' h).elim
  | ok fl=>
   cases fl with
   | next=>exact False.elim h
   | brk=>exact False.elim h
   | cont=>exact False.elim h
   | ret u=>
    obtain ⟨v,H',os,bare,un,hok',r',q⟩:=h
    have q':v=.bl true:=q
    subst q'
    obtain rfl:u=Value.bool true:=r'
    refine ⟨rfl,OldK.of_keep fun b o e=>?_,os,bare⟩
    cases q:H b with
    | none=>exact un.keep b o e q (by intro z; exact absurd (show b∈([]:List Addr) from z) (by simp)) (by simp)
    | some u=>
     rcases hO b with z | ⟨ob,xs,z⟩
     ·rw [q] at z; cases z
     ·have z2:=un.frzs b ob _ z
      obtain ⟨e1,_⟩:=hok b _ z
      obtain ⟨e2,_⟩:=hok' b _ z2
      rw [e] at e1; cases e1
      exact e2
 cases hk:K.lookup a with
 | some o=>
  have e:=KX a o hk
  rw [ha] at e
  cases e
  refine core (fun _=>none) (fun _=>.inl rfl) (.inr ⟨_,vs.toArray,_,hk,rfl,rfl,rfl,by rw [List.size_toArray,lenV]; exact hl,by simpa using rv⟩) (fun b u z=>by have z':(none:Option HO)=some u:=z; cases z') (fun b z=>absurd rfl z) fun z=>absurd rfl z
 | none=>
  refine core (fun b=>if b=a then some (.frz { cls:=.type "list",data:=.seq vs.toArray } (.lst (ns.map V.int))) else none) (fun b=>?_) (.inl (.inr ⟨{ cls:=.type "list",data:=.seq vs.toArray },if_pos rfl⟩)) (fun b u z=>?_) (fun b z=>?_) fun _=>hk
  ·by_cases hb:b=a
   ·exact .inr ⟨_,_,if_pos hb⟩
   ·exact .inl (if_neg hb)
  ·by_cases hb:b=a
   ·have z':=(if_pos hb).symm.trans z
    cases z'
    subst hb
    exact ⟨ha,by rw [List.length_map]; exact hl,vs,_,rv,ha⟩
   ·have z':=(if_neg hb).symm.trans z
    cases z'
  ·by_cases hb:b=a
   ·exact hb
   ·exact absurd (if_neg hb) z
end L2
namespace L2
open PySem PySem.Spec PyProof.Rows
abbrev KOf {K:PySem.W.Frag} {h:Heap} (_:K.In h):PySem.W.Frag:=K
theorem walk_of {l:PySem.W.OpenLaw} {n k:Nat} {q:Program} {loose:List Str} {XP:(Str→Option Value)→Heap→Prop} {YP:World→Heap→Prop} {d:DefRec} {K:Params→PySem.W.Frag} {CX:World→CXT} {sp:World→Sp} {x:Str}
  (hn:l.most=some n) (hn2:n≤sizeLine) (hdf:d.params.defaults=[]) (hr:Room k callerA)
  (hY:∀ (w:World) (h:Heap),YP w h→(K w.params).In h)
  (F:∀ (w:World) (mg:Str→Option Value) (fa:Addr) (h:Heap),(K w.params).In h→h.Ns mainGlobals mg→mg d.name=some (.ref fa)→
   ∃ fd:FuncData,(∀ (s:Shared) (u:Value),BindsTo s fd ⟨[u],[]⟩ [(x,u)])∧
    ∀ base:Heap,(K w.params).In base→base.Ns mainGlobals mg→FnOk l.prog w (K w.params) mg base (CX w) k fa fd [x] (sp w))
  (hsp:∀ (w:World) (H:Hp) (a:Addr) (ns:List Int),ns.length≤n→Z3 H→SqL (K w.params) H a (ns.map V.int)→sp w [.ref a] H (fun v _=>v=.bl true) fun _ _ _=>False)
  (hCX:∀ (w:World) (H:Hp) (s:Shared) (e:Value) (s':Shared),CX w [] H s (fun _ _ _=>False) e s'→False):
  PySem.W.WalkO q loose XP YP l.row.toRowW d [] (fun f vs=>PySem.call f vs):=by
 refine Att.attach_call hn hdf fun w s₀ s₁ mg mb fa o pm cd doc a vs ns G Y ho hd hcd hmg hobj hints hlen hg=>?_
 have KX:=hY w _ Y
 obtain ⟨fd,hb,hF⟩:=F w mg fa _ KX G.T.g hmg
 exact l7 KX G.T.g G.T.b G.T.builtins G.T.nolimit hg hobj hints (Nat.le_trans hlen hn2) hr hF hb (fun H hO hS=>hsp w H a ns hlen hO hS) fun H e s'=>hCX w H s₁ e s'
end L2
namespace L2
open PySem PySem.Spec PyProof.Rows
def inClass (s:Stmt) (j:Nat):Stmt:=match s with
 | .ClassDef _ _ _ body _ _ _ _ _ _ _=>body.getD j (.Pass ⟨0,0,0,0⟩)
 | _=>.Pass ⟨0,0,0,0⟩
def defArgs (s:Stmt):Arguments:=match s with
 | .FunctionDef _ a _ _ _ _ _ _ _ _=>a
 | _=>{ posonlyargs:=[],args:=[],vararg:=none,kwonlyargs:=[],kw_defaults:=[],kwarg:=none,defaults:=[] }
def defBody (s:Stmt):List Stmt:=match s with
 | .FunctionDef _ _ b _ _ _ _ _ _ _=>b
 | _=>[]
def defScope (s:Stmt):Scope:=match s with
 | .FunctionDef _ _ _ _ _ _ sc _ _ _=>sc
 | _=>{ kind:=.function,names:=[],isGenerator:=false,isCoroutine:=false }
abbrev CX0:CXT:=fun _ _ _ _ _ _=>False
abbrev E0:XK:=fun _ _ _=>False
theorem rk {X:Cx}:vE CX0 X E0:=fun _ _ _ _ _ _ _ h=>h.elim
structure Fun (K:PySem.W.Frag) (x qual:Str) (st:Stmt) (f:Addr) (fd:FuncData):Prop where
 ex:∃ (oc:Value) (od:Option Addr) (kV doc pm:Value) (an:Option Addr) (cdv ct:Value) (osl:Array (Option Value)),
  fd=PySem.W.fnOf x qual (defArgs st) (defBody st) (defScope st) .none kV doc pm an cdv ct∧K.lookup f=some ⟨oc,od,.func fd,osl⟩∧PySem.W.codeIn K cdv qual=true
 kp:PySem.W.keepIn K (.ref f)=true
section
variable {P:Program} {w:World} {K:PySem.W.Frag} {mg:Str→Option Value} {base:Heap}
theorem Fun.ok {x qual:Str} {st:Stmt} {f:Addr} {fd:FuncData} {N ps:List Str} {k:Nat} {sp:Sp} (F:Fun K x qual st f fd) (S:zi N ps (defScope st)) (len:∀ vs H Q E,sp vs H Q E→vs.length=ps.length)
  (hbody:∀ (cdv:Value) (A:Around) (outer:List Env) (s:Shared) (H:Hp) (vs:List V) (Q:VK) (E:XK),Room k (A.deeper (envOfC qual (defScope st) s.heap.objs.size f cdv))→sp vs H Q E→
   ∃ t,PSs (yb CX0 P w K mg base N qual (defScope st) f cdv A outer s H E).nox (defBody st) t∧t { nx:=fun _ H'=>Q .non H',rt:=Q } (start N vs) H):FnOk P w K mg base CX0 (k+1) f fd ps sp:=by
 obtain ⟨oc,od,kV,doc,pm,an,cdv,ct,osl,rfl,lk,hcd⟩:=F.ex
 refine dW lk hcd S len fun A outer s H vs Q E hr hsp=>?_
 obtain ⟨t,h,q⟩:=hbody cdv A outer s H vs Q E hr hsp
 exact ⟨t,h.nox,q⟩
theorem Fun.binds {x qual:Str} {st:Stmt} {f:Addr} {fd:FuncData} {ps:List Str} (F:Fun K x qual st f fd)
  (h:∀ (kV doc pm:Value) (an:Option Addr) (cdv ct:Value) (us:List Value),us.length=ps.length→bindArgs (PySem.W.fnOf x qual (defArgs st) (defBody st) (defScope st) .none kV doc pm an cdv ct) ⟨us,[]⟩=pure (ps.zip us)):Binds K fd ps []:=by
 obtain ⟨oc,od,kV,doc,pm,an,cdv,ct,osl,rfl,lk,hcd⟩:=F.ex
 exact .all (h kV doc pm an cdv ct)
theorem qP {x qual:Str} {st:Stmt} {f:Addr} {oc:Value} {od an:Option Addr} {osl:Array (Option Value)} {kV doc pm cdv ct:Value} (l:K.lookup f=some ⟨oc,od,.func (PySem.W.fnOf x qual (defArgs st) (defBody st) (defScope st) .none kV doc pm an cdv ct),osl⟩)
  (c:PySem.W.codeIn K cdv qual=true) (k:PySem.W.keepIn K (.ref f)=true):Fun K x qual st f (PySem.W.fnOf x qual (defArgs st) (defBody st) (defScope st) .none kV doc pm an cdv ct):=⟨⟨oc,od,kV,doc,pm,an,cdv,ct,osl,rfl,l,c⟩,k⟩
end
section
variable {X:Cx}
theorem pv (i:Nat) {x:Str} {pos:Pos} (hN:X.N[i]? = some x:=by rfl) (hv:Vis X.env.scope x:=by first | exact Or.inl rfl | exact Or.inr (Or.inl rfl) | exact Or.inr (Or.inr rfl)) (hd:(x == ("__debug__":Str))=false:=by decide)
  (hcd:(x == ("__classdict__":Str))=false:=by decide):PE X (.Name x pos) (jw i):=zJ hN hv hd hcd
end
theorem WJ {A B:Prop} (h:B):if false=true then A else B:=by
 rw [if_neg Bool.false_ne_true]
 exact h
theorem WI {A B:Prop} (h:A):if true=true then A else B:=by
 rw [if_pos rfl]
 exact h
theorem WK {c A B:Prop} [Decidable c] (h1:c→A) (h2:¬ c→B):if c then A else B:=by
 by_cases h:c
 ·rw [if_pos h]
  exact h1 h
 ·rw [if_neg h]
  exact h2 h
def Same (H H':Hp):Prop:=∀ b o,H b=some o→H' b=some o
theorem Same.refl (H:Hp):Same H H:=fun _ _ h=>h
theorem Same.trans {H H1 H2:Hp} (a:Same H H1) (b:Same H1 H2):Same H H2:=fun c o h=>b c o (a c o h)
theorem Same.free {H H':Hp} (e:Same H H') {l:Addr} (h:H' l=Option.none):H l=Option.none:=by
 cases q:H l with
 | none=>rfl
 | some o=>
  rw [e l o q] at h
  cases h
theorem Same.seq {K:PySem.W.Frag} {H H':Hp} {a:Addr} {xs:List V} (e:Same H H') (h:SqL K H a xs):SqL K H' a xs:=by
 rcases h with (h | ⟨o,h⟩) | h
 ·exact .inl (.inl (e _ _ h))
 ·exact .inl (.inr ⟨o,e _ _ h⟩)
 ·exact .inr h
end L2
set_option maxRecDepth 1000000
set_option maxHeartbeats 0
open PySem in
def My.top (i:Nat):Stmt:=PySem.Challenge.pw_oddbases_k47_machine_reads.main.body.getD i (.Pass ⟨0,0,0,0⟩)
noncomputable section
open PySem My
namespace My
abbrev v_:Option Value:=some (.ref 6)
abbrev g_:Array GenState:=⟨[]⟩
abbrev d_:=@Drawn.mk 0 0 0 0
abbrev P_:=@Pos.mk
abbrev N_ (o:Params→Obj) (a b:Params→W.BT) (x:Params):W.BT:=.node (o x) (a x) (b x)
abbrev Z_ (_:Params):W.BT:=.nil
abbrev L_ (o:Params→Obj):=N_ o Z_ Z_
theorem sg_ {tb p w n₀ ann b} {n:Nat} {s s':W.SharedT} {t:Thread} {f:Flow} {c:Code} {q:Pos} (h:W.segRunT tb p w n₀ ann b n s t=some (f,s',c,q)):W.segRun tb p w n₀ ann b n s.abs t=some (f,s'.abs,c,q):=W.segRun_of h
abbrev p_ (a:String) (b:Nat):Value:=.str (.ofString a) b
abbrev j_ (a:Int) (b:Nat):Value:=.int a b
abbrev r_ (a:Nat):Value:=.ref a
abbrev e_ (x:Params) (a:String) (b:Nat) (v:Value):DictEntry:=⟨PyData.keyHash x (.ofString a),.str (.ofString a) b,v⟩
abbrev t0 (a1:String) (a3:Nat) (a7:String) (a8 a9:Nat) (x:Params):Obj:=(@Obj.mk (.type "function") none (@Data.func (@FuncData.mk (.ofString a1) (.ofString a1) (L2.defArgs (My.top a3)) (@FuncBody.stmts (L2.defBody (My.top a3))) (L2.defScope (My.top a3)) 3 (@List.nil (@Prod @Str @Nat)) .none .none .none (p_ a7 a8) none (r_ a9) .none 0)) #[])
abbrev t1 (a1:String) (a2 a4 a6:Nat) (a7:Int) (a17 a20 a21:Nat) (a22:Int) (a27:Nat) (x:Params):Obj:=(@Obj.mk (.type "code") none (@Data.fields (List.toArray [(p_ a1 a2),(p_ a1 a4),(p_ "/claim/cut.py" a6),(j_ a7 0),(j_ 1 0),(j_ 0 0),(j_ 0 0),(j_ 3 0),(r_ a17),(.bool @Bool.true),(j_ 181 0),(r_ a20),.none,.none,.none,(r_ a21),(j_ a22 0),(j_ a7 0),(p_ "/claim/cut.py" a27)])) #[])
abbrev t2 (a0:String) (a2:Nat) (x:Params):Obj:=(@Obj.mk .none none (@Data.func (@FuncData.mk (.ofString a0) (.ofString a0) (L2.defArgs (My.top a2)) (@FuncBody.stmts (L2.defBody (My.top a2))) (L2.defScope (My.top a2)) 0 (@List.nil (@Prod @Str @Nat)) .none .none .none .none none .none .none 0)) #[])
abbrev t3 (x:Params):Obj:=(@Obj.mk .none none (@Data.fields #[]) #[])
abbrev t4 (x:Params):Obj:=(@Obj.mk (.type "tuple") none (@Data.seq #[] 0) #[])
abbrev t5 (a1:String) (a2:Nat) (a3:String) (a4 a6:Nat) (a7 a9:Int) (a17 a20 a21 a22 a23:Nat) (a24:Int) (a29:Nat) (x:Params):Obj:=(@Obj.mk (.type "code") none (@Data.fields (List.toArray [(p_ a1 a2),(p_ a3 a4),(p_ "/claim/cut.py" a6),(j_ a7 0),(j_ a9 0),(j_ 0 0),(j_ 0 0),(j_ 3 0),(r_ a17),(.bool @Bool.true),(j_ 181 0),(r_ a20),.none,(r_ a21),(r_ a22),(r_ a23),(j_ a24 0),(j_ a7 0),(p_ "/claim/cut.py" a29)])) #[])
abbrev t6 (a1:String) (a2:Nat) (a3:String) (a4:Nat) (a5:String) (a6:Nat) (a7:String) (a8:Nat) (x:Params):Obj:=(@Obj.mk (.type "tuple") none (@Data.seq (List.toArray [(p_ a1 a2),(p_ a3 a4),(p_ a5 a6),(p_ a7 a8)]) 0) #[])
abbrev t7 (a1:String) (a2:Nat) (a3:String) (a4:Nat) (a5:String) (a6:Nat) (a7:String) (a8:Nat) (a9:String) (a10:Nat) (a11:String) (a12:Nat) (x:Params):Obj:=(@Obj.mk (.type "tuple") none (@Data.seq (List.toArray [(p_ a1 a2),(p_ a3 a4),(p_ a5 a6),(p_ a7 a8),(p_ a9 a10),(p_ a11 a12)]) 0) #[])
abbrev t8 (a1:String) (a2:Nat) (a3:String) (a4:Nat) (a5:String) (a6:Nat) (x:Params):Obj:=(@Obj.mk (.type "tuple") none (@Data.seq (List.toArray [(p_ a1 a2),(p_ a3 a4),(p_ a5 a6)]) 0) #[])
abbrev t9 (a1:String) (a2:Nat) (a3:String) (a4:Nat) (x:Params):Obj:=(@Obj.mk (.type "tuple") none (@Data.seq (List.toArray [(p_ a1 a2),(p_ a3 a4)]) 0) #[])
abbrev t10 (a1:String) (a2:Nat) (x:Params):Obj:=(@Obj.mk (.type "tuple") none (@Data.seq (List.toArray [(p_ a1 a2)]) 0) #[])
abbrev t11 (a2:Nat) (x:Params):Obj:=(@Obj.mk (.type "builtin_function_or_method") none (@Data.fields (List.toArray [(.builtin "object.__init_subclass__"),(r_ a2)])) #[])
abbrev t12 (a1:Nat) (x:Params):Obj:=(@Obj.mk (.type "super") none (@Data.fields (List.toArray [(r_ a1),(r_ a1),(r_ a1)])) #[])
abbrev t13 (a2 a3:Nat) (x:Params):Obj:=(@Obj.mk (.type "getset_descriptor") none (@Data.fields (List.toArray [(p_ "__weakref__" a2),(r_ a3),(.builtin "ExceptionGroup.__weakref__"),.none])) #[])
abbrev t14 (a2 a3:Nat) (x:Params):Obj:=(@Obj.mk (.type "getset_descriptor") none (@Data.fields (List.toArray [(p_ "__dict__" a2),(r_ a3),(.builtin "function.__dict__"),(.builtin "function.__dict__#set")])) #[])
abbrev t15 (a3:Nat) (a4:String) (a5 a8:Nat) (a9:Int) (a10 a13 a14:Nat) (a15:String) (a17 a18:Nat) (a19:String) (a21 a22:Nat) (a23:String) (a25 a26:Nat) (a27:String) (a29 a30:Nat) (a31:String) (a33 a34:Nat) (a35:String) (a37 a38 a41 a42:Nat) (x:Params):Obj:=(@Obj.mk (.type "dict") none (@Data.dict (List.toArray [(e_ x "__module__" a3 (p_ a4 a5)),(e_ x "__firstlineno__" a8 (j_ a9 a10)),(e_ x "__init__" a13 (r_ a14)),(e_ x a15 a17 (r_ a18)),(e_ x a19 a21 (r_ a22)),(e_ x a23 a25 (r_ a26)),(e_ x a27 a29 (r_ a30)),(e_ x a31 a33 (r_ a34)),(e_ x a35 a37 (r_ a38)),(e_ x "__doc__" a41 .none)]) a42) #[])
abbrev t16 (a1 a2:String) (a3 a4:Nat) (a10:String) (a11 a12:Nat) (x:Params):Obj:=(@Obj.mk (.type "function") none (@Data.func (@FuncData.mk (.ofString a1) (.ofString a2) (L2.defArgs (L2.inClass (My.top a3) a4)) (@FuncBody.stmts (L2.defBody (L2.inClass (My.top a3) a4))) (L2.defScope (L2.inClass (My.top a3) a4)) 3 (@List.nil (@Prod @Str @Nat)) .none .none .none (p_ a10 a11) none (r_ a12) .none 0)) #[])
abbrev t17 (a0 a1:String) (a2 a3:Nat) (x:Params):Obj:=(@Obj.mk .none none (@Data.func (@FuncData.mk (.ofString a0) (.ofString a1) (L2.defArgs (L2.inClass (My.top a2) a3)) (@FuncBody.stmts (L2.defBody (L2.inClass (My.top a2) a3))) (L2.defScope (L2.inClass (My.top a2) a3)) 0 (@List.nil (@Prod @Str @Nat)) .none .none .none .none none .none .none 0)) #[])
abbrev t18 (a1 a3:Nat) (a4:String) (a5:Nat) (x:Params):Obj:=(@Obj.mk (.type "frame") none @Data.plain (@List.toArray (@Option @Value) [(some (r_ a1)),(some (r_ 3)),(some (r_ a3)),none,(some (p_ a4 a5)),none,(some (r_ 0))]))
abbrev t19 (a1:String) (a2 a4 a6:Nat) (a7:Int) (a17 a20:Nat) (a21:Int) (a26:Nat) (x:Params):Obj:=(@Obj.mk (.type "code") none (@Data.fields (List.toArray [(p_ a1 a2),(p_ a1 a4),(p_ "/claim/cut.py" a6),(j_ a7 0),(j_ 0 0),(j_ 0 0),(j_ 0 0),(j_ 0 0),(r_ a17),(.bool @Bool.false),(j_ 181 0),(r_ a20),.none,.none,.none,.none,(j_ a21 0),(j_ a7 0),(p_ "/claim/cut.py" a26)])) #[])
abbrev t20 (a0:Int) (a4:Nat) (a5:Int) (a9:Nat) (a10:Int) (a14:Nat) (a15:Int) (a19:Nat) (x:Params):Obj:=(@Obj.mk .none none (@Data.fields (List.toArray [(j_ a0 0),(j_ 4 0),(r_ a4),(j_ a5 0),(j_ 4 0),(r_ a9),(j_ a10 0),(j_ 4 0),(r_ a14),(j_ a15 0),(j_ 4 0),(r_ a19)])) #[])
abbrev t21 (a3:Nat) (a4:String) (a5 a8:Nat) (a9:String) (a10 a13:Nat) (a14:Int) (a15 a18 a19:Nat) (a20:String) (a22 a23:Nat) (a24:String) (a26 a27:Nat) (a28:String) (a30 a31 a34 a35:Nat) (x:Params):Obj:=(@Obj.mk (.type "dict") none (@Data.dict (List.toArray [(e_ x "__module__" a3 (p_ a4 a5)),(e_ x "__qualname__" a8 (p_ a9 a10)),(e_ x "__firstlineno__" a13 (j_ a14 a15)),(e_ x "__init__" a18 (r_ a19)),(e_ x a20 a22 (r_ a23)),(e_ x a24 a26 (r_ a27)),(e_ x a28 a30 (r_ a31)),(e_ x "__static_attributes__" a34 (r_ a35))]) 8) #[])
abbrev t22 (x:Params):Obj:=(@Obj.mk (.type "builtin_function_or_method") none (@Data.fields (List.toArray [(.builtin "type.__prepare__"),(.type "type")])) #[])
abbrev t23 (a1:String) (a3 a6 a8 a10 a12:Nat) (x:Params):Obj:=(@Obj.mk (.type "type") none (@Data.cls (@ClassData.mk (.ofString a1) [(r_ 272)] [(r_ a3),(r_ 272),(.type "object")] a6 (.ofString a1) @Bool.true [] [] @Bool.false (@Option.none @Bool) @Bool.false)) (@List.toArray (@Option @Value) [(some (r_ a8)),none,(some (p_ a1 a10)),(some (p_ a1 a12)),(some (.builtin "object.__new__")),(some (.bool @Bool.true))]))
abbrev t24 (a0:Int) (a4:Nat) (a5:Int) (a9:Nat) (a10:Int) (a14:Nat) (a15:Int) (a19:Nat) (a20:Int) (a24:Nat) (a25:Int) (a29:Nat) (x:Params):Obj:=(@Obj.mk .none none (@Data.fields (List.toArray [(j_ a0 0),(j_ 4 0),(r_ a4),(j_ a5 0),(j_ 4 0),(r_ a9),(j_ a10 0),(j_ 4 0),(r_ a14),(j_ a15 0),(j_ 4 0),(r_ a19),(j_ a20 0),(j_ 4 0),(r_ a24),(j_ a25 0),(j_ 4 0),(r_ a29)])) #[])
abbrev t25 (a3 a8:Nat) (a9:String) (a10 a13:Nat) (a14:Int) (a15:Nat) (a16:String) (a18 a19:Nat) (a20:String) (a22 a23:Nat) (a24:String) (a26 a27:Nat) (a28:String) (a30 a31 a34 a35 a38 a39 a42 a43:Nat) (x:Params):Obj:=(@Obj.mk (.type "dict") none (@Data.dict (List.toArray [(e_ x "__module__" a3 (p_ "oddbases.ways" 449)),(e_ x "__qualname__" a8 (p_ a9 a10)),(e_ x "__firstlineno__" a13 (j_ a14 a15)),(e_ x a16 a18 (r_ a19)),(e_ x a20 a22 (r_ a23)),(e_ x a24 a26 (r_ a27)),(e_ x a28 a30 (r_ a31)),(e_ x "split" a34 (r_ a35)),(e_ x "has" a38 (r_ a39)),(e_ x "__static_attributes__" a42 (r_ a43))]) 10) #[])
abbrev t26 (a1:Nat) (x:Params):Obj:=(@Obj.mk (.type "tuple") none (@Data.seq (List.toArray [(r_ a1)]) 0) #[])
abbrev t27 (a3 a8:Nat) (a9:Int) (a10 a13 a14:Nat) (a15:String) (a17 a18:Nat) (a19:String) (a21 a22 a25 a26:Nat) (a27:String) (a29 a30 a33 a34 a37:Nat) (x:Params):Obj:=(@Obj.mk (.type "dict") none (@Data.dict (List.toArray [(e_ x "__module__" a3 (p_ "oddbases.ways" 449)),(e_ x "__firstlineno__" a8 (j_ a9 a10)),(e_ x "__init__" a13 (r_ a14)),(e_ x a15 a17 (r_ a18)),(e_ x a19 a21 (r_ a22)),(e_ x "ratio" a25 (r_ a26)),(e_ x a27 a29 (r_ a30)),(e_ x "__static_attributes__" a33 (r_ a34)),(e_ x "__doc__" a37 .none)]) 2) #[])
abbrev t28 (a0:Int) (a4:Nat) (a5:Int) (a9:Nat) (a10:Int) (a14:Nat) (a15:Int) (a19:Nat) (a20:Int) (a24:Nat) (x:Params):Obj:=(@Obj.mk .none none (@Data.fields (List.toArray [(j_ a0 0),(j_ 4 0),(r_ a4),(j_ a5 0),(j_ 4 0),(r_ a9),(j_ a10 0),(j_ 4 0),(r_ a14),(j_ a15 0),(j_ 4 0),(r_ a19),(j_ a20 0),(j_ 4 0),(r_ a24)])) #[])
abbrev t29 (a3 a8:Nat) (a9:String) (a10 a13:Nat) (a14:Int) (a15 a18 a19:Nat) (a20:String) (a22 a23:Nat) (a24:String) (a26 a27 a30 a31:Nat) (a32:String) (a34 a35 a38 a39:Nat) (x:Params):Obj:=(@Obj.mk (.type "dict") none (@Data.dict (List.toArray [(e_ x "__module__" a3 (p_ "oddbases.ways" 449)),(e_ x "__qualname__" a8 (p_ a9 a10)),(e_ x "__firstlineno__" a13 (j_ a14 a15)),(e_ x "__init__" a18 (r_ a19)),(e_ x a20 a22 (r_ a23)),(e_ x a24 a26 (r_ a27)),(e_ x "ratio" a30 (r_ a31)),(e_ x a32 a34 (r_ a35)),(e_ x "__static_attributes__" a38 (r_ a39))]) 9) #[])
abbrev t30 (a3 a8:Nat) (a9:Int) (a10 a13 a14 a17 a18 a21 a22 a25 a26 a29:Nat) (x:Params):Obj:=(@Obj.mk (.type "dict") none (@Data.dict (List.toArray [(e_ x "__module__" a3 (p_ "oddbases.ways" 449)),(e_ x "__firstlineno__" a8 (j_ a9 a10)),(e_ x "__init__" a13 (r_ a14)),(e_ x "high" a17 (r_ a18)),(e_ x "ratio" a21 (r_ a22)),(e_ x "__static_attributes__" a25 (r_ a26)),(e_ x "__doc__" a29 .none)]) 2) #[])
abbrev t31 (a0:Int) (a4:Nat) (a5:Int) (a9:Nat) (a10:Int) (a14:Nat) (x:Params):Obj:=(@Obj.mk .none none (@Data.fields (List.toArray [(j_ a0 0),(j_ 4 0),(r_ a4),(j_ a5 0),(j_ 4 0),(r_ a9),(j_ a10 0),(j_ 4 0),(r_ a14)])) #[])
abbrev t32 (a3 a8:Nat) (a9:String) (a10 a13:Nat) (a14:Int) (a15 a18 a19 a22 a23 a26 a27 a30 a31:Nat) (x:Params):Obj:=(@Obj.mk (.type "dict") none (@Data.dict (List.toArray [(e_ x "__module__" a3 (p_ "oddbases.ways" 449)),(e_ x "__qualname__" a8 (p_ a9 a10)),(e_ x "__firstlineno__" a13 (j_ a14 a15)),(e_ x "__init__" a18 (r_ a19)),(e_ x "high" a22 (r_ a23)),(e_ x "ratio" a26 (r_ a27)),(e_ x "__static_attributes__" a30 (r_ a31))]) 7) #[])
abbrev t33 (a1:String) (a3 a9 a11 a13 a15:Nat) (x:Params):Obj:=(@Obj.mk (.type "type") none (@Data.cls (@ClassData.mk (.ofString a1) [(r_ 31)] [(r_ a3),(r_ 31),(.type "ValueError"),(.type "Exception"),(.type "BaseException"),(.type "object")] a9 (.ofString a1) @Bool.true [] [] @Bool.false (@Option.none @Bool) @Bool.false)) (@List.toArray (@Option @Value) [(some (r_ a11)),none,(some (p_ a1 a13)),(some (p_ a1 a15)),(some (.builtin "ValueError.__new__")),(some (.bool @Bool.true))]))
abbrev t34 (a3 a8:Nat) (a9:Int) (a10 a13 a14 a17:Nat) (x:Params):Obj:=(@Obj.mk (.type "dict") none (@Data.dict (List.toArray [(e_ x "__module__" a3 (p_ "oddbases.errors" 194)),(e_ x "__firstlineno__" a8 (j_ a9 a10)),(e_ x "__static_attributes__" a13 (r_ a14)),(e_ x "__doc__" a17 .none)]) 2) #[])
abbrev t35 (a3 a8:Nat) (a9:String) (a10 a13:Nat) (a14:Int) (a15 a18 a19:Nat) (x:Params):Obj:=(@Obj.mk (.type "dict") none (@Data.dict (List.toArray [(e_ x "__module__" a3 (p_ "oddbases.errors" 194)),(e_ x "__qualname__" a8 (p_ a9 a10)),(e_ x "__firstlineno__" a13 (j_ a14 a15)),(e_ x "__static_attributes__" a18 (r_ a19))]) 4) #[])
abbrev U17 (x:Params):DictEntry:=(e_ x "NoWay" 229 (r_ 44))
abbrev U16 (x:Params):DictEntry:=(e_ x "_wall" 193 (r_ 21))
abbrev U15 (x:Params):DictEntry:=(e_ x "__doc__" 166 .none)
abbrev U14 (x:Params):DictEntry:=(e_ x "__spec__" 169 .none)
abbrev U13 (x:Params):DictEntry:=(e_ x "Nought" 341 (r_ 128))
abbrev U12 (x:Params):DictEntry:=(e_ x "NoRatio" 293 (r_ 92))
abbrev U11 (x:Params):DictEntry:=(e_ x "TooLess" 277 (r_ 80))
abbrev U10 (x:Params):DictEntry:=(e_ x "NoPairs" 325 (r_ 116))
abbrev U9 (x:Params):DictEntry:=(e_ x "NoNumber" 245 (r_ 56))
abbrev U8 (x:Params):DictEntry:=(e_ x "OddError" 213 (r_ 31))
abbrev U7 (x:Params):DictEntry:=(e_ x "__cached__" 174 .none)
abbrev U6 (x:Params):DictEntry:=(e_ x "NoWriting" 261 (r_ 68))
abbrev U5 (x:Params):DictEntry:=(e_ x "__package__" 167 .none)
abbrev U4 (x:Params):DictEntry:=(e_ x "NoFalling" 309 (r_ 104))
abbrev U3 (x:Params):DictEntry:=(e_ x "__builtins__" 171 (r_ 4))
abbrev U2 (x:Params):DictEntry:=(e_ x "__annotations__" 170 (r_ 6))
abbrev U1 (x:Params):DictEntry:=(e_ x "__file__" 173 (p_ "/claim/cut.py" 172))
abbrev U0 (x:Params):DictEntry:=(e_ x "__loader__" 168 (.builtin "__main__.__loader__#opaque"))
def cR:=t0 "law" 52 "law_oddbases_k47_machine_reads" 957 707
def cS:=t1 "law" 1090 1091 1092 322 704 705 706 1093 1094
def YH:=t2 "law" 52
def zg:=t3
def za:=t4
def cU:=t0 "_law_refused" 51 "law_oddbases_k47_machine_reads" 957 702
def cV:=t5 "_law_refused" 1080 "_law_refused" 1081 1082 315 2 697 698 699 700 701 1087 1088
def YJ:=t2 "_law_refused" 51
def cW:=t6 "_law_machine" 1083 "_law_totals" 1084 "_law_error" 1085 "_law_e" 1086
def cX:=t0 "_law_names" 50 "law_oddbases_k47_machine_reads" 957 695
def cY:=t1 "_law_names" 1074 1075 1076 306 692 693 694 1077 1078
def YK:=t2 "_law_names" 50
def cZ:=t0 "_law_read" 49 "law_oddbases_k47_machine_reads" 957 690
def c3:=t5 "_law_read" 1062 "_law_read" 1063 1064 296 4 685 686 687 688 689 1071 1072
def YL:=t2 "_law_read" 49
def c4:=t7 "_law_name" 1065 "_law_number" 1066 "_law_found" 1067 "_law_totals" 1068 "_law_figure" 1069 "_law_worth_of" 1070
def c5:=t0 "_law_high" 48 "law_oddbases_k47_machine_reads" 957 683
def c6:=t5 "_law_high" 1050 "_law_high" 1051 1052 291 4 678 679 680 681 682 1059 1060
def YM:=t2 "_law_high" 48
def c7:=t7 "_law_name" 1053 "_law_number" 1054 "_law_row" 1055 "_law_last" 1056 "_law_found" 1057 "_law_k" 1058
def c8:=t0 "_law_by_rows" 47 "law_oddbases_k47_machine_reads" 957 676
def c9:=t5 "_law_by_rows" 1035 "_law_by_rows" 1036 1037 281 3 671 672 673 674 675 1047 1048
def YN:=t2 "_law_by_rows" 47
def c_ (x:Params):Obj:=(@Obj.mk (.type "tuple") none (@Data.seq (List.toArray [(p_ "_law_name" 1038),(p_ "_law_machine" 1039),(p_ "_law_totals" 1040),(p_ "_law_table" 1041),(p_ "_law_row" 1042),(p_ "_law_carry" 1043),(p_ "_law_figures" 1044),(p_ "_law_total" 1045),(p_ "_law_figure" 1046)]) 0) #[])
def ba:=t0 "_law_span" 46 "law_oddbases_k47_machine_reads" 957 669
def bb:=t5 "_law_span" 1025 "_law_span" 1026 1027 276 3 664 665 666 667 668 1032 1033
def YO:=t2 "_law_span" 46
def bc:=t6 "_law_name" 1028 "_law_number" 1029 "_law_cell" 1030 "_law_most" 1031
def bf:=t0 "_law_chosen" 45 "law_oddbases_k47_machine_reads" 957 662
def bg:=t5 "_law_chosen" 1016 "_law_chosen" 1017 1018 268 1 657 658 659 660 661 1022 1023
def YQ:=t2 "_law_chosen" 45
def bh:=t8 "_law_cell" 1019 "_law_name" 1020 "_law_part" 1021
def bj:=t0 "_law_way" 44 "law_oddbases_k47_machine_reads" 957 655
def bn:=t5 "_law_way" 1008 "_law_way" 1009 1010 260 2 650 651 652 653 654 1013 1014
def YR:=t2 "_law_way" 44
def bo:=t9 "_law_name" 1011 "_law_number" 1012
def bp:=t0 "_law_is_number" 43 "law_oddbases_k47_machine_reads" 957 648
def bq:=t5 "_law_is_number" 1000 "_law_is_number" 1001 1002 254 2 643 644 645 646 647 1005 1006
def YS:=t2 "_law_is_number" 43
def br:=t9 "_law_name" 1003 "_law_thing" 1004
def bu:=t0 "_law_nought" 42 "law_oddbases_k47_machine_reads" 957 641
def bv:=t5 "_law_nought" 993 "_law_nought" 994 995 250 1 636 637 638 639 640 997 998
def YT:=t2 "_law_nought" 42
def bw:=t10 "_law_name" 996
def bx:=t0 "_law_is_figure" 41 "law_oddbases_k47_machine_reads" 957 634
def bz:=t5 "_law_is_figure" 984 "_law_is_figure" 985 986 242 3 629 630 631 632 633 990 991
def YU:=t2 "_law_is_figure" 41
def bA:=t8 "_law_name" 987 "_law_number" 988 "_law_figure" 989
def bB:=t0 "_law_times" 40 "law_oddbases_k47_machine_reads" 957 627
def bC:=t5 "_law_times" 975 "_law_times" 976 977 234 3 622 623 624 625 626 981 982
def YV:=t2 "_law_times" 40
def bD:=t8 "_law_name" 978 "_law_number" 979 "_law_carry" 980
def bE:=t0 "_law_added" 39 "law_oddbases_k47_machine_reads" 957 620
def bF:=t5 "_law_added" 967 "_law_added" 968 969 230 2 615 616 617 618 619 972 973
def YW:=t2 "_law_added" 39
def bG:=t9 "_law_one" 970 "_law_other" 971
def bH:=t0 "_law_cell_at" 38 "law_oddbases_k47_machine_reads" 957 613
def bI:=t5 "_law_cell_at" 959 "_law_cell_at" 960 961 226 2 608 609 610 611 612 964 965
def YX:=t2 "_law_cell_at" 38
def bJ:=t9 "_law_script" 962 "_law_k" 963
def YY:=t11 603
def YZ:=t12 603
def bK:=t13 952 603
def bL:=t14 950 603
def bM (x:Params):Obj:=(@Obj.mk (.type "type") none (@Data.cls (@ClassData.mk (.ofString "Machine") [(.type "object")] [(r_ 603),(.type "object")] 602 (.ofString "Machine") @Bool.true [] [] @Bool.false (@Option.none @Bool) @Bool.false)) (@List.toArray (@Option @Value) [none,none,(some (p_ "Machine" 897)),(some (p_ "Machine" 905)),(some (.builtin "object.__new__")),(some (.bool @Bool.true))]))
def bN:=t15 904 "oddbases.machines" 846 908 199 907 919 579 "carries" 926 586 "rows" 933 593 "read" 945 600 "__static_attributes__" 949 601 "__dict__" 951 604 "__weakref__" 953 605 954 4
def bO:=t8 "found" 946 "leads" 947 "made" 948
def bP:=t16 "read" "Machine.read" 36 3 "oddbases.machines" 846 599
def bQ:=t5 "read" 934 "Machine.read" 935 936 215 2 594 595 596 597 598 943 944
def Y7:=t17 "read" "Machine.read" 36 3
def bR:=t7 "self" 937 "totals" 938 "figures" 939 "carry" 940 "total" 941 "lead" 942
def bS:=t16 "rows" "Machine.rows" 36 2 "oddbases.machines" 846 592
def bT:=t5 "rows" 927 "Machine.rows" 928 929 212 1 587 588 589 590 591 931 932
def Y8:=t17 "rows" "Machine.rows" 36 2
def bU:=t10 "self" 930
def bV:=t16 "carries" "Machine.carries" 36 1 "oddbases.machines" 846 585
def bW:=t5 "carries" 920 "Machine.carries" 921 922 209 1 580 581 582 583 584 924 925
def Y9:=t17 "carries" "Machine.carries" 36 1
def bX:=t10 "self" 923
def bY:=t16 "__init__" "Machine.__init__" 36 0 "oddbases.machines" 846 578
def bZ:=t5 "__init__" 909 "Machine.__init__" 910 911 201 4 573 574 575 576 577 917 918
def Y_:=t17 "__init__" "Machine.__init__" 36 0
def b_ (x:Params):Obj:=(@Obj.mk (.type "tuple") none (@Data.seq (List.toArray [(p_ "self" 912),(p_ "way" 913),(p_ "low" 914),(p_ "high" 915),(p_ "made" 916)]) 0) #[])
def Xa:=t18 571 568 "oddbases.machines" 846
def Xb:=t19 "Machine" 899 900 901 199 569 570 902 903
def Xc:=t20 201 578 209 585 212 592 215 599
def Xd:=t21 904 "oddbases.machines" 846 906 "Machine" 905 908 199 907 919 579 "carries" 926 586 "rows" 933 593 "read" 945 600 949 601
def zp:=t22
def jT:=t0 "leads_of" 35 "oddbases.machines" 846 564
def jU:=t5 "leads_of" 888 "leads_of" 889 890 194 1 559 560 561 562 563 894 895
def aa:=t2 "leads_of" 35
def jV:=t8 "rows" 891 "leads" 892 "row" 893
def jW:=t0 "carries_and_rows" 34 "oddbases.machines" 846 557
def jX:=t5 "carries_and_rows" 872 "carries_and_rows" 873 874 179 3 552 553 554 555 556 885 886
def ac:=t2 "carries_and_rows" 34
def jY (x:Params):Obj:=(@Obj.mk (.type "tuple") none (@Data.seq (List.toArray [(p_ "way" 875),(p_ "low" 876),(p_ "high" 877),(p_ "carries" 878),(p_ "known" 879),(p_ "rows" 880),(p_ "at" 881),(p_ "carry" 882),(p_ "total" 883),(p_ "parts" 884)]) 0) #[])
def jZ:=t0 "held_to_be_a_span" 33 "oddbases.machines" 846 550
def j4:=t5 "held_to_be_a_span" 862 "held_to_be_a_span" 863 864 175 3 545 546 547 548 549 869 870
def ad:=t2 "held_to_be_a_span" 33
def j5:=t6 "way" 865 "low" 866 "high" 867 "farthest" 868
def j6:=t0 "held_to_have_one_ratio" 32 "oddbases.machines" 846 543
def j7:=t5 "held_to_have_one_ratio" 855 "held_to_have_one_ratio" 856 857 172 1 538 539 540 541 542 859 860
def ae:=t2 "held_to_have_one_ratio" 32
def j8:=t10 "way" 858
def j9:=t0 "farthest_total" 31 "oddbases.machines" 846 536
def ic:=t5 "farthest_total" 848 "farthest_total" 849 850 168 1 531 532 533 534 535 852 853
def af:=t2 "farthest_total" 31
def ig:=t10 "way" 851
def ag:=t11 528
def ah:=t12 528
def ii:=t23 "Pairs" 528 527 477 777 785
def ij:=t15 784 "oddbases.ways" 449 788 144 787 796 490 "nought" 803 497 "high" 811 504 "ratio" 819 511 "split" 832 518 "has" 840 525 "__static_attributes__" 842 526 843 2
def ik:=t10 "most" 841
def io:=t16 "has" "Pairs.has" 29 5 "oddbases.ways" 449 524
def ip:=t5 "has" 833 "Pairs.has" 834 835 165 2 519 520 521 522 523 838 839
def ai:=t17 "has" "Pairs.has" 29 5
def iq:=t9 "self" 836 "number" 837
def ir:=t16 "split" "Pairs.split" 29 4 "oddbases.ways" 449 517
def iw:=t5 "split" 820 "Pairs.split" 821 822 158 3 512 513 514 515 516 830 831
def aj:=t17 "split" "Pairs.split" 29 4
def ix (x:Params):Obj:=(@Obj.mk (.type "tuple") none (@Data.seq (List.toArray [(p_ "self" 823),(p_ "total" 824),(p_ "place" 825),(p_ "pair" 826),(p_ "figures" 827),(p_ "figure" 828),(p_ "turned" 829)]) 0) #[])
def iz:=t16 "ratio" "Pairs.ratio" 29 3 "oddbases.ways" 449 510
def iA:=t5 "ratio" 812 "Pairs.ratio" 813 814 155 2 505 506 507 508 509 817 818
def ak:=t17 "ratio" "Pairs.ratio" 29 3
def iB:=t9 "self" 815 "place" 816
def iC:=t16 "high" "Pairs.high" 29 2 "oddbases.ways" 449 503
def iD:=t5 "high" 804 "Pairs.high" 805 806 152 2 498 499 500 501 502 809 810
def al:=t17 "high" "Pairs.high" 29 2
def iE:=t9 "self" 807 "place" 808
def iF:=t16 "nought" "Pairs.nought" 29 1 "oddbases.ways" 449 496
def iG:=t5 "nought" 797 "Pairs.nought" 798 799 149 1 491 492 493 494 495 801 802
def ao:=t17 "nought" "Pairs.nought" 29 1
def iH:=t10 "self" 800
def iI:=t16 "__init__" "Pairs.__init__" 29 0 "oddbases.ways" 449 489
def iJ:=t5 "__init__" 789 "Pairs.__init__" 790 791 146 2 484 485 486 487 488 794 795
def ap:=t17 "__init__" "Pairs.__init__" 29 0
def iK:=t9 "self" 792 "most" 793
def aq:=t18 482 479 "oddbases.ways" 449
def au:=t19 "Pairs" 779 780 781 144 480 481 782 783
def av:=t24 146 489 149 496 152 503 155 510 158 517 165 524
def aw:=t25 784 786 "Pairs" 785 788 144 787 "__init__" 796 490 "nought" 803 497 "high" 811 504 "ratio" 819 511 832 518 840 525 842 526
def yp:=t26 272
def ax:=t11 474
def ay:=t12 474
def iM:=t23 "Falling" 474 473 430 719 727
def iN:=t27 726 730 128 729 738 443 "high" 746 450 "weights" 754 457 762 464 "split" 771 471 773 472 774
def iO:=t10 "most" 772
def iP:=t16 "split" "Falling.split" 28 4 "oddbases.ways" 449 470
def iQ:=t5 "split" 763 "Falling.split" 764 765 142 3 465 466 467 468 469 769 770
def az:=t17 "split" "Falling.split" 28 4
def iR:=t8 "self" 766 "total" 767 "place" 768
def iS:=t16 "ratio" "Falling.ratio" 28 3 "oddbases.ways" 449 463
def iT:=t5 "ratio" 755 "Falling.ratio" 756 757 139 2 458 459 460 461 462 760 761
def aA:=t17 "ratio" "Falling.ratio" 28 3
def iU:=t9 "self" 758 "place" 759
def iV:=t16 "weights" "Falling.weights" 28 2 "oddbases.ways" 449 456
def iW:=t5 "weights" 747 "Falling.weights" 748 749 136 2 451 452 453 454 455 752 753
def aB:=t17 "weights" "Falling.weights" 28 2
def iX:=t9 "self" 750 "many" 751
def iY:=t16 "high" "Falling.high" 28 1 "oddbases.ways" 449 449
def iZ:=t5 "high" 739 "Falling.high" 740 741 133 2 444 445 446 447 448 744 745
def aC:=t17 "high" "Falling.high" 28 1
def i7:=t9 "self" 742 "place" 743
def i8:=t16 "__init__" "Falling.__init__" 28 0 "oddbases.ways" 449 442
def i9:=t5 "__init__" 731 "Falling.__init__" 732 733 130 2 437 438 439 440 441 736 737
def aD:=t17 "__init__" "Falling.__init__" 28 0
def i_:=t9 "self" 734 "most" 735
def aE:=t18 435 432 "oddbases.ways" 449
def aF:=t19 "Falling" 721 722 723 128 433 434 724 725
def aG:=t28 130 442 133 449 136 456 139 463 142 470
def aH:=t29 726 728 "Falling" 727 730 128 729 738 443 "high" 746 450 "weights" 754 457 762 464 "split" 771 471 773 472
def aI:=t11 427
def aJ:=t12 427
def hG:=t23 "Growing" 427 426 397 678 686
def hV:=t30 685 689 118 688 697 410 705 417 713 424 715 425 716
def hW:=t10 "first" 714
def hX:=t16 "ratio" "Growing.ratio" 27 2 "oddbases.ways" 449 423
def hZ:=t5 "ratio" 706 "Growing.ratio" 707 708 126 2 418 419 420 421 422 711 712
def aK:=t17 "ratio" "Growing.ratio" 27 2
def h8:=t9 "self" 709 "place" 710
def h9:=t16 "high" "Growing.high" 27 1 "oddbases.ways" 449 416
def h_:=t5 "high" 698 "Growing.high" 699 700 123 2 411 412 413 414 415 703 704
def aL:=t17 "high" "Growing.high" 27 1
def gb:=t9 "self" 701 "place" 702
def gc:=t16 "__init__" "Growing.__init__" 27 0 "oddbases.ways" 449 409
def gd:=t5 "__init__" 690 "Growing.__init__" 691 692 120 2 404 405 406 407 408 695 696
def aM:=t17 "__init__" "Growing.__init__" 27 0
def ge:=t9 "self" 693 "first" 694
def aN:=t18 402 399 "oddbases.ways" 449
def aO:=t19 "Growing" 680 681 682 118 400 401 683 684
def aP:=t31 120 409 123 416 126 423
def aQ:=t32 685 687 "Growing" 686 689 118 688 697 410 705 417 713 424 715 425
def aR:=t11 394
def aS:=t12 394
def gf:=t23 "Balanced" 394 393 350 621 629
def gg:=t27 628 632 102 631 640 363 "low" 648 370 "high" 656 377 664 384 "has" 672 391 674 392 675
def gh:=t10 "half" 673
def gi:=t16 "has" "Balanced.has" 26 4 "oddbases.ways" 449 390
def gj:=t5 "has" 665 "Balanced.has" 666 667 116 2 385 386 387 388 389 670 671
def aT:=t17 "has" "Balanced.has" 26 4
def gk:=t9 "self" 668 "number" 669
def gm:=t16 "ratio" "Balanced.ratio" 26 3 "oddbases.ways" 449 383
def gp:=t5 "ratio" 657 "Balanced.ratio" 658 659 113 2 378 379 380 381 382 662 663
def aU:=t17 "ratio" "Balanced.ratio" 26 3
def gq:=t9 "self" 660 "place" 661
def gr:=t16 "high" "Balanced.high" 26 2 "oddbases.ways" 449 376
def gu:=t5 "high" 649 "Balanced.high" 650 651 110 2 371 372 373 374 375 654 655
def aV:=t17 "high" "Balanced.high" 26 2
def gv:=t9 "self" 652 "place" 653
def gw:=t16 "low" "Balanced.low" 26 1 "oddbases.ways" 449 369
def gx:=t5 "low" 641 "Balanced.low" 642 643 107 2 364 365 366 367 368 646 647
def aW:=t17 "low" "Balanced.low" 26 1
def gz:=t9 "self" 644 "place" 645
def gA:=t16 "__init__" "Balanced.__init__" 26 0 "oddbases.ways" 449 362
def gB:=t5 "__init__" 633 "Balanced.__init__" 634 635 104 2 357 358 359 360 361 638 639
def aX:=t17 "__init__" "Balanced.__init__" 26 0
def gC:=t9 "self" 636 "half" 637
def aY:=t18 355 352 "oddbases.ways" 449
def aZ:=t19 "Balanced" 623 624 625 102 353 354 626 627
def a_:=t28 104 362 107 369 110 376 113 383 116 390
def Za:=t29 628 630 "Balanced" 629 632 102 631 640 363 "low" 648 370 "high" 656 377 664 384 "has" 672 391 674 392
def Zb:=t11 347
def Zc:=t12 347
def gE:=t23 "Below" 347 346 310 572 580
def gF (x:Params):Obj:=(@Obj.mk (.type "dict") none (@Data.dict (List.toArray [(e_ x "__module__" 579 (p_ "oddbases.ways" 449)),(e_ x "__firstlineno__" 583 (j_ 89 582)),(e_ x "__init__" 591 (r_ 323)),(e_ x "high" 599 (r_ 330)),(e_ x "ratio" 607 (r_ 337)),(e_ x "has" 615 (r_ 344)),(e_ x "__static_attributes__" 617 (r_ 345)),(e_ x "__doc__" 618 .none)]) 2) #[])
def gG:=t10 "base" 616
def gH:=t16 "has" "Below.has" 25 3 "oddbases.ways" 449 343
def gJ:=t5 "has" 608 "Below.has" 609 610 100 2 338 339 340 341 342 613 614
def Zd:=t17 "has" "Below.has" 25 3
def gK:=t9 "self" 611 "number" 612
def gL:=t16 "ratio" "Below.ratio" 25 2 "oddbases.ways" 449 336
def gM:=t5 "ratio" 600 "Below.ratio" 601 602 97 2 331 332 333 334 335 605 606
def Ze:=t17 "ratio" "Below.ratio" 25 2
def gN:=t9 "self" 603 "place" 604
def gO:=t16 "high" "Below.high" 25 1 "oddbases.ways" 449 329
def gP:=t5 "high" 592 "Below.high" 593 594 94 2 324 325 326 327 328 597 598
def Zf:=t17 "high" "Below.high" 25 1
def gQ:=t9 "self" 595 "place" 596
def gR:=t16 "__init__" "Below.__init__" 25 0 "oddbases.ways" 449 322
def gT:=t5 "__init__" 584 "Below.__init__" 585 586 91 2 317 318 319 320 321 589 590
def Zg:=t17 "__init__" "Below.__init__" 25 0
def gU:=t9 "self" 587 "base" 588
def Zh:=t18 315 312 "oddbases.ways" 449
def Zi:=t19 "Below" 574 575 576 89 313 314 577 578
def Zj:=t20 91 322 94 329 97 336 100 343
def Zk:=t21 579 "oddbases.ways" 449 581 "Below" 580 583 89 582 591 323 "high" 599 330 "ratio" 607 337 "has" 615 344 617 345
def gW:=t11 307
def gX:=t12 307
def nO:=t23 "Plain" 307 306 277 531 539
def nP:=t30 538 542 79 541 550 290 558 297 566 304 568 305 569
def nQ:=t10 "base" 567
def nR:=t16 "ratio" "Plain.ratio" 24 2 "oddbases.ways" 449 303
def nS:=t5 "ratio" 559 "Plain.ratio" 560 561 87 2 298 299 300 301 302 564 565
def gY:=t17 "ratio" "Plain.ratio" 24 2
def nU:=t9 "self" 562 "place" 563
def nV:=t16 "high" "Plain.high" 24 1 "oddbases.ways" 449 296
def nW:=t5 "high" 551 "Plain.high" 552 553 84 2 291 292 293 294 295 556 557
def gZ:=t17 "high" "Plain.high" 24 1
def nX:=t9 "self" 554 "place" 555
def nY:=t16 "__init__" "Plain.__init__" 24 0 "oddbases.ways" 449 289
def nZ:=t5 "__init__" 543 "Plain.__init__" 544 545 81 2 284 285 286 287 288 548 549
def g6:=t17 "__init__" "Plain.__init__" 24 0
def n4:=t9 "self" 546 "base" 547
def g7:=t18 282 279 "oddbases.ways" 449
def g8:=t19 "Plain" 533 534 535 79 280 281 536 537
def g9:=t31 81 289 84 296 87 303
def fb:=t32 538 540 "Plain" 539 542 79 541 550 290 558 297 566 304 568 305
def fc:=t11 272
def fe:=t12 272
def n5:=t13 526 272
def n6:=t14 524 272
def iL (x:Params):Obj:=(@Obj.mk (.type "type") none (@Data.cls (@ClassData.mk (.ofString "Way") [(.type "object")] [(r_ 272),(.type "object")] 271 (.ofString "Way") @Bool.true [] [(r_ 307),(r_ 347),(r_ 394),(r_ 427),(r_ 474),(r_ 528)] @Bool.false (@Option.none @Bool) @Bool.false)) (@List.toArray (@Option @Value) [none,none,(some (p_ "Way" 460)),(some (p_ "Way" 468)),(some (.builtin "object.__new__")),(some (.bool @Bool.true))]))
def n8 (x:Params):Obj:=(@Obj.mk (.type "dict") none (@Data.dict (List.toArray [(e_ x "__module__" 467 (p_ "oddbases.ways" 449)),(e_ x "__firstlineno__" 471 (j_ 57 470)),(e_ x "nought" 478 (r_ 234)),(e_ x "low" 486 (r_ 241)),(e_ x "weights" 494 (r_ 248)),(e_ x "weight" 502 (r_ 255)),(e_ x "split" 514 (r_ 262)),(e_ x "has" 522 (r_ 269)),(e_ x "__static_attributes__" 523 (r_ 270)),(e_ x "__dict__" 525 (r_ 273)),(e_ x "__weakref__" 527 (r_ 274)),(e_ x "__doc__" 528 .none)]) 4) #[])
def n9:=t16 "has" "Way.has" 23 5 "oddbases.ways" 449 268
def n_:=t5 "has" 515 "Way.has" 516 517 77 2 263 264 265 266 267 520 521
def ff:=t17 "has" "Way.has" 23 5
def ma:=t9 "self" 518 "number" 519
def mf:=t16 "split" "Way.split" 23 4 "oddbases.ways" 449 261
def mh:=t5 "split" 503 "Way.split" 504 505 71 3 256 257 258 259 260 512 513
def fg:=t17 "split" "Way.split" 23 4
def mj:=t7 "self" 506 "total" 507 "place" 508 "low" 509 "figures" 510 "figure" 511
def ml:=t16 "weight" "Way.weight" 23 3 "oddbases.ways" 449 254
def mm:=t5 "weight" 495 "Way.weight" 496 497 68 2 249 250 251 252 253 500 501
def fh:=t17 "weight" "Way.weight" 23 3
def mq:=t9 "self" 498 "place" 499
def mr:=t16 "weights" "Way.weights" 23 2 "oddbases.ways" 449 247
def ms:=t5 "weights" 487 "Way.weights" 488 489 65 2 242 243 244 245 246 492 493
def fi:=t17 "weights" "Way.weights" 23 2
def mt:=t9 "self" 490 "many" 491
def mv:=t16 "low" "Way.low" 23 1 "oddbases.ways" 449 240
def mw:=t5 "low" 479 "Way.low" 480 481 62 2 235 236 237 238 239 484 485
def fj:=t17 "low" "Way.low" 23 1
def mx:=t9 "self" 482 "place" 483
def mz:=t16 "nought" "Way.nought" 23 0 "oddbases.ways" 449 233
def mB:=t5 "nought" 472 "Way.nought" 473 474 59 1 228 229 230 231 232 476 477
def fk:=t17 "nought" "Way.nought" 23 0
def mC:=t10 "self" 475
def fm:=t18 226 223 "oddbases.ways" 449
def fo:=t19 "Way" 462 463 464 57 224 225 465 466
def fq:=t24 59 233 62 240 65 247 68 254 71 261 77 268
def ft:=t25 467 469 "Way" 468 471 57 470 "nought" 478 234 "low" 486 241 "weights" 494 248 "weight" 502 255 514 262 522 269 523 270
def mD:=t0 "bounded" 22 "oddbases.ways" 449 219
def mE:=t5 "bounded" 451 "bounded" 452 453 53 3 214 215 216 217 218 457 458
def fu:=t2 "bounded" 22
def mF:=t8 "number" 454 "least" 455 "most" 456
def mG:=t0 "multiplied" 20 "oddbases.pairs" 406 212
def mH:=t5 "multiplied" 439 "multiplied" 440 441 46 2 207 208 209 210 211 446 447
def fv:=t2 "multiplied" 20
def mI:=t6 "one" 442 "other" 443 "left" 444 "right" 445
def mJ:=t0 "added" 19 "oddbases.pairs" 406 205
def mK:=t5 "added" 429 "added" 430 431 40 2 200 201 202 203 204 436 437
def fw:=t2 "added" 19
def mL:=t6 "one" 432 "other" 433 "left" 434 "right" 435
def mM:=t0 "as_pair" 18 "oddbases.pairs" 406 198
def mO:=t5 "as_pair" 422 "as_pair" 423 424 36 1 193 194 195 196 197 426 427
def fA:=t2 "as_pair" 18
def mP:=t10 "number" 425
def mQ:=t0 "is_pair" 17 "oddbases.pairs" 406 191
def mR:=t5 "is_pair" 415 "is_pair" 416 417 34 1 186 187 188 189 190 419 420
def fB:=t2 "is_pair" 17
def mS:=t10 "value" 418
def mT:=t0 "is_whole" 16 "oddbases.pairs" 406 184
def mU:=t5 "is_whole" 408 "is_whole" 409 410 32 1 179 180 181 182 183 412 413
def fC:=t2 "is_whole" 16
def mV:=t10 "value" 411
def fD:=t11 176
def fE:=t12 176
def mW:=t33 "NoRow" 176 175 167 390 398
def mX:=t34 397 401 29 400 402 174 403
def fF:=t18 172 169 "oddbases.errors" 194
def fG:=t19 "NoRow" 392 393 394 29 170 171 395 396
def fH:=t35 397 399 "NoRow" 398 401 29 400 402 174
def zz:=t26 31
def fI:=t11 164
def fJ:=t12 164
def mZ:=t33 "NoText" 164 163 155 374 382
def m6:=t34 381 385 27 384 386 162 387
def fK:=t18 160 157 "oddbases.errors" 194
def fL:=t19 "NoText" 376 377 378 27 158 159 379 380
def fM:=t35 381 383 "NoText" 382 385 27 384 386 162
def fN:=t11 152
def fO:=t12 152
def m7:=t33 "NoTotal" 152 151 143 358 366
def m8:=t34 365 369 25 368 370 150 371
def fP:=t18 148 145 "oddbases.errors" 194
def fQ:=t19 "NoTotal" 360 361 362 25 146 147 363 364
def fR:=t35 365 367 "NoTotal" 366 369 25 368 370 150
def fS:=t11 140
def fT:=t12 140
def m9:=t33 "NoSpan" 140 139 131 342 350
def m_:=t34 349 353 23 352 354 138 355
def fU:=t18 136 133 "oddbases.errors" 194
def fV:=t19 "NoSpan" 344 345 346 23 134 135 347 348
def fW:=t35 349 351 "NoSpan" 350 353 23 352 354 138
def lc:=t11 128
def lh:=t12 128
def oE:=t33 "Nought" 128 127 119 326 334
def oF:=t34 333 337 21 336 338 126 339
def lj:=t18 124 121 "oddbases.errors" 194
def ll:=t19 "Nought" 328 329 330 21 122 123 331 332
def lm:=t35 333 335 "Nought" 334 337 21 336 338 126
def ln:=t11 116
def lp:=t12 116
def oG:=t33 "NoPairs" 116 115 107 310 318
def oH:=t34 317 321 19 320 322 114 323
def lq:=t18 112 109 "oddbases.errors" 194
def ls:=t19 "NoPairs" 312 313 314 19 110 111 315 316
def lu:=t35 317 319 "NoPairs" 318 321 19 320 322 114
def lv:=t11 104
def lw:=t12 104
def oI:=t33 "NoFalling" 104 103 95 294 302
def oJ:=t34 301 305 17 304 306 102 307
def lx:=t18 100 97 "oddbases.errors" 194
def ly:=t19 "NoFalling" 296 297 298 17 98 99 299 300
def lz:=t35 301 303 "NoFalling" 302 305 17 304 306 102
def lA:=t11 92
def lB:=t12 92
def oK:=t33 "NoRatio" 92 91 83 278 286
def oM:=t34 285 289 15 288 290 90 291
def lC:=t18 88 85 "oddbases.errors" 194
def lD:=t19 "NoRatio" 280 281 282 15 86 87 283 284
def lE:=t35 285 287 "NoRatio" 286 289 15 288 290 90
def lG:=t11 80
def lH:=t12 80
def oN:=t33 "TooLess" 80 79 71 262 270
def oO:=t34 269 273 13 272 274 78 275
def lI:=t18 76 73 "oddbases.errors" 194
def lJ:=t19 "TooLess" 264 265 266 13 74 75 267 268
def lK:=t35 269 271 "TooLess" 270 273 13 272 274 78
def lM:=t11 68
def lN:=t12 68
def oP:=t33 "NoWriting" 68 67 59 246 254
def oQ:=t34 253 257 11 256 258 66 259
def lO:=t18 64 61 "oddbases.errors" 194
def lP:=t19 "NoWriting" 248 249 250 11 62 63 251 252
def lQ:=t35 253 255 "NoWriting" 254 257 11 256 258 66
def lS:=t11 56
def o99:=t12 56
def o98:=t33 "NoNumber" 56 55 47 230 238
def o97:=t34 237 241 9 240 242 54 243
def o95:=t18 52 49 "oddbases.errors" 194
def o94:=t19 "NoNumber" 232 233 234 9 50 51 235 236
def o91:=t35 237 239 "NoNumber" 238 241 9 240 242 54
def o85:=t11 44
def o84:=t12 44
def o83:=t33 "NoWay" 44 43 35 214 222
def o82:=t34 221 225 7 224 226 42 227
def o80:=t18 40 37 "oddbases.errors" 194
def o79:=t19 "NoWay" 216 217 218 7 38 39 219 220
def o76:=t35 221 223 "NoWay" 222 225 7 224 226 42
def o70:=t11 31
def o69:=t12 31
def o68:=t13 209 31
def mY (x:Params):Obj:=(@Obj.mk (.type "type") none (@Data.cls (@ClassData.mk (.ofString "OddError") [(.type "ValueError")] [(r_ 31),(.type "ValueError"),(.type "Exception"),(.type "BaseException"),(.type "object")] 30 (.ofString "OddError") @Bool.true [] [(r_ 44),(r_ 56),(r_ 68),(r_ 80),(r_ 92),(r_ 104),(r_ 116),(r_ 128),(r_ 140),(r_ 152),(r_ 164),(r_ 176)] @Bool.false (@Option.none @Bool) @Bool.false)) (@List.toArray (@Option @Value) [(some (r_ 22)),none,(some (p_ "OddError" 196)),(some (p_ "OddError" 204)),(some (.builtin "ValueError.__new__")),(some (.bool @Bool.true))]))
def o66 (x:Params):Obj:=(@Obj.mk (.type "dict") none (@Data.dict (List.toArray [(e_ x "__module__" 203 (p_ "oddbases.errors" 194)),(e_ x "__firstlineno__" 207 (j_ 5 206)),(e_ x "__static_attributes__" 208 (r_ 29)),(e_ x "__weakref__" 210 (r_ 32)),(e_ x "__doc__" 211 .none)]) 3) #[])
def o64:=t18 27 24 "oddbases.errors" 194
def o63:=t19 "OddError" 198 199 200 5 25 26 201 202
def o60:=t35 203 205 "OddError" 204 207 5 206 208 29
def o58 (x:Params):Obj:=(@Obj.mk (.type "tuple") none (@Data.seq (List.toArray [(.type "ValueError")]) 0) #[])
def o57:=t0 "_wall" 0 "__main__" 164 20
def o56:=t5 "_wall" 187 "_wall" 188 189 1 1 15 16 17 18 19 191 192
def o55:=t2 "_wall" 0
def o53:=t10 "k" 190
def o46:=t18 13 3 "__main__" 164
def o45:=t19 "<module>" 182 183 184 1 11 12 185 186
def YI (x:Params):Obj:=(@Obj.mk .none none (@Data.fields (List.toArray ((j_ 1 0)::(j_ 0 0)::(r_ 20)::(j_ 5 0)::(j_ 0 0)::(r_ 27)::(j_ 7 0)::(j_ 0 0)::(r_ 40)::(j_ 9 0)::(j_ 0 0)::(r_ 52)::(j_ 11 0)::(j_ 0 0)::(r_ 64)::(j_ 13 0)::(j_ 0 0)::(r_ 76)::(j_ 15 0)::(j_ 0 0)::(r_ 88)::(j_ 17 0)::(j_ 0 0)::(r_ 100)::(j_ 19 0)::(j_ 0 0)::(r_ 112)::(j_ 21 0)::(j_ 0 0)::(r_ 124)::(j_ 23 0)::(j_ 0 0)::(r_ 136)::(j_ 25 0)::(j_ 0 0)::(r_ 148)::(j_ 27 0)::(j_ 0 0)::(r_ 160)::(j_ 29 0)::(j_ 0 0)::(r_ 172)::(j_ 32 0)::(j_ 0 0)::(r_ 184)::(j_ 34 0)::(j_ 0 0)::(r_ 191)::(j_ 36 0)::(j_ 0 0)::(r_ 198)::(j_ 40 0)::(j_ 0 0)::(r_ 205)::(j_ 46 0)::(j_ 0 0)::(r_ 212)::(j_ 53 0)::(j_ 0 0)::(r_ 219)::(j_ 57 0)::(j_ 0 0)::(r_ 226)::(j_ 79 0)::(j_ 0 0)::(r_ 282)::(j_ 89 0)::(j_ 0 0)::(r_ 315)::(j_ 102 0)::(j_ 0 0)::(r_ 355)::(j_ 118 0)::(j_ 0 0)::(r_ 402)::(j_ 128 0)::(j_ 0 0)::(r_ 435)::(j_ 144 0)::(j_ 0 0)::(r_ 482)::(j_ 168 0)::(j_ 0 0)::(r_ 536)::(j_ 172 0)::(j_ 0 0)::(r_ 543)::(j_ 175 0)::(j_ 0 0)::(r_ 550)::(j_ 179 0)::(j_ 0 0)::(r_ 557)::(j_ 194 0)::(j_ 0 0)::(r_ 564)::(j_ 199 0)::(j_ 0 0)::(r_ 571)::(j_ 226 0)::(j_ 0 0)::(r_ 613)::(j_ 230 0)::(j_ 0 0)::(r_ 620)::(j_ 234 0)::(j_ 0 0)::(r_ 627)::(j_ 242 0)::(j_ 0 0)::(r_ 634)::(j_ 250 0)::(j_ 0 0)::(r_ 641)::(j_ 254 0)::(j_ 0 0)::(r_ 648)::(j_ 260 0)::(j_ 0 0)::(r_ 655)::(j_ 268 0)::(j_ 0 0)::(r_ 662)::(j_ 276 0)::(j_ 0 0)::(r_ 669)::(j_ 281 0)::(j_ 0 0)::(r_ 676)::(j_ 291 0)::(j_ 0 0)::(r_ 683)::(j_ 296 0)::(j_ 0 0)::(r_ 690)::(j_ 306 0)::(j_ 0 0)::(r_ 695)::(j_ 315 0)::(j_ 0 0)::(r_ 702)::(j_ 322 0)::(j_ 0 0)::(r_ 707)::[]))) #[])
def cT (x:Params):Obj:=(@Obj.mk (.type "dict") none (@Data.dict (List.toArray [(e_ x "__name__" 165 (p_ "law_oddbases_k47_machine_reads" 957)),(U15 x),(U5 x),(U0 x),(U14 x),(U2 x),(U3 x),(U1 x),(U7 x),(U16 x),(U8 x),(U17 x),(U9 x),(U6 x),(U11 x),(U12 x),(U4 x),(U10 x),(U13 x),(e_ x "NoSpan" 357 (r_ 140)),(e_ x "NoTotal" 373 (r_ 152)),(e_ x "NoText" 389 (r_ 164)),(e_ x "NoRow" 405 (r_ 176)),(e_ x "is_whole" 414 (r_ 185)),(e_ x "is_pair" 421 (r_ 192)),(e_ x "as_pair" 428 (r_ 199)),(e_ x "added" 438 (r_ 206)),(e_ x "multiplied" 448 (r_ 213)),(e_ x "bounded" 459 (r_ 220)),(e_ x "Way" 530 (r_ 272)),(e_ x "Plain" 571 (r_ 307)),(e_ x "Below" 620 (r_ 347)),(e_ x "Balanced" 677 (r_ 394)),(e_ x "Growing" 718 (r_ 427)),(e_ x "Falling" 776 (r_ 474)),(e_ x "Pairs" 845 (r_ 528)),(e_ x "farthest_total" 854 (r_ 537)),(e_ x "held_to_have_one_ratio" 861 (r_ 544)),(e_ x "held_to_be_a_span" 871 (r_ 551)),(e_ x "carries_and_rows" 887 (r_ 558)),(e_ x "leads_of" 896 (r_ 565)),(e_ x "Machine" 956 (r_ 603)),(e_ x "_law_cell_at" 966 (r_ 614)),(e_ x "_law_added" 974 (r_ 621)),(e_ x "_law_times" 983 (r_ 628)),(e_ x "_law_is_figure" 992 (r_ 635)),(e_ x "_law_nought" 999 (r_ 642)),(e_ x "_law_is_number" 1007 (r_ 649)),(e_ x "_law_way" 1015 (r_ 656)),(e_ x "_law_chosen" 1024 (r_ 663)),(e_ x "_law_span" 1034 (r_ 670)),(e_ x "_law_by_rows" 1049 (r_ 677)),(e_ x "_law_high" 1061 (r_ 684)),(e_ x "_law_read" 1073 (r_ 691)),(e_ x "_law_names" 1079 (r_ 696)),(e_ x "_law_refused" 1089 (r_ 703)),(e_ x "law" 1095 (r_ 708))]) 57) #[])
def Wu (x:Params):Obj:=(@Obj.mk .none none (@Data.fields (List.toArray ((j_ 1 0)::(j_ 0 0)::(r_ 20)::(j_ 5 0)::(j_ 0 0)::(r_ 27)::(j_ 7 0)::(j_ 0 0)::(r_ 40)::(j_ 9 0)::(j_ 0 0)::(r_ 52)::(j_ 11 0)::(j_ 0 0)::(r_ 64)::(j_ 13 0)::(j_ 0 0)::(r_ 76)::(j_ 15 0)::(j_ 0 0)::(r_ 88)::(j_ 17 0)::(j_ 0 0)::(r_ 100)::(j_ 19 0)::(j_ 0 0)::(r_ 112)::(j_ 21 0)::(j_ 0 0)::(r_ 124)::(j_ 23 0)::(j_ 0 0)::(r_ 136)::(j_ 25 0)::(j_ 0 0)::(r_ 148)::(j_ 27 0)::(j_ 0 0)::(r_ 160)::(j_ 29 0)::(j_ 0 0)::(r_ 172)::(j_ 32 0)::(j_ 0 0)::(r_ 184)::(j_ 34 0)::(j_ 0 0)::(r_ 191)::(j_ 36 0)::(j_ 0 0)::(r_ 198)::(j_ 40 0)::(j_ 0 0)::(r_ 205)::(j_ 46 0)::(j_ 0 0)::(r_ 212)::(j_ 53 0)::(j_ 0 0)::(r_ 219)::(j_ 57 0)::(j_ 0 0)::(r_ 226)::(j_ 79 0)::(j_ 0 0)::(r_ 282)::(j_ 89 0)::(j_ 0 0)::(r_ 315)::(j_ 102 0)::(j_ 0 0)::(r_ 355)::(j_ 118 0)::(j_ 0 0)::(r_ 402)::(j_ 128 0)::(j_ 0 0)::(r_ 435)::(j_ 144 0)::(j_ 0 0)::(r_ 482)::(j_ 168 0)::(j_ 0 0)::(r_ 536)::(j_ 172 0)::(j_ 0 0)::(r_ 543)::(j_ 175 0)::(j_ 0 0)::(r_ 550)::(j_ 179 0)::(j_ 0 0)::(r_ 557)::(j_ 194 0)::(j_ 0 0)::(r_ 564)::[]))) #[])
def Wv (x:Params):Obj:=(@Obj.mk (.type "dict") none (@Data.dict (List.toArray [(e_ x "__name__" 165 (p_ "oddbases.machines" 846)),(U15 x),(U5 x),(U0 x),(U14 x),(U2 x),(U3 x),(U1 x),(U7 x),(U16 x),(U8 x),(U17 x),(U9 x),(U6 x),(U11 x),(U12 x),(U4 x),(U10 x),(U13 x),(e_ x "NoSpan" 357 (r_ 140)),(e_ x "NoTotal" 373 (r_ 152)),(e_ x "NoText" 389 (r_ 164)),(e_ x "NoRow" 405 (r_ 176)),(e_ x "is_whole" 414 (r_ 185)),(e_ x "is_pair" 421 (r_ 192)),(e_ x "as_pair" 428 (r_ 199)),(e_ x "added" 438 (r_ 206)),(e_ x "multiplied" 448 (r_ 213)),(e_ x "bounded" 459 (r_ 220)),(e_ x "Way" 530 (r_ 272)),(e_ x "Plain" 571 (r_ 307)),(e_ x "Below" 620 (r_ 347)),(e_ x "Balanced" 677 (r_ 394)),(e_ x "Growing" 718 (r_ 427)),(e_ x "Falling" 776 (r_ 474)),(e_ x "Pairs" 845 (r_ 528)),(e_ x "farthest_total" 854 (r_ 537)),(e_ x "held_to_have_one_ratio" 861 (r_ 544)),(e_ x "held_to_be_a_span" 871 (r_ 551)),(e_ x "carries_and_rows" 887 (r_ 558)),(e_ x "leads_of" 896 (r_ 565))]) 41) #[])
def Wx (x:Params):Obj:=(@Obj.mk .none none (@Data.fields (List.toArray ((j_ 1 0)::(j_ 0 0)::(r_ 20)::(j_ 5 0)::(j_ 0 0)::(r_ 27)::(j_ 7 0)::(j_ 0 0)::(r_ 40)::(j_ 9 0)::(j_ 0 0)::(r_ 52)::(j_ 11 0)::(j_ 0 0)::(r_ 64)::(j_ 13 0)::(j_ 0 0)::(r_ 76)::(j_ 15 0)::(j_ 0 0)::(r_ 88)::(j_ 17 0)::(j_ 0 0)::(r_ 100)::(j_ 19 0)::(j_ 0 0)::(r_ 112)::(j_ 21 0)::(j_ 0 0)::(r_ 124)::(j_ 23 0)::(j_ 0 0)::(r_ 136)::(j_ 25 0)::(j_ 0 0)::(r_ 148)::(j_ 27 0)::(j_ 0 0)::(r_ 160)::(j_ 29 0)::(j_ 0 0)::(r_ 172)::(j_ 32 0)::(j_ 0 0)::(r_ 184)::(j_ 34 0)::(j_ 0 0)::(r_ 191)::(j_ 36 0)::(j_ 0 0)::(r_ 198)::(j_ 40 0)::(j_ 0 0)::(r_ 205)::(j_ 46 0)::(j_ 0 0)::(r_ 212)::(j_ 53 0)::(j_ 0 0)::(r_ 219)::(j_ 57 0)::(j_ 0 0)::(r_ 226)::(j_ 79 0)::(j_ 0 0)::(r_ 282)::[]))) #[])
def Ww (x:Params):Obj:=(@Obj.mk (.type "type") none (@Data.cls (@ClassData.mk (.ofString "Way") [(.type "object")] [(r_ 272),(.type "object")] 271 (.ofString "Way") @Bool.true [] [(r_ 307)] @Bool.false (@Option.none @Bool) @Bool.false)) (@List.toArray (@Option @Value) [none,none,(some (p_ "Way" 460)),(some (p_ "Way" 468)),(some (.builtin "object.__new__")),(some (.bool @Bool.true))]))
def Wy (x:Params):Obj:=(@Obj.mk (.type "dict") none (@Data.dict (List.toArray [(e_ x "__name__" 165 (p_ "oddbases.ways" 449)),(U15 x),(U5 x),(U0 x),(U14 x),(U2 x),(U3 x),(U1 x),(U7 x),(U16 x),(U8 x),(U17 x),(U9 x),(U6 x),(U11 x),(U12 x),(U4 x),(U10 x),(U13 x),(e_ x "NoSpan" 357 (r_ 140)),(e_ x "NoTotal" 373 (r_ 152)),(e_ x "NoText" 389 (r_ 164)),(e_ x "NoRow" 405 (r_ 176)),(e_ x "is_whole" 414 (r_ 185)),(e_ x "is_pair" 421 (r_ 192)),(e_ x "as_pair" 428 (r_ 199)),(e_ x "added" 438 (r_ 206)),(e_ x "multiplied" 448 (r_ 213)),(e_ x "bounded" 459 (r_ 220)),(e_ x "Way" 530 (r_ 272)),(e_ x "Plain" 571 (r_ 307))]) 31) #[])
def WA (x:Params):Obj:=(@Obj.mk .none none (@Data.fields (List.toArray [(j_ 1 0),(j_ 0 0),(r_ 20),(j_ 5 0),(j_ 0 0),(r_ 27),(j_ 7 0),(j_ 0 0),(r_ 40),(j_ 9 0),(j_ 0 0),(r_ 52),(j_ 11 0),(j_ 0 0),(r_ 64),(j_ 13 0),(j_ 0 0),(r_ 76),(j_ 15 0),(j_ 0 0),(r_ 88),(j_ 17 0),(j_ 0 0),(r_ 100),(j_ 19 0),(j_ 0 0),(r_ 112),(j_ 21 0),(j_ 0 0),(r_ 124)])) #[])
def Wz (x:Params):Obj:=(@Obj.mk (.type "type") none (@Data.cls (@ClassData.mk (.ofString "OddError") [(.type "ValueError")] [(r_ 31),(.type "ValueError"),(.type "Exception"),(.type "BaseException"),(.type "object")] 30 (.ofString "OddError") @Bool.true [] [(r_ 44),(r_ 56),(r_ 68),(r_ 80),(r_ 92),(r_ 104),(r_ 116),(r_ 128)] @Bool.false (@Option.none @Bool) @Bool.false)) (@List.toArray (@Option @Value) [(some (r_ 22)),none,(some (p_ "OddError" 196)),(some (p_ "OddError" 204)),(some (.builtin "ValueError.__new__")),(some (.bool @Bool.true))]))
def WB (x:Params):Obj:=(@Obj.mk (.type "dict") none (@Data.dict (List.toArray [(e_ x "__name__" 165 (p_ "oddbases.errors" 194)),(U15 x),(U5 x),(U0 x),(U14 x),(U2 x),(U3 x),(U1 x),(U7 x),(U16 x),(U8 x),(U17 x),(U9 x),(U6 x),(U11 x),(U12 x),(U4 x),(U10 x),(U13 x)]) 19) #[])
abbrev Y6:=N_ zg (L_ za) Z_
abbrev Y5:=N_ zg (L_ zg) Z_
abbrev Y4:=N_ za (L_ za) Z_
abbrev Y3:=N_ za (L_ zg) Z_
abbrev Y2:=N_ za (L_ za) (L_ zg)
abbrev Y1:=N_ zg (L_ za) (L_ zg)
abbrev Y0:=N_ za Y4 (L_ zg)
def myAs:List Nat:=((nat_lit 2)::(nat_lit 3)::(nat_lit 15)::(nat_lit 17)::(nat_lit 18)::(nat_lit 20)::(nat_lit 21)::(nat_lit 22)::(nat_lit 29)::(nat_lit 30)::(nat_lit 31)::(nat_lit 32)::(nat_lit 35)::(nat_lit 42)::(nat_lit 43)::(nat_lit 44)::(nat_lit 47)::(nat_lit 54)::(nat_lit 55)::(nat_lit 56)::(nat_lit 59)::(nat_lit 66)::(nat_lit 67)::(nat_lit 68)::(nat_lit 71)::(nat_lit 78)::(nat_lit 79)::(nat_lit 80)::(nat_lit 83)::(nat_lit 90)::(nat_lit 91)::(nat_lit 92)::(nat_lit 95)::(nat_lit 102)::(nat_lit 103)::(nat_lit 104)::(nat_lit 107)::(nat_lit 114)::(nat_lit 115)::(nat_lit 116)::(nat_lit 119)::(nat_lit 126)::(nat_lit 127)::(nat_lit 128)::(nat_lit 131)::(nat_lit 138)::(nat_lit 139)::(nat_lit 140)::(nat_lit 143)::(nat_lit 150)::(nat_lit 151)::(nat_lit 152)::(nat_lit 155)::(nat_lit 162)::(nat_lit 163)::(nat_lit 164)::(nat_lit 167)::(nat_lit 174)::(nat_lit 175)::(nat_lit 176)::(nat_lit 179)::(nat_lit 181)::(nat_lit 182)::(nat_lit 184)::(nat_lit 185)::(nat_lit 186)::(nat_lit 188)::(nat_lit 189)::(nat_lit 191)::(nat_lit 192)::(nat_lit 193)::(nat_lit 195)::(nat_lit 196)::(nat_lit 198)::(nat_lit 199)::(nat_lit 200)::(nat_lit 202)::(nat_lit 203)::(nat_lit 205)::(nat_lit 206)::(nat_lit 207)::(nat_lit 209)::(nat_lit 210)::(nat_lit 212)::(nat_lit 213)::(nat_lit 214)::(nat_lit 216)::(nat_lit 217)::(nat_lit 219)::(nat_lit 220)::(nat_lit 228)::(nat_lit 230)::(nat_lit 231)::(nat_lit 233)::(nat_lit 234)::(nat_lit 235)::(nat_lit 237)::(nat_lit 238)::(nat_lit 240)::(nat_lit 241)::(nat_lit 242)::(nat_lit 244)::(nat_lit 245)::(nat_lit 247)::(nat_lit 248)::(nat_lit 249)::(nat_lit 251)::(nat_lit 252)::(nat_lit 254)::(nat_lit 255)::(nat_lit 256)::(nat_lit 258)::(nat_lit 259)::(nat_lit 261)::(nat_lit 262)::(nat_lit 263)::(nat_lit 265)::(nat_lit 266)::(nat_lit 268)::(nat_lit 269)::(nat_lit 270)::(nat_lit 271)::(nat_lit 272)::(nat_lit 273)::(nat_lit 274)::(nat_lit 277)::(nat_lit 284)::(nat_lit 286)::(nat_lit 287)::(nat_lit 289)::(nat_lit 290)::(nat_lit 291)::(nat_lit 293)::(nat_lit 294)::(nat_lit 296)::(nat_lit 297)::(nat_lit 298)::(nat_lit 300)::(nat_lit 301)::(nat_lit 303)::(nat_lit 304)::(nat_lit 305)::(nat_lit 306)::(nat_lit 307)::(nat_lit 310)::(nat_lit 317)::(nat_lit 319)::(nat_lit 320)::(nat_lit 322)::(nat_lit 323)::(nat_lit 324)::(nat_lit 326)::(nat_lit 327)::(nat_lit 329)::(nat_lit 330)::(nat_lit 331)::(nat_lit 333)::(nat_lit 334)::(nat_lit 336)::(nat_lit 337)::(nat_lit 338)::(nat_lit 340)::(nat_lit 341)::(nat_lit 343)::(nat_lit 344)::(nat_lit 345)::(nat_lit 346)::(nat_lit 347)::(nat_lit 350)::(nat_lit 357)::(nat_lit 359)::(nat_lit 360)::(nat_lit 362)::(nat_lit 363)::(nat_lit 364)::(nat_lit 366)::(nat_lit 367)::(nat_lit 369)::(nat_lit 370)::(nat_lit 371)::(nat_lit 373)::(nat_lit 374)::(nat_lit 376)::(nat_lit 377)::(nat_lit 378)::(nat_lit 380)::(nat_lit 381)::(nat_lit 383)::(nat_lit 384)::(nat_lit 385)::(nat_lit 387)::(nat_lit 388)::(nat_lit 390)::(nat_lit 391)::(nat_lit 392)::(nat_lit 393)::(nat_lit 394)::(nat_lit 397)::(nat_lit 404)::(nat_lit 406)::(nat_lit 407)::(nat_lit 409)::(nat_lit 410)::(nat_lit 411)::(nat_lit 413)::(nat_lit 414)::(nat_lit 416)::(nat_lit 417)::(nat_lit 418)::(nat_lit 420)::(nat_lit 421)::(nat_lit 423)::(nat_lit 424)::(nat_lit 425)::(nat_lit 426)::(nat_lit 427)::(nat_lit 430)::(nat_lit 437)::(nat_lit 439)::(nat_lit 440)::(nat_lit 442)::(nat_lit 443)::(nat_lit 444)::(nat_lit 446)::(nat_lit 447)::(nat_lit 449)::(nat_lit 450)::(nat_lit 451)::(nat_lit 453)::(nat_lit 454)::(nat_lit 456)::(nat_lit 457)::(nat_lit 458)::(nat_lit 460)::(nat_lit 461)::(nat_lit 463)::(nat_lit 464)::(nat_lit 465)::(nat_lit 467)::(nat_lit 468)::(nat_lit 470)::(nat_lit 471)::(nat_lit 472)::(nat_lit 473)::(nat_lit 474)::(nat_lit 477)::(nat_lit 484)::(nat_lit 486)::(nat_lit 487)::(nat_lit 489)::(nat_lit 490)::(nat_lit 491)::(nat_lit 493)::(nat_lit 494)::(nat_lit 496)::(nat_lit 497)::(nat_lit 498)::(nat_lit 500)::(nat_lit 501)::(nat_lit 503)::(nat_lit 504)::(nat_lit 505)::(nat_lit 507)::(nat_lit 508)::(nat_lit 510)::(nat_lit 511)::(nat_lit 512)::(nat_lit 514)::(nat_lit 515)::(nat_lit 517)::(nat_lit 518)::(nat_lit 519)::(nat_lit 521)::(nat_lit 522)::(nat_lit 524)::(nat_lit 525)::(nat_lit 526)::(nat_lit 527)::(nat_lit 528)::(nat_lit 531)::(nat_lit 533)::(nat_lit 534)::(nat_lit 536)::(nat_lit 537)::(nat_lit 538)::(nat_lit 540)::(nat_lit 541)::(nat_lit 543)::(nat_lit 544)::(nat_lit 545)::(nat_lit 547)::(nat_lit 548)::(nat_lit 550)::(nat_lit 551)::(nat_lit 552)::(nat_lit 554)::(nat_lit 555)::(nat_lit 557)::(nat_lit 558)::(nat_lit 559)::(nat_lit 561)::(nat_lit 562)::(nat_lit 564)::(nat_lit 565)::(nat_lit 573)::(nat_lit 575)::(nat_lit 576)::(nat_lit 578)::(nat_lit 579)::(nat_lit 580)::(nat_lit 582)::(nat_lit 583)::(nat_lit 585)::(nat_lit 586)::(nat_lit 587)::(nat_lit 589)::(nat_lit 590)::(nat_lit 592)::(nat_lit 593)::(nat_lit 594)::(nat_lit 596)::(nat_lit 597)::(nat_lit 599)::(nat_lit 600)::(nat_lit 601)::(nat_lit 602)::(nat_lit 603)::(nat_lit 604)::(nat_lit 605)::(nat_lit 608)::(nat_lit 610)::(nat_lit 611)::(nat_lit 613)::(nat_lit 614)::(nat_lit 615)::(nat_lit 617)::(nat_lit 618)::(nat_lit 620)::(nat_lit 621)::(nat_lit 622)::(nat_lit 624)::(nat_lit 625)::(nat_lit 627)::(nat_lit 628)::(nat_lit 629)::(nat_lit 631)::(nat_lit 632)::(nat_lit 634)::(nat_lit 635)::(nat_lit 636)::(nat_lit 638)::(nat_lit 639)::(nat_lit 641)::(nat_lit 642)::(nat_lit 643)::(nat_lit 645)::(nat_lit 646)::(nat_lit 648)::(nat_lit 649)::(nat_lit 650)::(nat_lit 652)::(nat_lit 653)::(nat_lit 655)::(nat_lit 656)::(nat_lit 657)::(nat_lit 659)::(nat_lit 660)::(nat_lit 662)::(nat_lit 663)::(nat_lit 664)::(nat_lit 666)::(nat_lit 667)::(nat_lit 669)::(nat_lit 670)::(nat_lit 671)::(nat_lit 673)::(nat_lit 674)::(nat_lit 676)::(nat_lit 677)::(nat_lit 678)::(nat_lit 680)::(nat_lit 681)::(nat_lit 683)::(nat_lit 684)::(nat_lit 685)::(nat_lit 687)::(nat_lit 688)::(nat_lit 690)::(nat_lit 691)::(nat_lit 692)::(nat_lit 695)::(nat_lit 696)::(nat_lit 697)::(nat_lit 699)::(nat_lit 700)::(nat_lit 702)::(nat_lit 703)::(nat_lit 704)::(nat_lit 707)::(nat_lit 708)::[])
def h_heap_39:PySem.Params→PySem.W.Frag:=fun x=>
(nat_lit 2,(@W.boot_o_2 x))::
(nat_lit 3,(cT x))::
(nat_lit 15,(za x))::
(nat_lit 17,(o53 x))::
(nat_lit 18,(za x))::
(nat_lit 20,(o56 x))::
(nat_lit 21,(o57 x))::
(nat_lit 22,(o58 x))::
(nat_lit 29,(za x))::
(nat_lit 30,(o66 x))::
(nat_lit 31,(mY x))::
(nat_lit 32,(o68 x))::
(nat_lit 35,(zz x))::
(nat_lit 42,(za x))::
(nat_lit 43,(o82 x))::
(nat_lit 44,(o83 x))::
(nat_lit 47,(zz x))::
(nat_lit 54,(za x))::
(nat_lit 55,(o97 x))::
(nat_lit 56,(o98 x))::
(nat_lit 59,(zz x))::
(nat_lit 66,(za x))::
(nat_lit 67,(oQ x))::
(nat_lit 68,(oP x))::
(nat_lit 71,(zz x))::
(nat_lit 78,(za x))::
(nat_lit 79,(oO x))::
(nat_lit 80,(oN x))::
(nat_lit 83,(zz x))::
(nat_lit 90,(za x))::
(nat_lit 91,(oM x))::
(nat_lit 92,(oK x))::
(nat_lit 95,(zz x))::
(nat_lit 102,(za x))::
(nat_lit 103,(oJ x))::
(nat_lit 104,(oI x))::
(nat_lit 107,(zz x))::
(nat_lit 114,(za x))::
(nat_lit 115,(oH x))::
(nat_lit 116,(oG x))::
(nat_lit 119,(zz x))::
(nat_lit 126,(za x))::
(nat_lit 127,(oF x))::
(nat_lit 128,(oE x))::
(nat_lit 131,(zz x))::
(nat_lit 138,(za x))::
(nat_lit 139,(m_ x))::
(nat_lit 140,(m9 x))::
(nat_lit 143,(zz x))::
(nat_lit 150,(za x))::
(nat_lit 151,(m8 x))::
(nat_lit 152,(m7 x))::
(nat_lit 155,(zz x))::
(nat_lit 162,(za x))::
(nat_lit 163,(m6 x))::
(nat_lit 164,(mZ x))::
(nat_lit 167,(zz x))::
(nat_lit 174,(za x))::
(nat_lit 175,(mX x))::
(nat_lit 176,(mW x))::
(nat_lit 179,(za x))::
(nat_lit 181,(mV x))::
(nat_lit 182,(za x))::
(nat_lit 184,(mU x))::
(nat_lit 185,(mT x))::
(nat_lit 186,(za x))::
(nat_lit 188,(mS x))::
(nat_lit 189,(za x))::
(nat_lit 191,(mR x))::
(nat_lit 192,(mQ x))::
(nat_lit 193,(za x))::
(nat_lit 195,(mP x))::
(nat_lit 196,(za x))::
(nat_lit 198,(mO x))::
(nat_lit 199,(mM x))::
(nat_lit 200,(za x))::
(nat_lit 202,(mL x))::
(nat_lit 203,(za x))::
(nat_lit 205,(mK x))::
(nat_lit 206,(mJ x))::
(nat_lit 207,(za x))::
(nat_lit 209,(mI x))::
(nat_lit 210,(za x))::
(nat_lit 212,(mH x))::
(nat_lit 213,(mG x))::
(nat_lit 214,(za x))::
(nat_lit 216,(mF x))::
(nat_lit 217,(za x))::
(nat_lit 219,(mE x))::
(nat_lit 220,(mD x))::
(nat_lit 228,(za x))::
(nat_lit 230,(mC x))::
(nat_lit 231,(za x))::
(nat_lit 233,(mB x))::
(nat_lit 234,(mz x))::
(nat_lit 235,(za x))::
(nat_lit 237,(mx x))::
(nat_lit 238,(za x))::
(nat_lit 240,(mw x))::
(nat_lit 241,(mv x))::
(nat_lit 242,(za x))::
(nat_lit 244,(mt x))::
(nat_lit 245,(za x))::
(nat_lit 247,(ms x))::
(nat_lit 248,(mr x))::
(nat_lit 249,(za x))::
(nat_lit 251,(mq x))::
(nat_lit 252,(za x))::
(nat_lit 254,(mm x))::
(nat_lit 255,(ml x))::
(nat_lit 256,(za x))::
(nat_lit 258,(mj x))::
(nat_lit 259,(za x))::
(nat_lit 261,(mh x))::
(nat_lit 262,(mf x))::
(nat_lit 263,(za x))::
(nat_lit 265,(ma x))::
(nat_lit 266,(za x))::
(nat_lit 268,(n_ x))::
(nat_lit 269,(n9 x))::
(nat_lit 270,(za x))::
(nat_lit 271,(n8 x))::
(nat_lit 272,(iL x))::
(nat_lit 273,(n6 x))::
(nat_lit 274,(n5 x))::
(nat_lit 277,(yp x))::
(nat_lit 284,(za x))::
(nat_lit 286,(n4 x))::
(nat_lit 287,(za x))::
(nat_lit 289,(nZ x))::
(nat_lit 290,(nY x))::
(nat_lit 291,(za x))::
(nat_lit 293,(nX x))::
(nat_lit 294,(za x))::
(nat_lit 296,(nW x))::
(nat_lit 297,(nV x))::
(nat_lit 298,(za x))::
(nat_lit 300,(nU x))::
(nat_lit 301,(za x))::
(nat_lit 303,(nS x))::
(nat_lit 304,(nR x))::
(nat_lit 305,(nQ x))::
(nat_lit 306,(nP x))::
(nat_lit 307,(nO x))::
(nat_lit 310,(yp x))::
(nat_lit 317,(za x))::
(nat_lit 319,(gU x))::
(nat_lit 320,(za x))::
(nat_lit 322,(gT x))::
(nat_lit 323,(gR x))::
(nat_lit 324,(za x))::
(nat_lit 326,(gQ x))::
(nat_lit 327,(za x))::
(nat_lit 329,(gP x))::
(nat_lit 330,(gO x))::
(nat_lit 331,(za x))::
(nat_lit 333,(gN x))::
(nat_lit 334,(za x))::
(nat_lit 336,(gM x))::
(nat_lit 337,(gL x))::
(nat_lit 338,(za x))::
(nat_lit 340,(gK x))::
(nat_lit 341,(za x))::
(nat_lit 343,(gJ x))::
(nat_lit 344,(gH x))::
(nat_lit 345,(gG x))::
(nat_lit 346,(gF x))::
(nat_lit 347,(gE x))::
(nat_lit 350,(yp x))::
(nat_lit 357,(za x))::
(nat_lit 359,(gC x))::
(nat_lit 360,(za x))::
(nat_lit 362,(gB x))::
(nat_lit 363,(gA x))::
(nat_lit 364,(za x))::
(nat_lit 366,(gz x))::
(nat_lit 367,(za x))::
(nat_lit 369,(gx x))::
(nat_lit 370,(gw x))::
(nat_lit 371,(za x))::
(nat_lit 373,(gv x))::
(nat_lit 374,(za x))::
(nat_lit 376,(gu x))::
(nat_lit 377,(gr x))::
(nat_lit 378,(za x))::
(nat_lit 380,(gq x))::
(nat_lit 381,(za x))::
(nat_lit 383,(gp x))::
(nat_lit 384,(gm x))::
(nat_lit 385,(za x))::
(nat_lit 387,(gk x))::
(nat_lit 388,(za x))::
(nat_lit 390,(gj x))::
(nat_lit 391,(gi x))::
(nat_lit 392,(gh x))::
(nat_lit 393,(gg x))::
(nat_lit 394,(gf x))::
(nat_lit 397,(yp x))::
(nat_lit 404,(za x))::
(nat_lit 406,(ge x))::
(nat_lit 407,(za x))::
(nat_lit 409,(gd x))::
(nat_lit 410,(gc x))::
(nat_lit 411,(za x))::
(nat_lit 413,(gb x))::
(nat_lit 414,(za x))::
(nat_lit 416,(h_ x))::
(nat_lit 417,(h9 x))::
(nat_lit 418,(za x))::
(nat_lit 420,(h8 x))::
(nat_lit 421,(za x))::
(nat_lit 423,(hZ x))::
(nat_lit 424,(hX x))::
(nat_lit 425,(hW x))::
(nat_lit 426,(hV x))::
(nat_lit 427,(hG x))::
(nat_lit 430,(yp x))::
(nat_lit 437,(za x))::
(nat_lit 439,(i_ x))::
(nat_lit 440,(za x))::
(nat_lit 442,(i9 x))::
(nat_lit 443,(i8 x))::
(nat_lit 444,(za x))::
(nat_lit 446,(i7 x))::
(nat_lit 447,(za x))::
(nat_lit 449,(iZ x))::
(nat_lit 450,(iY x))::
(nat_lit 451,(za x))::
(nat_lit 453,(iX x))::
(nat_lit 454,(za x))::
(nat_lit 456,(iW x))::
(nat_lit 457,(iV x))::
(nat_lit 458,(za x))::
(nat_lit 460,(iU x))::
(nat_lit 461,(za x))::
(nat_lit 463,(iT x))::
(nat_lit 464,(iS x))::
(nat_lit 465,(za x))::
(nat_lit 467,(iR x))::
(nat_lit 468,(za x))::
(nat_lit 470,(iQ x))::
(nat_lit 471,(iP x))::
(nat_lit 472,(iO x))::
(nat_lit 473,(iN x))::
(nat_lit 474,(iM x))::
(nat_lit 477,(yp x))::
(nat_lit 484,(za x))::
(nat_lit 486,(iK x))::
(nat_lit 487,(za x))::
(nat_lit 489,(iJ x))::
(nat_lit 490,(iI x))::
(nat_lit 491,(za x))::
(nat_lit 493,(iH x))::
(nat_lit 494,(za x))::
(nat_lit 496,(iG x))::
(nat_lit 497,(iF x))::
(nat_lit 498,(za x))::
(nat_lit 500,(iE x))::
(nat_lit 501,(za x))::
(nat_lit 503,(iD x))::
(nat_lit 504,(iC x))::
(nat_lit 505,(za x))::
(nat_lit 507,(iB x))::
(nat_lit 508,(za x))::
(nat_lit 510,(iA x))::
(nat_lit 511,(iz x))::
(nat_lit 512,(za x))::
(nat_lit 514,(ix x))::
(nat_lit 515,(za x))::
(nat_lit 517,(iw x))::
(nat_lit 518,(ir x))::
(nat_lit 519,(za x))::
(nat_lit 521,(iq x))::
(nat_lit 522,(za x))::
(nat_lit 524,(ip x))::
(nat_lit 525,(io x))::
(nat_lit 526,(ik x))::
(nat_lit 527,(ij x))::
(nat_lit 528,(ii x))::
(nat_lit 531,(za x))::
(nat_lit 533,(ig x))::
(nat_lit 534,(za x))::
(nat_lit 536,(ic x))::
(nat_lit 537,(j9 x))::
(nat_lit 538,(za x))::
(nat_lit 540,(j8 x))::
(nat_lit 541,(za x))::
(nat_lit 543,(j7 x))::
(nat_lit 544,(j6 x))::
(nat_lit 545,(za x))::
(nat_lit 547,(j5 x))::
(nat_lit 548,(za x))::
(nat_lit 550,(j4 x))::
(nat_lit 551,(jZ x))::
(nat_lit 552,(za x))::
(nat_lit 554,(jY x))::
(nat_lit 555,(za x))::
(nat_lit 557,(jX x))::
(nat_lit 558,(jW x))::
(nat_lit 559,(za x))::
(nat_lit 561,(jV x))::
(nat_lit 562,(za x))::
(nat_lit 564,(jU x))::
(nat_lit 565,(jT x))::
(nat_lit 573,(za x))::
(nat_lit 575,(b_ x))::
(nat_lit 576,(za x))::
(nat_lit 578,(bZ x))::
(nat_lit 579,(bY x))::
(nat_lit 580,(za x))::
(nat_lit 582,(bX x))::
(nat_lit 583,(za x))::
(nat_lit 585,(bW x))::
(nat_lit 586,(bV x))::
(nat_lit 587,(za x))::
(nat_lit 589,(bU x))::
(nat_lit 590,(za x))::
(nat_lit 592,(bT x))::
(nat_lit 593,(bS x))::
(nat_lit 594,(za x))::
(nat_lit 596,(bR x))::
(nat_lit 597,(za x))::
(nat_lit 599,(bQ x))::
(nat_lit 600,(bP x))::
(nat_lit 601,(bO x))::
(nat_lit 602,(bN x))::
(nat_lit 603,(bM x))::
(nat_lit 604,(bL x))::
(nat_lit 605,(bK x))::
(nat_lit 608,(za x))::
(nat_lit 610,(bJ x))::
(nat_lit 611,(za x))::
(nat_lit 613,(bI x))::
(nat_lit 614,(bH x))::
(nat_lit 615,(za x))::
(nat_lit 617,(bG x))::
(nat_lit 618,(za x))::
(nat_lit 620,(bF x))::
(nat_lit 621,(bE x))::
(nat_lit 622,(za x))::
(nat_lit 624,(bD x))::
(nat_lit 625,(za x))::
(nat_lit 627,(bC x))::
(nat_lit 628,(bB x))::
(nat_lit 629,(za x))::
(nat_lit 631,(bA x))::
(nat_lit 632,(za x))::
(nat_lit 634,(bz x))::
(nat_lit 635,(bx x))::
(nat_lit 636,(za x))::
(nat_lit 638,(bw x))::
(nat_lit 639,(za x))::
(nat_lit 641,(bv x))::
(nat_lit 642,(bu x))::
(nat_lit 643,(za x))::
(nat_lit 645,(br x))::
(nat_lit 646,(za x))::
(nat_lit 648,(bq x))::
(nat_lit 649,(bp x))::
(nat_lit 650,(za x))::
(nat_lit 652,(bo x))::
(nat_lit 653,(za x))::
(nat_lit 655,(bn x))::
(nat_lit 656,(bj x))::
(nat_lit 657,(za x))::
(nat_lit 659,(bh x))::
(nat_lit 660,(za x))::
(nat_lit 662,(bg x))::
(nat_lit 663,(bf x))::
(nat_lit 664,(za x))::
(nat_lit 666,(bc x))::
(nat_lit 667,(za x))::
(nat_lit 669,(bb x))::
(nat_lit 670,(ba x))::
(nat_lit 671,(za x))::
(nat_lit 673,(c_ x))::
(nat_lit 674,(za x))::
(nat_lit 676,(c9 x))::
(nat_lit 677,(c8 x))::
(nat_lit 678,(za x))::
(nat_lit 680,(c7 x))::
(nat_lit 681,(za x))::
(nat_lit 683,(c6 x))::
(nat_lit 684,(c5 x))::
(nat_lit 685,(za x))::
(nat_lit 687,(c4 x))::
(nat_lit 688,(za x))::
(nat_lit 690,(c3 x))::
(nat_lit 691,(cZ x))::
(nat_lit 692,(za x))::
(nat_lit 695,(cY x))::
(nat_lit 696,(cX x))::
(nat_lit 697,(za x))::
(nat_lit 699,(cW x))::
(nat_lit 700,(za x))::
(nat_lit 702,(cV x))::
(nat_lit 703,(cU x))::
(nat_lit 704,(za x))::
(nat_lit 707,(cS x))::
(nat_lit 708,(cR x))::[]
def h_view_39:PySem.Program:={ PySem.Challenge.pw_oddbases_k47_machine_reads with main:={ PySem.Challenge.pw_oddbases_k47_machine_reads.main with body:=[My.top 0,My.top 2,My.top 3,My.top 4,My.top 5,My.top 6,My.top 7,My.top 8,My.top 9,My.top 10,My.top 11,My.top 12,My.top 13,My.top 14,My.top 16,My.top 17,My.top 18,My.top 19,My.top 20,My.top 22,My.top 23,My.top 24,My.top 25,My.top 26,My.top 27,My.top 28,My.top 29,My.top 31,My.top 32,My.top 33,My.top 34,My.top 35,My.top 36,My.top 38,My.top 39,My.top 40,My.top 41,My.top 42,My.top 43,My.top 44,My.top 45,My.top 46,My.top 47,My.top 48,My.top 49,My.top 50,My.top 51,My.top 52] } }
def yK:((x:@Params)→@Heap):=(fun x=>(@Heap.mk (@Array.mk @Obj ((@W.boot_o_0 x)::(@W.boot_o_1 x)::(@W.boot_o_2 x)::(cT x)::(@W.boot_o_4 x)::(@W.boot_o_5 x)::(@W.boot_o_6 x)::(@W.boot_o_7 x)::(@W.boot_o_8 x)::(@W.boot_o_9 x)::(@W.boot_o_10 x)::(za x)::(YI x)::(o45 x)::(o46 x)::(za x)::(zg x)::(o53 x)::(za x)::(o55 x)::(o56 x)::(o57 x)::(o58 x)::(zp x)::(o60 x)::(za x)::(zg x)::(o63 x)::(o64 x)::(za x)::(o66 x)::(mY x)::(o68 x)::(o69 x)::(o70 x)::(zz x)::(zp x)::(o76 x)::(za x)::(zg x)::(o79 x)::(o80 x)::(za x)::(o82 x)::(o83 x)::(o84 x)::(o85 x)::(zz x)::(zp x)::(o91 x)::(za x)::(zg x)::(o94 x)::(o95 x)::(za x)::(o97 x)::(o98 x)::(o99 x)::(lS x)::(zz x)::(zp x)::(lQ x)::(za x)::(zg x)::(lP x)::(lO x)::(za x)::(oQ x)::(oP x)::(lN x)::(lM x)::(zz x)::(zp x)::(lK x)::(za x)::(zg x)::(lJ x)::(lI x)::(za x)::(oO x)::(oN x)::(lH x)::(lG x)::(zz x)::(zp x)::(lE x)::(za x)::(zg x)::(lD x)::(lC x)::(za x)::(oM x)::(oK x)::(lB x)::(lA x)::(zz x)::(zp x)::(lz x)::(za x)::(zg x)::(ly x)::(lx x)::(za x)::(oJ x)::(oI x)::(lw x)::(lv x)::(zz x)::(zp x)::(lu x)::(za x)::(zg x)::(ls x)::(lq x)::(za x)::(oH x)::(oG x)::(lp x)::(ln x)::(zz x)::(zp x)::(lm x)::(za x)::(zg x)::(ll x)::(lj x)::(za x)::(oF x)::(oE x)::(lh x)::(lc x)::(zz x)::(zp x)::(fW x)::(za x)::(zg x)::(fV x)::(fU x)::(za x)::(m_ x)::(m9 x)::(fT x)::(fS x)::(zz x)::(zp x)::(fR x)::(za x)::(zg x)::(fQ x)::(fP x)::(za x)::(m8 x)::(m7 x)::(fO x)::(fN x)::(zz x)::(zp x)::(fM x)::(za x)::(zg x)::(fL x)::(fK x)::(za x)::(m6 x)::(mZ x)::(fJ x)::(fI x)::(zz x)::(zp x)::(fH x)::(za x)::(zg x)::(fG x)::(fF x)::(za x)::(mX x)::(mW x)::(fE x)::(fD x)::(za x)::(zg x)::(mV x)::(za x)::(fC x)::(mU x)::(mT x)::(za x)::(zg x)::(mS x)::(za x)::(fB x)::(mR x)::(mQ x)::(za x)::(zg x)::(mP x)::(za x)::(fA x)::(mO x)::(mM x)::(za x)::(zg x)::(mL x)::(za x)::(fw x)::(mK x)::(mJ x)::(za x)::(zg x)::(mI x)::(za x)::(fv x)::(mH x)::(mG x)::(za x)::(zg x)::(mF x)::(za x)::(fu x)::(mE x)::(mD x)::(za x)::(zp x)::(ft x)::(za x)::(fq x)::(fo x)::(fm x)::(za x)::(zg x)::(mC x)::(za x)::(fk x)::(mB x)::(mz x)::(za x)::(zg x)::(mx x)::(za x)::(fj x)::(mw x)::(mv x)::(za x)::(zg x)::(mt x)::(za x)::(fi x)::(ms x)::(mr x)::(za x)::(zg x)::(mq x)::(za x)::(fh x)::(mm x)::(ml x)::(za x)::(zg x)::(mj x)::(za x)::(fg x)::(mh x)::(mf x)::(za x)::(zg x)::(ma x)::(za x)::(ff x)::(n_ x)::(n9 x)::(za x)::(n8 x)::(iL x)::(n6 x)::(n5 x)::(fe x)::(fc x)::(yp x)::(zp x)::(fb x)::(za x)::(g9 x)::(g8 x)::(g7 x)::(za x)::(zg x)::(n4 x)::(za x)::(g6 x)::(nZ x)::(nY x)::(za x)::(zg x)::(nX x)::(za x)::(gZ x)::(nW x)::(nV x)::(za x)::(zg x)::(nU x)::(za x)::(gY x)::(nS x)::(nR x)::(nQ x)::(nP x)::(nO x)::(gX x)::(gW x)::(yp x)::(zp x)::(Zk x)::(za x)::(Zj x)::(Zi x)::(Zh x)::(za x)::(zg x)::(gU x)::(za x)::(Zg x)::(gT x)::(gR x)::(za x)::(zg x)::(gQ x)::(za x)::(Zf x)::(gP x)::(gO x)::(za x)::(zg x)::(gN x)::(za x)::(Ze x)::(gM x)::(gL x)::(za x)::(zg x)::(gK x)::(za x)::(Zd x)::(gJ x)::(gH x)::(gG x)::(gF x)::(gE x)::(Zc x)::(Zb x)::(yp x)::(zp x)::(Za x)::(za x)::(a_ x)::(aZ x)::(aY x)::(za x)::(zg x)::(gC x)::(za x)::(aX x)::(gB x)::(gA x)::(za x)::(zg x)::(gz x)::(za x)::(aW x)::(gx x)::(gw x)::(za x)::(zg x)::(gv x)::(za x)::(aV x)::(gu x)::(gr x)::(za x)::(zg x)::(gq x)::(za x)::(aU x)::(gp x)::(gm x)::(za x)::(zg x)::(gk x)::(za x)::(aT x)::(gj x)::(gi x)::(gh x)::(gg x)::(gf x)::(aS x)::(aR x)::(yp x)::(zp x)::(aQ x)::(za x)::(aP x)::(aO x)::(aN x)::(za x)::(zg x)::(ge x)::(za x)::(aM x)::(gd x)::(gc x)::(za x)::(zg x)::(gb x)::(za x)::(aL x)::(h_ x)::(h9 x)::(za x)::(zg x)::(h8 x)::(za x)::(aK x)::(hZ x)::(hX x)::(hW x)::(hV x)::(hG x)::(aJ x)::(aI x)::(yp x)::(zp x)::(aH x)::(za x)::(aG x)::(aF x)::(aE x)::(za x)::(zg x)::(i_ x)::(za x)::(aD x)::(i9 x)::(i8 x)::(za x)::(zg x)::(i7 x)::(za x)::(aC x)::(iZ x)::(iY x)::(za x)::(zg x)::(iX x)::(za x)::(aB x)::(iW x)::(iV x)::(za x)::(zg x)::(iU x)::(za x)::(aA x)::(iT x)::(iS x)::(za x)::(zg x)::(iR x)::(za x)::(az x)::(iQ x)::(iP x)::(iO x)::(iN x)::(iM x)::(ay x)::(ax x)::(yp x)::(zp x)::(aw x)::(za x)::(av x)::(au x)::(aq x)::(za x)::(zg x)::(iK x)::(za x)::(ap x)::(iJ x)::(iI x)::(za x)::(zg x)::(iH x)::(za x)::(ao x)::(iG x)::(iF x)::(za x)::(zg x)::(iE x)::(za x)::(al x)::(iD x)::(iC x)::(za x)::(zg x)::(iB x)::(za x)::(ak x)::(iA x)::(iz x)::(za x)::(zg x)::(ix x)::(za x)::(aj x)::(iw x)::(ir x)::(za x)::(zg x)::(iq x)::(za x)::(ai x)::(ip x)::(io x)::(ik x)::(ij x)::(ii x)::(ah x)::(ag x)::(za x)::(zg x)::(ig x)::(za x)::(af x)::(ic x)::(j9 x)::(za x)::(zg x)::(j8 x)::(za x)::(ae x)::(j7 x)::(j6 x)::(za x)::(zg x)::(j5 x)::(za x)::(ad x)::(j4 x)::(jZ x)::(za x)::(zg x)::(jY x)::(za x)::(ac x)::(jX x)::(jW x)::(za x)::(zg x)::(jV x)::(za x)::(aa x)::(jU x)::(jT x)::(za x)::(zp x)::(Xd x)::(za x)::(Xc x)::(Xb x)::(Xa x)::(za x)::(zg x)::(b_ x)::(za x)::(Y_ x)::(bZ x)::(bY x)::(za x)::(zg x)::(bX x)::(za x)::(Y9 x)::(bW x)::(bV x)::(za x)::(zg x)::(bU x)::(za x)::(Y8 x)::(bT x)::(bS x)::(za x)::(zg x)::(bR x)::(za x)::(Y7 x)::(bQ x)::(bP x)::(bO x)::(bN x)::(bM x)::(bL x)::(bK x)::(YZ x)::(YY x)::(za x)::(zg x)::(bJ x)::(za x)::(YX x)::(bI x)::(bH x)::(za x)::(zg x)::(bG x)::(za x)::(YW x)::(bF x)::(bE x)::(za x)::(zg x)::(bD x)::(za x)::(YV x)::(bC x)::(bB x)::(za x)::(zg x)::(bA x)::(za x)::(YU x)::(bz x)::(bx x)::(za x)::(zg x)::(bw x)::(za x)::(YT x)::(bv x)::(bu x)::(za x)::(zg x)::(br x)::(za x)::(YS x)::(bq x)::(bp x)::(za x)::(zg x)::(bo x)::(za x)::(YR x)::(bn x)::(bj x)::(za x)::(zg x)::(bh x)::(za x)::(YQ x)::(bg x)::(bf x)::(za x)::(zg x)::(bc x)::(za x)::(YO x)::(bb x)::(ba x)::(za x)::(zg x)::(c_ x)::(za x)::(YN x)::(c9 x)::(c8 x)::(za x)::(zg x)::(c7 x)::(za x)::(YM x)::(c6 x)::(c5 x)::(za x)::(zg x)::(c4 x)::(za x)::(YL x)::(c3 x)::(cZ x)::(za x)::(zg x)::(YK x)::(cY x)::(cX x)::(za x)::(zg x)::(cW x)::(za x)::(YJ x)::(cV x)::(cU x)::(za x)::(zg x)::(YH x)::(cS x)::(cR x)::[])) (@Life.mk [] [] [] 0 (@List.nil (@Prod @Nat @Nat)) [] @Bool.false #[] [] 0 @Bool.false @Bool.false @Bool.false (0:Int) [(2000:Int),(10:Int),(10:Int)] @Bool.false 0 @Bool.true [] [] 0 @Bool.false)))
def zY:@Env:=(@Env.mk (@Module.scope (@Program.main ((@W.OpenRow.toRowW (@W.OpenLaw.row @Challenge.rw_oddbases_k47_machine_reads))).1)) @mainNs @mainNs (@List.nil (@Prod @Str @Addr)) @Str.empty (@Option.none @Addr) (r_ 13) (@some @Addr (@OfNat.ofNat @Addr 14 (@instOfNatNat 14))) (@OfNat.ofNat @Addr 0 (@instOfNatNat 0)))
def qK:=N_ W.boot_o_0 (N_ W.boot_o_1 (N_ cT (N_ W.boot_o_7 (N_ za (N_ mY (N_ zg (N_ oF (N_ ml (L_ iz) Z_) (N_ gp (L_ za) Z_)) (N_ mR (N_ gU (L_ b_) Z_) (N_ za (L_ cU) Z_))) (N_ zz (N_ zg (N_ za (L_ j7) Z_) (N_ aL (L_ za) Z_)) (N_ ft (N_ zp (L_ YY) Z_) (L_ aw)))) (N_ zz (N_ oO (N_ zz (N_ n8 (L_ ij) Z_) (N_ aQ (L_ bn) Z_)) (N_ za (N_ Ze (L_ Y8) Z_) (L_ iT))) (N_ zg (N_ mX (N_ nS (L_ za) Z_) (N_ zp (L_ c4) Z_)) (N_ fj Y3 (L_ ao))))) (N_ zp (N_ zg (N_ zz (N_ zg Y4 (N_ gi (L_ YS) Z_)) (N_ mM Y4 (L_ aB))) (N_ oJ (N_ zz (N_ gZ (L_ jZ) Z_) (N_ hZ (L_ zg) Z_)) (N_ za (N_ gC (L_ za) Z_) (L_ za)))) (N_ o97 (N_ zg (N_ m8 (N_ fb (L_ af) Z_) (N_ za (L_ bf) Z_)) (N_ zg (N_ gJ (L_ bQ) Z_) (L_ iP))) (N_ zz (N_ fC (N_ zp (L_ zp) Z_) (N_ i_ (L_ cY) Z_)) (N_ ms (N_ aV (L_ bA) Z_) (L_ iD)))))) (N_ za (N_ o55 (N_ zz (N_ oQ (N_ zz Y4 (N_ gk (L_ za) Z_)) (N_ mP (N_ gR (L_ bY) Z_) (N_ za (L_ cS) Z_))) (N_ zg (N_ m6 (N_ za (L_ j5) Z_) (N_ zg (L_ YN) Z_)) (N_ fm (N_ aZ (L_ za) Z_) (L_ aq)))) (N_ zg (N_ zz (N_ zg (N_ fe (L_ za) Z_) (N_ aN (L_ bh) Z_)) (N_ fv Y5 (L_ iR))) (N_ oH (N_ za (N_ nO (L_ aa) Z_) (N_ aF (L_ cZ) Z_)) (N_ zg (N_ za (L_ bC) Z_) (L_ zg))))) (N_ o63 (N_ o82 (N_ zg (N_ m_ (N_ ff (L_ ai) Z_) (N_ aS (L_ zg) Z_)) Y0) (N_ zz (N_ zg Y6 (N_ hG (L_ c6) Z_)) (N_ za (N_ gA (L_ YW) Z_) (L_ za)))) (N_ zz (N_ oM (N_ zz (N_ g7 (L_ zg) Z_) Y4) (N_ mE (N_ gE (L_ bM) Z_) (L_ ay))) (N_ zg (N_ zg (N_ Zi (L_ Xb) Z_) (N_ i8 (L_ cW) Z_)) (N_ mq (N_ zg (L_ bx) Z_) (L_ iB))))))) (N_ W.boot_o_5 (N_ W.boot_o_9 (N_ o53 (N_ o69 (N_ lO (N_ lh Y5 (N_ za (L_ bv) Z_)) (N_ za (N_ Zg (L_ Y_) Z_) (N_ iZ (L_ zg) Z_))) (N_ lz (N_ fK (N_ nZ (L_ za) Z_) (N_ h9 (L_ c_) Z_)) (N_ fq Y3 (L_ av)))) (N_ o91 (N_ lH (N_ fR (N_ n6 (L_ ah) Z_) (N_ aP (L_ za) Z_)) (N_ mI (N_ gL (L_ bS) Z_) (L_ za))) (N_ lq (N_ fE (N_ nQ (L_ jV) Z_) (N_ za (L_ YL) Z_)) (N_ mv (N_ gx (L_ za) Z_) (L_ iF))))) (N_ za (N_ o80 (N_ lK (N_ fU (N_ ma (L_ iq) Z_) (N_ gg (L_ bp) Z_)) (N_ zg (N_ gP (L_ bW) Z_) (L_ iV))) (N_ lw (N_ fH (N_ nV (L_ zg) Z_) (N_ hW (L_ za) Z_)) (N_ mB (N_ aX (L_ bG) Z_) (L_ iJ)))) (N_ o99 (N_ lC (N_ fO (N_ g9 (L_ j9) Z_) (N_ gd (L_ zg) Z_)) (N_ za (N_ gG (L_ bO) Z_) (L_ iN))) (N_ lm (N_ mT Y4 (N_ aD (L_ za) Z_)) (N_ za (N_ gr (L_ YU) Z_) (L_ za)))))) (N_ o45 (N_ o57 (N_ o76 (N_ lN (N_ fW (N_ mh (L_ iw) Z_) (N_ aT (L_ br) Z_)) (N_ fA Y5 (L_ iX))) (N_ lx (N_ fJ (N_ nX (L_ ad) Z_) (N_ za (L_ c8) Z_)) (N_ zg (N_ za (L_ bI) Z_) (L_ zg)))) (N_ o95 (N_ lE (N_ fP (N_ yp (L_ ig) Z_) (N_ zg (L_ YQ) Z_)) (N_ mG Y4 (L_ az))) (N_ lp (N_ mV (N_ gW (L_ jT) Z_) Y3) (N_ za (N_ gv (L_ za) Z_) (L_ za))))) (N_ za (N_ o84 (N_ lI (N_ fT (N_ n9 (L_ io) Z_) (N_ yp (L_ za) Z_)) (N_ mK (N_ gN (L_ bU) Z_) (L_ za))) (N_ lu (N_ fF (N_ za (L_ jX) Z_) (N_ aI (L_ za) Z_)) (N_ mx (N_ zg (L_ bE) Z_) (L_ iH)))) (N_ lQ (N_ lB (N_ fM Y6 (N_ gb (L_ bb) Z_)) (N_ za (N_ Zb (L_ bK) Z_) (L_ yp))) (N_ lj (N_ za Y4 (N_ zg (L_ YJ) Z_)) (N_ fh Y3 (L_ ak)))))))) (N_ W.boot_o_2 (N_ W.boot_o_4 (N_ W.boot_o_8 (N_ zg (N_ o68 (N_ lP (N_ oE Y4 (N_ gm (L_ YT) Z_)) (N_ mQ Y4 (N_ aC (L_ za) Z_))) (N_ zp (N_ fL (N_ g6 (L_ j6) Z_) (N_ h_ (L_ zg) Z_)) (N_ za (N_ Za (L_ za) Z_) (L_ za)))) (N_ zp (N_ oN (N_ zp (N_ iL (L_ ii) Z_) (N_ za (L_ bj) Z_)) (N_ zg (N_ gM (L_ bT) Z_) (L_ iS))) (N_ ls (N_ mW (N_ nR (L_ zg) Z_) (N_ aH (L_ za) Z_)) (N_ mw (N_ aW (L_ bD) Z_) (L_ iG))))) (N_ o60 (N_ o79 (N_ zp (N_ fV Y5 (N_ gh (L_ bq) Z_)) (N_ za (N_ Zf (L_ Y9) Z_) (L_ iW))) (N_ oI (N_ zp (N_ nW (L_ za) Z_) (N_ hX (L_ c7) Z_)) (N_ fk Y3 (L_ ap)))) (N_ o98 (N_ lD (N_ m7 (N_ za (L_ ic) Z_) (N_ aM (L_ za) Z_)) (N_ mF (N_ gH (L_ bP) Z_) (L_ iO))) (N_ zp (N_ mU (N_ Zk (L_ Xd) Z_) (N_ za (L_ cX) Z_)) (N_ mr (N_ gu (L_ za) Z_) (L_ iC)))))) (N_ YI (N_ o56 (N_ zp (N_ oP (N_ zp (N_ fg (L_ aj) Z_) Y3) (N_ za Y4 (N_ zg (L_ cR) Z_))) (N_ ly (N_ mZ Y6 (N_ h8 (L_ c9) Z_)) (N_ za (N_ aY (L_ YX) Z_) (L_ za)))) (N_ o94 (N_ zp (N_ fQ (N_ fc (L_ zg) Z_) Y4) (N_ mH (N_ gK (L_ bR) Z_) (L_ za))) (N_ oG (N_ zg (N_ gX (L_ jU) Z_) (N_ aE (L_ za) Z_)) (N_ mt (N_ zg (L_ bB) Z_) (L_ iE))))) (N_ o64 (N_ o83 (N_ lJ (N_ m9 (N_ n_ (L_ ip) Z_) (N_ aR (L_ bo) Z_)) (N_ fw Y5 (L_ iU))) (N_ zp (N_ fG (N_ nU (L_ ac) Z_) (N_ aJ (L_ c5) Z_)) (N_ zg (N_ za (L_ bF) Z_) (L_ zg)))) (N_ zp (N_ oK (N_ zp (N_ za (L_ j8) Z_) (N_ zg (L_ YO) Z_)) (N_ mD (N_ Zc (L_ bL) Z_) (L_ ax))) (N_ ll (N_ mS (N_ Zh (L_ Xa) Z_) Y4) (N_ za (N_ gq (L_ za) Z_) (L_ za))))))) (N_ W.boot_o_6 (N_ W.boot_o_10 (N_ za (N_ o70 (N_ za (N_ lc (N_ mj (L_ ix) Z_) (N_ zg (L_ bu) Z_)) (N_ zg (N_ gT (L_ bZ) Z_) (N_ iY (L_ YH) Z_))) (N_ za (N_ za (N_ nY (L_ zg) Z_) Y4) (N_ fo (N_ a_ (L_ bJ) Z_) (L_ au)))) (N_ za (N_ lG (N_ za (N_ n5 (L_ ag) Z_) (N_ aO (L_ zg) Z_)) Y0) (N_ za (N_ fD (N_ nP (L_ za) Z_) (N_ aG (L_ c3) Z_)) (N_ za (N_ gw (L_ YV) Z_) (L_ za))))) (N_ zg (N_ za (N_ za (N_ za Y4 (N_ gf (L_ za) Z_)) (N_ mL (N_ gO (L_ bV) Z_) (L_ za))) (N_ lv (N_ za (N_ za (L_ jY) Z_) (N_ hV (L_ YM) Z_)) (N_ mz (N_ gB (L_ za) Z_) (L_ iI)))) (N_ lS (N_ za (N_ fN (N_ g8 (L_ za) Z_) (N_ gc (L_ bc) Z_)) (N_ fu (N_ gF (L_ bN) Z_) (L_ iM))) (N_ za (N_ za (N_ Zj (L_ Xc) Z_) (N_ i9 (L_ zg) Z_)) (N_ zg (N_ za (L_ bz) Z_) (L_ zg)))))) (N_ o46 (N_ o58 (N_ za (N_ lM (N_ za (N_ mf (L_ ir) Z_) (N_ gj (L_ za) Z_)) (N_ mO (N_ gQ (L_ bX) Z_) (L_ za))) (N_ za (N_ fI (N_ za (L_ j4) Z_) (N_ aK (L_ za) Z_)) (N_ mC (N_ zg (L_ bH) Z_) (L_ iK)))) (N_ za (N_ za (N_ za (N_ zp (L_ za) Z_) (N_ ge (L_ bg) Z_)) (N_ za (N_ Zd (L_ Y7) Z_) (L_ iQ))) (N_ ln (N_ za (N_ yp (L_ za) Z_) (N_ zg (L_ YK) Z_)) (N_ fi Y3 (L_ al))))) (N_ o66 (N_ o85 (N_ za (N_ fS (N_ za (L_ ik) Z_) (N_ zp (L_ YR) Z_)) (N_ mJ Y4 (L_ aA))) (N_ za (N_ za (N_ gY (L_ jW) Z_) (N_ yp (L_ zg) Z_)) (N_ za (N_ gz (L_ za) Z_) (L_ za)))) (N_ za (N_ lA (N_ za (N_ n4 (L_ ae) Z_) (N_ za (L_ ba) Z_)) (N_ zp (N_ yp (L_ YZ) Z_) (L_ zp))) (N_ za (N_ fB Y5 (N_ i7 (L_ cV) Z_)) (N_ mm (N_ aU (L_ bw) Z_) (L_ iA))))))))
def xT:(@List @Stmt):=[My.top 36,My.top 37,My.top 38,My.top 39,My.top 40,My.top 41,My.top 42,My.top 43,My.top 44,My.top 45,My.top 46,My.top 47,My.top 48,My.top 49,My.top 50,My.top 51,My.top 52]
def qL:=N_ W.boot_o_0 (N_ W.boot_o_1 (N_ Wv (N_ W.boot_o_7 (N_ za (N_ mY (N_ zg (N_ oF (N_ ml (L_ iz) Z_) (L_ gp)) (N_ mR (L_ gU) (L_ za))) (N_ zz (N_ zg (N_ za (L_ j7) Z_) (L_ aL)) (N_ ft (L_ zp) (L_ aw)))) (N_ zz (N_ oO (N_ zz (N_ n8 (L_ ij) Z_) (L_ aQ)) (N_ za (L_ Ze) (L_ iT))) (N_ zg (N_ mX (N_ nS (L_ za) Z_) (L_ zp)) (N_ fj (L_ za) (L_ ao))))) (N_ zp (N_ zg (N_ zz (N_ zg Y4 (L_ gi)) (N_ mM (L_ za) (L_ aB))) (N_ oJ (N_ zz (N_ gZ (L_ jZ) Z_) (L_ hZ)) (N_ za (L_ gC) (L_ za)))) (N_ o97 (N_ zg (N_ m8 (N_ fb (L_ af) Z_) (L_ za)) (N_ zg (L_ gJ) (L_ iP))) (N_ zz (N_ fC (L_ zp) (L_ i_)) (N_ ms (L_ aV) (L_ iD)))))) (N_ za (N_ o55 (N_ zz (N_ oQ (N_ zz Y4 (L_ gk)) (N_ mP (L_ gR) (L_ za))) (N_ zg (N_ m6 (N_ za (L_ j5) Z_) (L_ zg)) (N_ fm (L_ aZ) (L_ aq)))) (N_ zg (N_ zz (N_ zg (N_ fe (L_ za) Z_) (L_ aN)) (N_ fv (L_ zg) (L_ iR))) (N_ oH (N_ za (N_ nO (L_ aa) Z_) (L_ aF)) Y1))) (N_ o63 (N_ o82 (N_ zg (N_ m_ (N_ ff (L_ ai) Z_) (L_ aS)) Y2) (N_ zz (N_ zg Y6 (L_ hG)) (N_ za (L_ gA) (L_ za)))) (N_ zz (N_ oM (N_ zz (N_ g7 (L_ zg) Z_) (L_ za)) (N_ mE (L_ gE) (L_ ay))) (N_ zg (N_ zg (L_ Zi) (L_ i8)) (N_ mq (L_ zg) (L_ iB))))))) (N_ W.boot_o_5 (N_ W.boot_o_9 (N_ o53 (N_ o69 (N_ lO (N_ lh Y5 (L_ za)) (N_ za (L_ Zg) (L_ iZ))) (N_ lz (N_ fK (N_ nZ (L_ za) Z_) (L_ h9)) (N_ fq (L_ za) (L_ av)))) (N_ o91 (N_ lH (N_ fR (N_ n6 (L_ ah) Z_) (L_ aP)) (N_ mI (L_ gL) (L_ za))) (N_ lq (N_ fE (N_ nQ (L_ jV) Z_) (L_ za)) (N_ mv (L_ gx) (L_ iF))))) (N_ za (N_ o80 (N_ lK (N_ fU (N_ ma (L_ iq) Z_) (L_ gg)) (N_ zg (L_ gP) (L_ iV))) (N_ lw (N_ fH (N_ nV (L_ zg) Z_) (L_ hW)) (N_ mB (L_ aX) (L_ iJ)))) (N_ o99 (N_ lC (N_ fO (N_ g9 (L_ j9) Z_) (L_ gd)) (N_ za (L_ gG) (L_ iN))) (N_ lm (N_ mT (L_ za) (L_ aD)) (N_ za (L_ gr) (L_ za)))))) (N_ o45 (N_ o57 (N_ o76 (N_ lN (N_ fW (N_ mh (L_ iw) Z_) (L_ aT)) (N_ fA (L_ zg) (L_ iX))) (N_ lx (N_ fJ (N_ nX (L_ ad) Z_) (L_ za)) Y1)) (N_ o95 (N_ lE (N_ fP (N_ yp (L_ ig) Z_) (L_ zg)) (N_ mG (L_ za) (L_ az))) (N_ lp (N_ mV (N_ gW (L_ jT) Z_) (L_ za)) (N_ za (L_ gv) (L_ za))))) (N_ za (N_ o84 (N_ lI (N_ fT (N_ n9 (L_ io) Z_) (L_ yp)) (N_ mK (L_ gN) (L_ za))) (N_ lu (N_ fF (N_ za (L_ jX) Z_) (L_ aI)) (N_ mx (L_ zg) (L_ iH)))) (N_ lQ (N_ lB (N_ fM Y6 (L_ gb)) (N_ za (L_ Zb) (L_ yp))) (N_ lj Y2 (N_ fh (L_ za) (L_ ak)))))))) (N_ W.boot_o_2 (N_ W.boot_o_4 (N_ W.boot_o_8 (N_ zg (N_ o68 (N_ lP (N_ oE Y4 (L_ gm)) (N_ mQ (L_ za) (L_ aC))) (N_ zp (N_ fL (N_ g6 (L_ j6) Z_) (L_ h_)) (N_ za (L_ Za) (L_ za)))) (N_ zp (N_ oN (N_ zp (N_ iL (L_ ii) Z_) (L_ za)) (N_ zg (L_ gM) (L_ iS))) (N_ ls (N_ mW (N_ nR (L_ zg) Z_) (L_ aH)) (N_ mw (L_ aW) (L_ iG))))) (N_ o60 (N_ o79 (N_ zp (N_ fV Y5 (L_ gh)) (N_ za (L_ Zf) (L_ iW))) (N_ oI (N_ zp (N_ nW (L_ za) Z_) (L_ hX)) (N_ fk (L_ za) (L_ ap)))) (N_ o98 (N_ lD (N_ m7 (N_ za (L_ ic) Z_) (L_ aM)) (N_ mF (L_ gH) (L_ iO))) (N_ zp (N_ mU (L_ Zk) (L_ za)) (N_ mr (L_ gu) (L_ iC)))))) (N_ Wu (N_ o56 (N_ zp (N_ oP (N_ zp (N_ fg (L_ aj) Z_) (L_ za)) Y2) (N_ ly (N_ mZ Y6 (L_ h8)) (N_ za (L_ aY) (L_ za)))) (N_ o94 (N_ zp (N_ fQ (N_ fc (L_ zg) Z_) (L_ za)) (N_ mH (L_ gK) (L_ za))) (N_ oG (N_ zg (N_ gX (L_ jU) Z_) (L_ aE)) (N_ mt (L_ zg) (L_ iE))))) (N_ o64 (N_ o83 (N_ lJ (N_ m9 (N_ n_ (L_ ip) Z_) (L_ aR)) (N_ fw (L_ zg) (L_ iU))) (N_ zp (N_ fG (N_ nU (L_ ac) Z_) (L_ aJ)) Y1)) (N_ zp (N_ oK (N_ zp (N_ za (L_ j8) Z_) (L_ zg)) (N_ mD (L_ Zc) (L_ ax))) (N_ ll (N_ mS (L_ Zh) (L_ za)) (N_ za (L_ gq) (L_ za))))))) (N_ W.boot_o_6 (N_ W.boot_o_10 (N_ za (N_ o70 (N_ za (N_ lc (N_ mj (L_ ix) Z_) (L_ zg)) (N_ zg (L_ gT) (L_ iY))) (N_ za (N_ za (N_ nY (L_ zg) Z_) (L_ za)) (N_ fo (L_ a_) (L_ au)))) (N_ za (N_ lG (N_ za (N_ n5 (L_ ag) Z_) (L_ aO)) Y2) (N_ za (N_ fD (N_ nP (L_ za) Z_) (L_ aG)) (N_ za (L_ gw) (L_ za))))) (N_ zg (N_ za (N_ za (N_ za Y4 (L_ gf)) (N_ mL (L_ gO) (L_ za))) (N_ lv (N_ za (N_ za (L_ jY) Z_) (L_ hV)) (N_ mz (L_ gB) (L_ iI)))) (N_ lS (N_ za (N_ fN (N_ g8 (L_ za) Z_) (L_ gc)) (N_ fu (L_ gF) (L_ iM))) (N_ za (N_ za (L_ Zj) (L_ i9)) Y1)))) (N_ o46 (N_ o58 (N_ za (N_ lM (N_ za (N_ mf (L_ ir) Z_) (L_ gj)) (N_ mO (L_ gQ) (L_ za))) (N_ za (N_ fI (N_ za (L_ j4) Z_) (L_ aK)) (N_ mC (L_ zg) (L_ iK)))) (N_ za (N_ za (N_ za (N_ zp (L_ za) Z_) (L_ ge)) (N_ za (L_ Zd) (L_ iQ))) (N_ ln (N_ za (L_ yp) (L_ zg)) (N_ fi (L_ za) (L_ al))))) (N_ o66 (N_ o85 (N_ za (N_ fS (N_ za (L_ ik) Z_) (L_ zp)) (N_ mJ (L_ za) (L_ aA))) (N_ za (N_ za (N_ gY (L_ jW) Z_) (L_ yp)) (N_ za (L_ gz) (L_ za)))) (N_ za (N_ lA (N_ za (N_ n4 (L_ ae) Z_) (L_ za)) (N_ zp (L_ yp) (L_ zp))) (N_ za (N_ fB (L_ zg) (L_ i7)) (N_ mm (L_ aU) (L_ iA))))))))
def vt:(@List @Stmt):=[My.top 25,My.top 26,My.top 27,My.top 28,My.top 29,My.top 30,My.top 31,My.top 32,My.top 33,My.top 34,My.top 35]
def qM:=N_ W.boot_o_0 (N_ W.boot_o_1 (N_ Wy (N_ W.boot_o_7 (N_ za (N_ mY (N_ zg (N_ oF (L_ ml) Z_) (L_ mR)) (N_ zz Y6 (L_ ft))) (N_ zz (N_ oO (N_ zz (L_ n8) Z_) (L_ za)) (N_ zg (N_ mX (L_ nS) Z_) (L_ fj)))) (N_ zp (N_ zg (N_ zz Y6 (L_ mM)) (N_ oJ (N_ zz (L_ gZ) Z_) (L_ za))) (N_ o97 (N_ zg (N_ m8 (L_ fb) Z_) (L_ zg)) (N_ zz (L_ fC) (L_ ms))))) (N_ za (N_ o55 (N_ zz (N_ oQ (N_ zz (L_ za) Z_) (L_ mP)) (N_ zg (N_ m6 (L_ za) Z_) (L_ fm))) (N_ zg (N_ zz (N_ zg (L_ fe) Z_) (L_ fv)) (N_ oH (N_ za (L_ nO) Z_) (L_ zg)))) (N_ o63 (N_ o82 (N_ zg (N_ m_ (L_ ff) Z_) (L_ za)) (N_ zz Y5 (L_ za))) (N_ zz (N_ oM (N_ zz (L_ g7) Z_) (L_ mE)) (N_ zg (L_ zg) (L_ mq)))))) (N_ W.boot_o_5 (N_ W.boot_o_9 (N_ o53 (N_ o69 (N_ lO (N_ lh (L_ zg) Z_) (L_ za)) (N_ lz (N_ fK (L_ nZ) Z_) (L_ fq))) (N_ o91 (N_ lH (N_ fR (L_ n6) Z_) (L_ mI)) (N_ lq (N_ fE (L_ nQ) Z_) (L_ mv)))) (N_ za (N_ o80 (N_ lK (N_ fU (L_ ma) Z_) (L_ zg)) (N_ lw (N_ fH (L_ nV) Z_) (L_ mB))) (N_ o99 (N_ lC (N_ fO (L_ g9) Z_) (L_ za)) (N_ lm (L_ mT) (L_ za))))) (N_ o45 (N_ o57 (N_ o76 (N_ lN (N_ fW (L_ mh) Z_) (L_ fA)) (N_ lx (N_ fJ (L_ nX) Z_) (L_ zg))) (N_ o95 (N_ lE (N_ fP (L_ yp) Z_) (L_ mG)) (N_ lp (N_ mV (L_ gW) Z_) (L_ za)))) (N_ za (N_ o84 (N_ lI (N_ fT (L_ n9) Z_) (L_ mK)) (N_ lu (N_ fF (L_ za) Z_) (L_ mx))) (N_ lQ (N_ lB (N_ fM (L_ zg) Z_) (L_ za)) (N_ lj (L_ za) (L_ fh))))))) (N_ W.boot_o_2 (N_ W.boot_o_4 (N_ W.boot_o_8 (N_ zg (N_ o68 (N_ lP (N_ oE (L_ za) Z_) (L_ mQ)) (N_ zp (N_ fL (L_ g6) Z_) (L_ za))) (N_ zp (N_ oN (N_ zp (L_ Ww) Z_) (L_ zg)) (N_ ls (N_ mW (L_ nR) Z_) (L_ mw)))) (N_ o60 (N_ o79 (N_ zp (N_ fV (L_ zg) Z_) (L_ za)) (N_ oI (N_ zp (L_ nW) Z_) (L_ fk))) (N_ o98 (N_ lD (N_ m7 (L_ za) Z_) (L_ mF)) (N_ zp (L_ mU) (L_ mr))))) (N_ Wx (N_ o56 (N_ zp (N_ oP (N_ zp (L_ fg) Z_) (L_ za)) (N_ ly (N_ mZ (L_ zg) Z_) (L_ za))) (N_ o94 (N_ zp (N_ fQ (L_ fc) Z_) (L_ mH)) (N_ oG (N_ zg (L_ gX) Z_) (L_ mt)))) (N_ o64 (N_ o83 (N_ lJ (N_ m9 (L_ n_) Z_) (L_ fw)) (N_ zp (N_ fG (L_ nU) Z_) (L_ zg))) (N_ zp (N_ oK (N_ zp (L_ za) Z_) (L_ mD)) (N_ ll (L_ mS) (L_ za)))))) (N_ W.boot_o_6 (N_ W.boot_o_10 (N_ za (N_ o70 (N_ za (N_ lc (L_ mj) Z_) (L_ zg)) (N_ za (N_ za (L_ nY) Z_) (L_ fo))) (N_ za (N_ lG (N_ za (L_ n5) Z_) (L_ za)) (N_ za (N_ fD (L_ nP) Z_) (L_ za)))) (N_ zg (N_ za (N_ za Y4 (L_ mL)) (N_ lv Y4 (L_ mz))) (N_ lS (N_ za (N_ fN (L_ g8) Z_) (L_ fu)) Y2))) (N_ o46 (N_ o58 (N_ za (N_ lM (N_ za (L_ mf) Z_) (L_ mO)) (N_ za (N_ fI (L_ za) Z_) (L_ mC))) (N_ za (N_ za (N_ za (L_ zp) Z_) (L_ za)) (N_ ln (L_ za) (L_ fi)))) (N_ o66 (N_ o85 (N_ za (N_ fS (L_ za) Z_) (L_ mJ)) (N_ za (N_ za (L_ gY) Z_) (L_ za))) (N_ za (N_ lA (N_ za (L_ n4) Z_) (L_ zp)) (N_ za (L_ fB) (L_ mm)))))))
def vv:(@List @Stmt):=[My.top 11,My.top 12,My.top 13,My.top 14,My.top 15,My.top 16,My.top 17,My.top 18,My.top 19,My.top 20,My.top 21,My.top 22,My.top 23,My.top 24]
def qN:=N_ W.boot_o_0 (N_ W.boot_o_1 (N_ WB (N_ W.boot_o_7 (N_ za (N_ Wz (N_ zg (L_ oF) Z_) (L_ zz)) (N_ zz (L_ oO) (L_ zg))) (N_ zp (N_ zg (L_ zz) (L_ oJ)) (N_ o97 (L_ zg) (L_ zz)))) (N_ za (N_ o55 (N_ zz (L_ oQ) (L_ zg)) (N_ zg (L_ zz) (L_ oH))) (N_ o63 (N_ o82 (L_ zg) (L_ zz)) (N_ zz (L_ oM) (L_ zg))))) (N_ W.boot_o_5 (N_ W.boot_o_9 (N_ o53 (N_ o69 (N_ lO (L_ lh) Z_) (L_ lz)) (N_ o91 (L_ lH) (L_ lq))) (N_ za (N_ o80 (L_ lK) (L_ lw)) (N_ o99 (L_ lC) (L_ lm)))) (N_ o45 (N_ o57 (N_ o76 (L_ lN) (L_ lx)) (N_ o95 (L_ lE) (L_ lp))) (N_ za (N_ o84 (L_ lI) (L_ lu)) (N_ lQ (L_ lB) (L_ lj)))))) (N_ W.boot_o_2 (N_ W.boot_o_4 (N_ W.boot_o_8 (N_ zg (N_ o68 (N_ lP (L_ oE) Z_) (L_ zp)) (N_ zp (L_ oN) (L_ ls))) (N_ o60 (N_ o79 (L_ zp) (L_ oI)) (N_ o98 (L_ lD) (L_ zp)))) (N_ WA (N_ o56 (N_ zp (L_ oP) (L_ ly)) (N_ o94 (L_ zp) (L_ oG))) (N_ o64 (N_ o83 (L_ lJ) (L_ zp)) (N_ zp (L_ oK) (L_ ll))))) (N_ W.boot_o_6 (N_ W.boot_o_10 (N_ za (N_ o70 (N_ za (L_ lc) Z_) (L_ za)) (N_ za (L_ lG) (L_ za))) (N_ zg (N_ za (L_ za) (L_ lv)) (N_ lS (L_ za) (L_ za)))) (N_ o46 (N_ o58 (N_ za (L_ lM) (L_ za)) (N_ za (L_ za) (L_ ln))) (N_ o66 (N_ o85 (L_ za) (L_ za)) (N_ za (L_ lA) (L_ za))))))
def rL:(@List @Stmt):=[My.top 0,My.top 1,My.top 2,My.top 3,My.top 4,My.top 5,My.top 6,My.top 7,My.top 8,My.top 9,My.top 10]
def o1:=N_ W.boot_o_0 (N_ W.boot_o_1 (N_ W.boot_o_3 (L_ W.boot_o_7) (L_ za)) (N_ W.boot_o_5 (L_ W.boot_o_9) (L_ o45))) (N_ W.boot_o_2 (N_ W.boot_o_4 (L_ W.boot_o_8) (L_ zg)) (N_ W.boot_o_6 (L_ W.boot_o_10) (L_ o46)))
def o3:((x:@Params)→@Heap):=(fun x=>(@Heap.mk (@Array.mk @Obj [(@W.boot_o_0 x),(@W.boot_o_1 x),(@W.boot_o_2 x),(@W.boot_o_3 x),(@W.boot_o_4 x),(@W.boot_o_5 x),(@W.boot_o_6 x),(@W.boot_o_7 x),(@W.boot_o_8 x),(@W.boot_o_9 x),(@W.boot_o_10 x),(za x),(zg x),(o45 x),(o46 x)]) (@Life.mk [] [] [] 0 (@List.nil (@Prod @Nat @Nat)) [] @Bool.false #[] [] 0 @Bool.false @Bool.false @Bool.false (0:Int) [(2000:Int),(10:Int),(10:Int)] @Bool.false 0 @Bool.true [] [] 0 @Bool.false)))
abbrev k3:=(@Life.mk [] [] [] 0 (@List.nil (@Prod @Nat @Nat)) [] @Bool.false #[] [] 0 @Bool.false @Bool.false @Bool.false (0:Int) [(2000:Int),(10:Int),(10:Int)] @Bool.false 0 @Bool.true [] [] 0 @Bool.false)
abbrev S_ (t:Params→W.BT) (n k:Nat) (w:World) (o:OsState):W.SharedT:=W.SharedT.mk (t w.params) n k3 g_ d_ k o
abbrev k0 (x0:World) (x1:OsState):=(@Shared.mk (@yK x0.params) g_ d_ 1096 x1)
abbrev k1:=(@W.OpenRow.toRowW (@W.OpenLaw.row @Challenge.rw_oddbases_k47_machine_reads))
abbrev k2:=(@Prod (@Prod (@List (@Option @FnShape)) @Bool) (@Prod (@List (@Option @PyProof.Rows.PlainShape)) (@Prod (@List (@Option (@Prod @PyProof.Rows.PlainShape @Bool))) (@Prod (@Prod (@List (@Option @FnShape)) @Bool) (@List (@Prod (@Option (@Prod (@List (@Option @FnShape)) @Bool)) (@Option (@Prod @PyProof.Rows.PlainShape @Bool))))))))
abbrev k4 (x0:World) (x1:OsState):=(@ite @Bool (@Eq @Bool @Bool.true @Bool.true) (@instDecidableEqBool @Bool.true @Bool.true) (@BEq.beq @Nat (@instBEqOfDecidableEq @Nat @instDecidableEqNat) (@Array.size @GenState (@Shared.gens (k0 x0 x1))) 0) (@Bool.not (@leftWithCleanup (@Shared.gens (k0 x0 x1)))))
abbrev k5:=(@Bool.true,((@pinGoodD (@PyProof.Rows.drecsOf @h_view_39)),((@PyProof.Rows.plainGoodE @h_view_39 (@W.looseW @h_view_39 [])),((@PyProof.Rows.plainGoodD @h_view_39 []),((@W.wideGood @h_view_39),(@W.clsGoodW @h_view_39 []))))))
abbrev k6:=(@List (@Prod (@Option (@Prod (@List (@Option @FnShape)) @Bool)) (@Option (@Prod @PyProof.Rows.PlainShape @Bool))))
abbrev k7:=(@Code.body (@W.behindTheImports (k1).1) @zY)
abbrev k8 (x0:World) (x1:OsState):=(@Bool.and (@Bool.and (@Bool.and (@W.staticsOk (@importedModules (@Module.body (@Program.main (k1).1))) (@W.boot_heap x0.params) (@yK x0.params)) (@W.namesBound (k1).1 (@yK x0.params))) (@W.gensDone (k0 x0 x1))) (@W.laidKept (@W.boot_heap x0.params) (@yK x0.params)))
abbrev k9:=(@Prod (@Prod (@Option @Str) (@List (@Prod @Str @Value))) (@Prod @Bool (@Prod @Bool k2)))
abbrev k10 (x0:World) (x1:OsState):=(@PyProof.Rows.plainSeenE @h_view_39 (@W.looseW @h_view_39 []) (k0 x0 x1))
abbrev k11:=(@Eq.refl (@List @Addr) My.myAs)
abbrev k12:=(@importedModules (@Module.body (@Program.main (k1).1)))
abbrev k13 (x0:World) (x1:OsState):=(@pinSeenD @h_view_39 (@PyProof.Rows.drecsOf @h_view_39) (k0 x0 x1))
abbrev k14 (x0:World) (x1:OsState):=(@PyProof.Rows.plainSeenD @h_view_39 [] (k0 x0 x1))
abbrev k15:=(@Prod (@List (@Option @FnShape)) @Bool)
abbrev k16 (x0:World) (x1:OsState):=(@W.clsSeenW @h_view_39 [] (k0 x0 x1))
abbrev k17:=(@List.nil (@Prod @Str @W.WData))
abbrev k18:=(@Prod @Flow (@Prod @W.SharedT (@Prod @Code @Pos)))
abbrev k19 (x0:World) (x1:OsState):=(@W.wideSeen @h_view_39 (k0 x0 x1))
abbrev k20:=(@Nat.add 12 (@Nat.add 1 (@Nat.add 1937 (@Nat.add 1752 (@Nat.add 1980 (@Nat.add 800 2))))))
abbrev k21:=(@List (@Option (@Prod @PyProof.Rows.PlainShape @Bool)))
abbrev k22:=(@PyProof.Rows.plainGoodE @h_view_39 (@W.looseW @h_view_39 []))
abbrev k23:=(@HAppend.hAppend (@List @Stmt) (@List @Stmt) (@List @Stmt) (@instHAppendOfAppend (@List @Stmt) (@List.instAppend @Stmt)) @vt (@HAppend.hAppend (@List @Stmt) (@List @Stmt) (@List @Stmt) (@instHAppendOfAppend (@List @Stmt) (@List.instAppend @Stmt)) @xT []))
abbrev k24 (x0:World) (x1:OsState):=(S_ qN 131 342 x0 x1)
abbrev k25 (x0:World) (x1:OsState):=(S_ qM 310 572 x0 x1)
abbrev k26 (x0:World) (x1:OsState):=(S_ qL 566 897 x0 x1)
abbrev k27:=(@PyProof.Rows.clssOf @h_view_39 (@W.looseW @h_view_39 []))
abbrev k28 (x0:World) (x1:OsState):=(S_ o1 15 187 x0 x1)
abbrev k29 (x0:World) (x1:OsState):=(@Shared.mk (@o3 x0.params) g_ d_ 187 x1)
abbrev k30 (x0:World) (x1:OsState):=(@PyProof.Rows.tablesOk @h_view_39 (@Shared.heap (k0 x0 x1)))
abbrev k31 (x0:World) (x1:OsState):=(@PyProof.Rows.tabsOk @h_view_39 (k0 x0 x1))
abbrev k32:=(@PyProof.Rows.plainGoodD @h_view_39 [])
abbrev k33 (x0:World) (x1:OsState):=(@Heap.accountedOkI (@Shared.heap (k0 x0 x1)) k12)
abbrev k34 (x0:World) (x1:OsState):=(S_ qK 709 1096 x0 x1)
abbrev k35 (x0:World) (x1:OsState):=(@Heap.isNs (@Shared.heap (k0 x0 x1)) @mainGlobals)
abbrev k36 (x0:World) (x1:OsState):=(@Heap.isNs (@Shared.heap (k0 x0 x1)) @builtinsNs)
abbrev k37 (x0:World) (x1:OsState):=(@Shared.mk (@W.boot_heap x0.params) g_ @W.boot_drawn @W.boot_toks x1)
abbrev k38:=(@Thread.mk (@denote @treeTable k7) k7 (P_ 0 0 0 0) [(@W.topFrame (P_ 0 0 0 0))])
abbrev k39:=(@Prod @Flow (@Prod @Shared (@Prod @Code @Pos)))
abbrev kh0:=(@W.kHook @h_heap_39 My.myAs (fun x0=>(@id (@Eq (@List @Addr) My.myAs (@List.map (@Prod @Addr @Obj) @Addr (fun (x1:(@Prod @Addr @Obj))=>(@Prod.fst @Addr @Obj x1)) (@h_heap_39 x0))) k11)))
theorem pf_846:((x0:World)→(@Eq ((x1:OsState)→(@W.Hook.α kh0)) (fun x1=>(@W.Hook.obs kh0 (k0 x0 x1))) (fun x1=>(@W.Hook.val kh0 x0)))):=by intros; kernel_rfl
theorem pf_836:((x0:World)→(@Eq ((x1:OsState)→k6) (fun x1=>(k16 x0 x1)) (fun x1=>(@W.clsGoodW @h_view_39 [])))):=by intros; kernel_rfl
theorem pf_834:((x0:World)→(@Eq ((x1:OsState)→k15) (fun x1=>(k19 x0 x1)) (fun x1=>(@W.wideGood @h_view_39)))):=by intros; kernel_rfl
theorem pf_837:((x0:World)→((x1:OsState)→(@Eq (@Prod k15 k6) ((k19 x0 x1),(k16 x0 x1)) ((@W.wideGood @h_view_39),(@W.clsGoodW @h_view_39 []))))):=(fun x0=>(fun x1=>(@W.looks_pair k15 k6 (k19 x0 x1) (@W.wideGood @h_view_39) (k16 x0 x1) (@W.clsGoodW @h_view_39 []) ((fun x2=>(fun x3=>(congrFun (My.pf_834 x2) x3))) x0 x1) ((fun x2=>(fun x3=>(congrFun (My.pf_836 x2) x3))) x0 x1))))
theorem pf_832:((x0:World)→(@Eq ((x1:OsState)→k21) (fun x1=>(k14 x0 x1)) (fun x1=>k32))):=by intros; kernel_rfl
theorem pf_838:((x0:World)→((x1:OsState)→(@Eq (@Prod k21 (@Prod k15 k6)) ((k14 x0 x1),((k19 x0 x1),(k16 x0 x1))) (k32,((@W.wideGood @h_view_39),(@W.clsGoodW @h_view_39 [])))))):=(fun x0=>(fun x1=>(@W.looks_pair k21 (@Prod k15 k6) (k14 x0 x1) k32 ((k19 x0 x1),(k16 x0 x1)) ((@W.wideGood @h_view_39),(@W.clsGoodW @h_view_39 [])) ((fun x2=>(fun x3=>(congrFun (My.pf_832 x2) x3))) x0 x1) (@My.pf_837 x0 x1))))
theorem pf_830:((x0:World)→(@Eq ((x1:OsState)→(@List (@Option @PyProof.Rows.PlainShape))) (fun x1=>(k10 x0 x1)) (fun x1=>k22))):=by intros; kernel_rfl
theorem pf_839:((x0:World)→((x1:OsState)→(@Eq (@Prod (@List (@Option @PyProof.Rows.PlainShape)) (@Prod k21 (@Prod k15 k6))) ((k10 x0 x1),((k14 x0 x1),((k19 x0 x1),(k16 x0 x1)))) (k22,(k32,((@W.wideGood @h_view_39),(@W.clsGoodW @h_view_39 []))))))):=(fun x0=>(fun x1=>(@W.looks_pair (@List (@Option @PyProof.Rows.PlainShape)) (@Prod k21 (@Prod k15 k6)) (k10 x0 x1) k22 ((k14 x0 x1),((k19 x0 x1),(k16 x0 x1))) (k32,((@W.wideGood @h_view_39),(@W.clsGoodW @h_view_39 []))) ((fun x2=>(fun x3=>(congrFun (My.pf_830 x2) x3))) x0 x1) (@My.pf_838 x0 x1))))
theorem pf_828:((x0:World)→(@Eq ((x1:OsState)→k15) (fun x1=>(k13 x0 x1)) (fun x1=>(@pinGoodD (@PyProof.Rows.drecsOf @h_view_39))))):=by intros; kernel_rfl
theorem pf_840:((x0:World)→((x1:OsState)→(@Eq k2 ((k13 x0 x1),((k10 x0 x1),((k14 x0 x1),((k19 x0 x1),(k16 x0 x1))))) ((@pinGoodD (@PyProof.Rows.drecsOf @h_view_39)),(k22,(k32,((@W.wideGood @h_view_39),(@W.clsGoodW @h_view_39 [])))))))):=(fun x0=>(fun x1=>(@W.looks_pair k15 (@Prod (@List (@Option @PyProof.Rows.PlainShape)) (@Prod k21 (@Prod k15 k6))) (k13 x0 x1) (@pinGoodD (@PyProof.Rows.drecsOf @h_view_39)) ((k10 x0 x1),((k14 x0 x1),((k19 x0 x1),(k16 x0 x1)))) (k22,(k32,((@W.wideGood @h_view_39),(@W.clsGoodW @h_view_39 [])))) ((fun x2=>(fun x3=>(congrFun (My.pf_828 x2) x3))) x0 x1) (@My.pf_839 x0 x1))))
theorem pf_826:((x0:World)→(@Eq ((x1:OsState)→@Bool) (fun x1=>(k31 x0 x1)) (fun x1=>@Bool.true))):=by intros; kernel_rfl
theorem pf_841:((x0:World)→((x1:OsState)→(@Eq (@Prod @Bool k2) ((k31 x0 x1),((k13 x0 x1),((k10 x0 x1),((k14 x0 x1),((k19 x0 x1),(k16 x0 x1)))))) k5))):=(fun x0=>(fun x1=>(@W.looks_pair @Bool k2 (k31 x0 x1) @Bool.true ((k13 x0 x1),((k10 x0 x1),((k14 x0 x1),((k19 x0 x1),(k16 x0 x1))))) ((@pinGoodD (@PyProof.Rows.drecsOf @h_view_39)),(k22,(k32,((@W.wideGood @h_view_39),(@W.clsGoodW @h_view_39 []))))) ((fun x2=>(fun x3=>(congrFun (My.pf_826 x2) x3))) x0 x1) (@My.pf_840 x0 x1))))
theorem pf_824:((x0:World)→(@Eq ((x1:OsState)→@Bool) (fun x1=>(@Bool.and (@Bool.and (@Bool.and (@Bool.and (@Bool.and (@Bool.and (@Heap.keysOk (@Shared.heap (k0 x0 x1)) (@W.looseW @h_view_39 []) (@List.map @DefRec @Str (fun (x2:@DefRec)=>(@DefRec.name x2)) (@PyProof.Rows.recsOf @h_view_39)) (@List.map (@Prod @Str @PyData) @Str (fun (x2:(@Prod @Str @PyData))=>(@Prod.fst @Str @PyData x2)) (@PyProof.Rows.litsOf @h_view_39)) (@List.map @ClsRec @Str (fun (x2:@ClsRec)=>(@ClsRec.name x2)) k27)) (k33 x0 x1)) (k35 x0 x1)) (k36 x0 x1)) (k30 x0 x1)) ((fun (x2:@Shared)=>(@Bool.and (@W.xlAt @h_view_39 k17 x2) (@W.recOk (@W.RowW.records k1) x2))) (k0 x0 x1))) (k4 x0 x1))) (fun x1=>@Bool.true))):=by intros; kernel_rfl
theorem pf_842:((x0:World)→((x1:OsState)→(@Eq (@Prod @Bool (@Prod @Bool k2)) ((@Bool.and (@Bool.and (@Bool.and (@Bool.and (@Bool.and (@Bool.and (@Heap.keysOk (@Shared.heap (k0 x0 x1)) (@W.looseW @h_view_39 []) (@List.map @DefRec @Str (fun (x2:@DefRec)=>(@DefRec.name x2)) (@PyProof.Rows.recsOf @h_view_39)) (@List.map (@Prod @Str @PyData) @Str (fun (x2:(@Prod @Str @PyData))=>(@Prod.fst @Str @PyData x2)) (@PyProof.Rows.litsOf @h_view_39)) (@List.map @ClsRec @Str (fun (x2:@ClsRec)=>(@ClsRec.name x2)) k27)) (k33 x0 x1)) (k35 x0 x1)) (k36 x0 x1)) (k30 x0 x1)) ((fun (x2:@Shared)=>(@Bool.and (@W.xlAt @h_view_39 k17 x2) (@W.recOk (@W.RowW.records k1) x2))) (k0 x0 x1))) (k4 x0 x1)),((k31 x0 x1),((k13 x0 x1),((k10 x0 x1),((k14 x0 x1),((k19 x0 x1),(k16 x0 x1))))))) (@Bool.true,k5)))):=(fun x0=>(fun x1=>(@W.looks_pair @Bool (@Prod @Bool k2) (@Bool.and (@Bool.and (@Bool.and (@Bool.and (@Bool.and (@Bool.and (@Heap.keysOk (@Shared.heap (k0 x0 x1)) (@W.looseW @h_view_39 []) (@List.map @DefRec @Str (fun (x2:@DefRec)=>(@DefRec.name x2)) (@PyProof.Rows.recsOf @h_view_39)) (@List.map (@Prod @Str @PyData) @Str (fun (x2:(@Prod @Str @PyData))=>(@Prod.fst @Str @PyData x2)) (@PyProof.Rows.litsOf @h_view_39)) (@List.map @ClsRec @Str (fun (x2:@ClsRec)=>(@ClsRec.name x2)) k27)) (k33 x0 x1)) (k35 x0 x1)) (k36 x0 x1)) (k30 x0 x1)) ((fun (x2:@Shared)=>(@Bool.and (@W.xlAt @h_view_39 k17 x2) (@W.recOk (@W.RowW.records k1) x2))) (k0 x0 x1))) (k4 x0 x1)) @Bool.true ((k31 x0 x1),((k13 x0 x1),((k10 x0 x1),((k14 x0 x1),((k19 x0 x1),(k16 x0 x1)))))) k5 ((fun x2=>(fun x3=>(congrFun (My.pf_824 x2) x3))) x0 x1) (@My.pf_841 x0 x1))))
theorem pf_822:((x0:World)→(@Eq ((x1:OsState)→(@Prod (@Option @Str) (@List (@Prod @Str @Value)))) (fun x1=>(@Heap.bltView (@Shared.heap (k0 x0 x1)))) (fun x1=>@bltViewBooted))):=by intros; kernel_rfl
theorem pf_843:((x0:World)→((x1:OsState)→(@Eq k9 ((@Heap.bltView (@Shared.heap (k0 x0 x1))),((@Bool.and (@Bool.and (@Bool.and (@Bool.and (@Bool.and (@Bool.and (@Heap.keysOk (@Shared.heap (k0 x0 x1)) (@W.looseW @h_view_39 []) (@List.map @DefRec @Str (fun (x2:@DefRec)=>(@DefRec.name x2)) (@PyProof.Rows.recsOf @h_view_39)) (@List.map (@Prod @Str @PyData) @Str (fun (x2:(@Prod @Str @PyData))=>(@Prod.fst @Str @PyData x2)) (@PyProof.Rows.litsOf @h_view_39)) (@List.map @ClsRec @Str (fun (x2:@ClsRec)=>(@ClsRec.name x2)) k27)) (k33 x0 x1)) (k35 x0 x1)) (k36 x0 x1)) (k30 x0 x1)) ((fun (x2:@Shared)=>(@Bool.and (@W.xlAt @h_view_39 k17 x2) (@W.recOk (@W.RowW.records k1) x2))) (k0 x0 x1))) (k4 x0 x1)),((k31 x0 x1),((k13 x0 x1),((k10 x0 x1),((k14 x0 x1),((k19 x0 x1),(k16 x0 x1)))))))) (@bltViewBooted,(@Bool.true,k5))))):=(fun x0=>(fun x1=>(@W.looks_pair (@Prod (@Option @Str) (@List (@Prod @Str @Value))) (@Prod @Bool (@Prod @Bool k2)) (@Heap.bltView (@Shared.heap (k0 x0 x1))) @bltViewBooted ((@Bool.and (@Bool.and (@Bool.and (@Bool.and (@Bool.and (@Bool.and (@Heap.keysOk (@Shared.heap (k0 x0 x1)) (@W.looseW @h_view_39 []) (@List.map @DefRec @Str (fun (x2:@DefRec)=>(@DefRec.name x2)) (@PyProof.Rows.recsOf @h_view_39)) (@List.map (@Prod @Str @PyData) @Str (fun (x2:(@Prod @Str @PyData))=>(@Prod.fst @Str @PyData x2)) (@PyProof.Rows.litsOf @h_view_39)) (@List.map @ClsRec @Str (fun (x2:@ClsRec)=>(@ClsRec.name x2)) k27)) (k33 x0 x1)) (k35 x0 x1)) (k36 x0 x1)) (k30 x0 x1)) ((fun (x2:@Shared)=>(@Bool.and (@W.xlAt @h_view_39 k17 x2) (@W.recOk (@W.RowW.records k1) x2))) (k0 x0 x1))) (k4 x0 x1)),((k31 x0 x1),((k13 x0 x1),((k10 x0 x1),((k14 x0 x1),((k19 x0 x1),(k16 x0 x1))))))) (@Bool.true,k5) ((fun x2=>(fun x3=>(congrFun (My.pf_822 x2) x3))) x0 x1) (@My.pf_842 x0 x1))))
theorem pf_820:((x0:World)→(@Eq ((x1:OsState)→@PyProof.Rows.Seen) (fun x1=>(@PyProof.Rows.seen (@List.map @DefRec @Str (fun (x2:@DefRec)=>(@DefRec.name x2)) (@PyProof.Rows.recsOf @h_view_39)) (@PyProof.Rows.ownsOf @h_view_39) [] (@Shared.mk (@Shared.heap (k0 x0 x1)) #[] (@Shared.drawn (k0 x0 x1)) (@Shared.toks (k0 x0 x1)) (@Shared.os (k0 x0 x1))))) (fun x1=>(@PyProof.Rows.expectedOf @h_view_39)))):=by intros; kernel_rfl
theorem pf_844:((x0:World)→((x1:OsState)→(@Eq (@Prod @PyProof.Rows.Seen k9) (@W.openSeen @h_view_39 [] k12 (fun (x2:@Shared)=>(@Bool.and (@W.xlAt @h_view_39 k17 x2) (@W.recOk (@W.RowW.records k1) x2))) @Bool.true (k0 x0 x1)) (@W.openGood @h_view_39 [])))):=(fun x0=>(fun x1=>(@W.looks_pair @PyProof.Rows.Seen k9 (@PyProof.Rows.seen (@List.map @DefRec @Str (fun (x2:@DefRec)=>(@DefRec.name x2)) (@PyProof.Rows.recsOf @h_view_39)) (@PyProof.Rows.ownsOf @h_view_39) [] (@Shared.mk (@Shared.heap (k0 x0 x1)) #[] (@Shared.drawn (k0 x0 x1)) (@Shared.toks (k0 x0 x1)) (@Shared.os (k0 x0 x1)))) (@PyProof.Rows.expectedOf @h_view_39) ((@Heap.bltView (@Shared.heap (k0 x0 x1))),((@Bool.and (@Bool.and (@Bool.and (@Bool.and (@Bool.and (@Bool.and (@Heap.keysOk (@Shared.heap (k0 x0 x1)) (@W.looseW @h_view_39 []) (@List.map @DefRec @Str (fun (x2:@DefRec)=>(@DefRec.name x2)) (@PyProof.Rows.recsOf @h_view_39)) (@List.map (@Prod @Str @PyData) @Str (fun (x2:(@Prod @Str @PyData))=>(@Prod.fst @Str @PyData x2)) (@PyProof.Rows.litsOf @h_view_39)) (@List.map @ClsRec @Str (fun (x2:@ClsRec)=>(@ClsRec.name x2)) k27)) (k33 x0 x1)) (k35 x0 x1)) (k36 x0 x1)) (k30 x0 x1)) ((fun (x2:@Shared)=>(@Bool.and (@W.xlAt @h_view_39 k17 x2) (@W.recOk (@W.RowW.records k1) x2))) (k0 x0 x1))) (k4 x0 x1)),((k31 x0 x1),((k13 x0 x1),((k10 x0 x1),((k14 x0 x1),((k19 x0 x1),(k16 x0 x1)))))))) (@bltViewBooted,(@Bool.true,k5)) ((fun x2=>(fun x3=>(congrFun (My.pf_820 x2) x3))) x0 x1) (@My.pf_843 x0 x1))))
theorem pf_847:((x0:World)→((x1:OsState)→(@Eq (@Prod (@Prod @PyProof.Rows.Seen k9) (@W.Hook.α kh0)) ((@W.openSeen @h_view_39 [] k12 (fun (x2:@Shared)=>(@Bool.and (@W.xlAt @h_view_39 k17 x2) (@W.recOk (@W.RowW.records k1) x2))) @Bool.true (k0 x0 x1)),(@W.Hook.obs kh0 (k0 x0 x1))) ((@W.openGood @h_view_39 []),(@W.Hook.val kh0 x0))))):=(fun x0=>(fun x1=>(@W.looks_pair (@Prod @PyProof.Rows.Seen k9) (@W.Hook.α kh0) (@W.openSeen @h_view_39 [] k12 (fun (x2:@Shared)=>(@Bool.and (@W.xlAt @h_view_39 k17 x2) (@W.recOk (@W.RowW.records k1) x2))) @Bool.true (k0 x0 x1)) (@W.openGood @h_view_39 []) (@W.Hook.obs kh0 (k0 x0 x1)) (@W.Hook.val kh0 x0) (@My.pf_844 x0 x1) ((fun x2=>(fun x3=>(congrFun (My.pf_846 x2) x3))) x0 x1))))
theorem pf_818:((x0:World)→(@Eq ((x1:OsState)→@Bool) (fun x1=>(k8 x0 x1)) (fun x1=>@Bool.true))):=by intros; kernel_rfl
theorem pf_848:((x0:World)→((x1:OsState)→(@Eq (@Prod @Bool (@Prod (@Prod @PyProof.Rows.Seen k9) (@W.Hook.α kh0))) ((k8 x0 x1),((@W.openSeen @h_view_39 [] k12 (fun (x2:@Shared)=>(@Bool.and (@W.xlAt @h_view_39 k17 x2) (@W.recOk (@W.RowW.records k1) x2))) @Bool.true (k0 x0 x1)),(@W.Hook.obs kh0 (k0 x0 x1)))) (@Bool.true,((@W.openGood @h_view_39 []),(@W.Hook.val kh0 x0)))))):=(fun x0=>(fun x1=>(@W.looks_pair @Bool (@Prod (@Prod @PyProof.Rows.Seen k9) (@W.Hook.α kh0)) (k8 x0 x1) @Bool.true ((@W.openSeen @h_view_39 [] k12 (fun (x2:@Shared)=>(@Bool.and (@W.xlAt @h_view_39 k17 x2) (@W.recOk (@W.RowW.records k1) x2))) @Bool.true (k0 x0 x1)),(@W.Hook.obs kh0 (k0 x0 x1))) ((@W.openGood @h_view_39 []),(@W.Hook.val kh0 x0)) ((fun x2=>(fun x3=>(congrFun (My.pf_818 x2) x3))) x0 x1) (@My.pf_847 x0 x1))))
theorem pf_813:((x0:World)→(@Eq ((x1:OsState)→(@Option @Shared)) (fun x1=>(@W.topRun @treeTable (k1).1 x0 11 v_ 2 (@W.SharedT.abs (k34 x0 x1)) (@Thread.mk (@W.doneF @Flow.next) k7 (P_ 322 0 343 101) [(@W.topFrame (P_ 0 0 0 0))]))) (fun x1=>(@some @Shared (k0 x0 x1))))):=by intros; kernel_rfl
theorem pf_49:((x0:World)→(@Eq ((x1:OsState)→(@Option k39)) (fun x1=>(@W.segRun @treeTable (k1).1 x0 11 v_ 1 1 (k29 x0 x1) (@W.blockOf (@W.behindTheImports (k1).1) @zY k7 (P_ 0 0 0 0) [(@W.topFrame (P_ 0 0 0 0))]))) (fun x1=>(@some k39 (@Flow.next,((@W.SharedT.abs (k28 x0 x1)),(k7,(P_ 0 0 0 0)))))))):=by intros; kernel_rfl
theorem pf_47:((x0:World)→(@Eq ((x1:OsState)→(@Option (@Prod @Shared @Thread))) (fun x1=>(@W.topGo @treeTable (k1).1 x0 11 v_ 12 (k37 x0 x1) (@W.topStub (k1).1))) (fun x1=>(@some (@Prod @Shared @Thread) ((k29 x0 x1),k38))))):=by intros; kernel_rfl
theorem pf_191:((x0:World)→(@Eq ((x1:OsState)→(@Option k18)) (fun x1=>(@W.segRunT @treeTable (k1).1 x0 11 v_ 1 1937 (k28 x0 x1) (@W.piecesOf @rL @zY k7 (P_ 0 0 0 0) [(@W.topFrame (P_ 0 0 0 0))]))) (fun x1=>(@some k18 (@Flow.next,((k24 x0 x1),(k7,(P_ 21 0 22 8)))))))):=by intros; kernel_rfl
theorem pf_389:((x0:World)→(@Eq ((x1:OsState)→(@Option k18)) (fun x1=>(@W.segRunT @treeTable (k1).1 x0 11 v_ 1 1752 (k24 x0 x1) (@W.piecesOf @vv @zY k7 (P_ 21 0 22 8) [(@W.topFrame (P_ 0 0 0 0))]))) (fun x1=>(@some k18 (@Flow.next,((k25 x0 x1),(k7,(P_ 79 0 88 24)))))))):=by intros; kernel_rfl
theorem pf_662:((x0:World)→(@Eq ((x1:OsState)→(@Option k18)) (fun x1=>(@W.segRunT @treeTable (k1).1 x0 11 v_ 1 1980 (k25 x0 x1) (@W.piecesOf @vt @zY k7 (P_ 79 0 88 24) [(@W.topFrame (P_ 0 0 0 0))]))) (fun x1=>(@some k18 (@Flow.next,((k26 x0 x1),(k7,(P_ 194 0 198 16)))))))):=by intros; kernel_rfl
theorem pf_811:((x0:World)→(@Eq ((x1:OsState)→(@Option k18)) (fun x1=>(@W.segRunT @treeTable (k1).1 x0 11 v_ 1 800 (k26 x0 x1) (@W.piecesOf @xT @zY k7 (P_ 194 0 198 16) [(@W.topFrame (P_ 0 0 0 0))]))) (fun x1=>(@some k18 (@Flow.next,((k34 x0 x1),(k7,(P_ 322 0 343 101)))))))):=by intros; kernel_rfl
theorem pf_814:((x0:World)→((x1:OsState)→(@Eq (@Option @Shared) (@W.topRun @treeTable (k1).1 x0 11 v_ k20 (k37 x0 x1) (@W.topStub (k1).1)) (@some @Shared (k0 x0 x1))))):=(fun x0=>(fun x1=>(@W.go_top @treeTable (k1).1 x0 11 v_ 12 (@Nat.add 1 (@Nat.add 1937 (@Nat.add 1752 (@Nat.add 1980 (@Nat.add 800 2))))) (k37 x0 x1) (k29 x0 x1) (k0 x0 x1) (@W.topStub (k1).1) k38 (congrFun (My.pf_47 x0) x1) (@W.piece_block @treeTable (k1).1 x0 11 v_ @zY (P_ 0 0 0 0) 1 (@Nat.add 1937 (@Nat.add 1752 (@Nat.add 1980 (@Nat.add 800 2)))) (k29 x0 x1) (@W.SharedT.abs (k28 x0 x1)) (k0 x0 x1) (@W.behindTheImports (k1).1) k7 (P_ 0 0 0 0) (P_ 0 0 0 0) (congrFun (My.pf_49 x0) x1) (@W.piece_app @treeTable (k1).1 x0 11 v_ @zY (P_ 0 0 0 0) 1937 (@Nat.add 1752 (@Nat.add 1980 (@Nat.add 800 2))) (@W.SharedT.abs (k28 x0 x1)) (@W.SharedT.abs (k24 x0 x1)) (k0 x0 x1) @rL (@HAppend.hAppend (@List @Stmt) (@List @Stmt) (@List @Stmt) (@instHAppendOfAppend (@List @Stmt) (@List.instAppend @Stmt)) @vv k23) k7 (P_ 0 0 0 0) (P_ 21 0 22 8) (My.sg_ (congrFun (My.pf_191 x0) x1)) (@W.piece_app @treeTable (k1).1 x0 11 v_ @zY (P_ 0 0 0 0) 1752 (@Nat.add 1980 (@Nat.add 800 2)) (@W.SharedT.abs (k24 x0 x1)) (@W.SharedT.abs (k25 x0 x1)) (k0 x0 x1) @vv k23 k7 (P_ 21 0 22 8) (P_ 79 0 88 24) (My.sg_ (congrFun (My.pf_389 x0) x1)) (@W.piece_app @treeTable (k1).1 x0 11 v_ @zY (P_ 0 0 0 0) 1980 (@Nat.add 800 2) (@W.SharedT.abs (k25 x0 x1)) (@W.SharedT.abs (k26 x0 x1)) (k0 x0 x1) @vt (@HAppend.hAppend (@List @Stmt) (@List @Stmt) (@List @Stmt) (@instHAppendOfAppend (@List @Stmt) (@List.instAppend @Stmt)) @xT []) k7 (P_ 79 0 88 24) (P_ 194 0 198 16) (My.sg_ (congrFun (My.pf_662 x0) x1)) (@W.piece_app @treeTable (k1).1 x0 11 v_ @zY (P_ 0 0 0 0) 800 2 (@W.SharedT.abs (k26 x0 x1)) (@W.SharedT.abs (k34 x0 x1)) (k0 x0 x1) @xT [] k7 (P_ 194 0 198 16) (P_ 322 0 343 101) (My.sg_ (congrFun (My.pf_811 x0) x1)) (congrFun (My.pf_813 x0) x1)))))))))
theorem pf_816:((x0:World)→(@Eq (@Prod @Bool (@Prod @Nat (@Option @Value))) ((@Bool.and (@Heap.isNs (@W.boot_heap x0.params) @mainGlobals) (@BEq.beq @Nat (@instBEqOfDecidableEq @Nat @instDecidableEqNat) (@Array.size @GenState g_) 0)),((@Array.size @Obj (@Heap.objs (@W.boot_heap x0.params))),(@Heap.nsMap (@W.boot_heap x0.params) @mainGlobals (.ofString "__annotations__")))) (@Bool.true,(11,v_)))):=by intros; kernel_rfl
theorem pf_43:((x0:@Shared)→(@Eq (@Option @Shared) (@fenceModules? (k1).1 x0) (@some @Shared x0))):=by intros; kernel_rfl
theorem pf_42:(@Eq @Program (@W.opening (k1).1) (@W.plainProg (@Scope.names (@Module.scope (@Program.main (k1).1))))):=by intros; kernel_rfl
theorem left:(@W.LeftO (k1).1 @h_view_39 [] (fun (x0:@Shared)=>(@Bool.and (@W.xlAt @h_view_39 k17 x0) (@W.recOk (@W.RowW.records k1) x0))) (@W.Hook.α kh0) (@W.Hook.obs kh0) (@W.Hook.val kh0) 13014 @Bool.true):=(@W.LeftO.of_pieces (k1).1 @h_view_39 [] (fun (x0:@Shared)=>(@Bool.and (@W.xlAt @h_view_39 k17 x0) (@W.recOk (@W.RowW.records k1) x0))) (@W.Hook.α kh0) (@W.Hook.obs kh0) (@W.Hook.val kh0) 13014 @Bool.true @W.boot_heap @yK g_ g_ @W.boot_drawn d_ @W.boot_toks 1096 11 v_ k20 (@W.boot_open (k1).1 13014 @My.pf_42 (@of_decide_eq_true (@Eq @Bool (@Nat.ble 600 13014) @Bool.true) (@instDecidableEqBool (@Nat.ble 600 13014) @Bool.true) (@id (@Eq @Bool (@Decidable.decide (@Eq @Bool (@Nat.ble 600 13014) @Bool.true) (@instDecidableEqBool (@Nat.ble 600 13014) @Bool.true)) @Bool.true) (@Eq.refl @Bool @Bool.true))) @My.pf_43) @My.pf_816 @My.pf_814 (@of_decide_eq_true (@Eq @Bool (@Nat.ble k20 13014) @Bool.true) (@instDecidableEqBool (@Nat.ble k20 13014) @Bool.true) (@id (@Eq @Bool (@Decidable.decide (@Eq @Bool (@Nat.ble k20 13014) @Bool.true) (@instDecidableEqBool (@Nat.ble k20 13014) @Bool.true)) @Bool.true) (@Eq.refl @Bool @Bool.true))) (fun x0=>(@funext @OsState (fun x1=>(@Prod @Bool (@Prod (@Prod @PyProof.Rows.Seen k9) (@W.Hook.α kh0)))) (fun x1=>((k8 x0 x1),((@W.openSeen @h_view_39 [] k12 (fun (x2:@Shared)=>(@Bool.and (@W.xlAt @h_view_39 k17 x2) (@W.recOk (@W.RowW.records k1) x2))) @Bool.true (k0 x0 x1)),(@W.Hook.obs kh0 (k0 x0 x1))))) (fun x1=>(@Bool.true,((@W.openGood @h_view_39 []),(@W.Hook.val kh0 x0)))) (fun x1=>(@My.pf_848 x0 x1)))))
end My
end
theorem My.myE:∀ P,My.myAs=(My.h_heap_39 P).map (·.1):=fun _=>by kernel_rfl
set_option maxRecDepth 100000
set_option maxHeartbeats 4000000
namespace OD
open PySem PySem.Spec PyProof.Rows L2
abbrev St:=L2.St
noncomputable def Zx (X:Cx):Hp:=if X.stack.length=X.outer.length∨X.fn ""=false then (fun _=>none) else X.H₀
theorem qg {CX:CXT} {P:Program} {w:World} {K:PySem.W.Frag} {mg:Str→Option Value} {base:Heap} {N:List Str} {qual:Str} {scope:Scope} {f:Addr} {cd:Value} {A:Around} {outer:List Env} {s:Shared} {H:Hp} {E:XK}:Zx (yb CX P w K mg base N qual scope f cd A outer s H E)=H:=if_neg (fun z=>z.elim (Nat.succ_ne_self _) (fun z=>Bool.noConfusion z))
theorem uh {X:Cx} (h:X.stack.length≠X.outer.length) (hf:X.fn ""=true:=by rfl):Zx X=X.H₀:=if_neg (fun z=>z.elim h (fun z=>by rw [hf] at z; cases z))
variable {Z:Hp}
structure DtP where
 is:Hp→V→Prop
 mono:∀ {g g':Hp} {v:V},(∀ a o,g a=some o→g' a=some o)→is g v→is g' v
 ref:∀ {g:Hp} {v:V},is g v→∃ a,v=.ref a
inductive Dt where
 | non | bl (b:Bool) | int (i:Int) | str (x:Str) | tup (ds:List Dt) | lst (ds:List Dt) | scr (ns:List Int) | way (C:Addr) (f:Str) (n:Int) | exc (C:Addr) | opq (φ:DtP)
def excAt (a C:Addr):Heap→Prop:=fun h=>∃ o,h.get? a=some o∧o.cls=.ref C
mutual
def Is (K:PySem.W.Frag) (H:Hp):Dt→V→Prop
 | .non,v=>v=.non
 | .bl b,v=>v=.bl b
 | .int i,v=>v=.int i
 | .str x,v=>v=.str x
 | .tup ds,v=>∃ a xs,v=.ref a∧H a=some (.tup xs)∧AllIs K H ds xs
 | .lst ds,v=>∃ a xs,v=.ref a∧H a=some (.lst xs)∧AllIs K H ds xs
 | .scr ns,v=>∃ a,v=.ref a∧SqL K H a (ns.map V.int)
 | .way C f n,v=>∃ a dx,v=.ref a∧H a=some (.ins C dx [(f,.int n)])
 | .exc C,v=>∃ a,v=.ref a∧H a=some (.ext (excAt a C))
 | .opq φ,v=>φ.is H v
def AllIs (K:PySem.W.Frag) (H:Hp):List Dt→List V→Prop
 | [],xs=>xs=[]
 | d::ds,xs=>∃ x r,xs=x::r∧Is K H d x∧AllIs K H ds r
end
variable {K:PySem.W.Frag} {H H' H1 H2:Hp}
theorem is_non {v:V}:Is K H .non v↔v=.non:=by unfold Is; exact Iff.rfl
theorem is_bl {b:Bool} {v:V}:Is K H (.bl b) v↔v=.bl b:=by unfold Is; exact Iff.rfl
theorem is_int {i:Int} {v:V}:Is K H (.int i) v↔v=.int i:=by unfold Is; exact Iff.rfl
theorem is_str {x:Str} {v:V}:Is K H (.str x) v↔v=.str x:=by unfold Is; exact Iff.rfl
theorem is_tup {ds:List Dt} {v:V}:Is K H (.tup ds) v↔∃ a xs,v=.ref a∧H a=some (.tup xs)∧AllIs K H ds xs:=by
 constructor
 ·intro h; unfold Is at h; exact h
 ·intro h; unfold Is; exact h
theorem is_lst {ds:List Dt} {v:V}:Is K H (.lst ds) v↔∃ a xs,v=.ref a∧H a=some (.lst xs)∧AllIs K H ds xs:=by
 constructor
 ·intro h; unfold Is at h; exact h
 ·intro h; unfold Is; exact h
theorem is_scr {ns:List Int} {v:V}:Is K H (.scr ns) v↔∃ a,v=.ref a∧SqL K H a (ns.map V.int):=by
 constructor
 ·intro h; unfold Is at h; exact h
 ·intro h; unfold Is; exact h
theorem is_way {C:Addr} {f:Str} {n:Int} {v:V}:Is K H (.way C f n) v↔∃ a dx,v=.ref a∧H a=some (.ins C dx [(f,.int n)]):=by
 constructor
 ·intro h; unfold Is at h; exact h
 ·intro h; unfold Is; exact h
theorem is_exc {C:Addr} {v:V}:Is K H (.exc C) v↔∃ a,v=.ref a∧H a=some (.ext (excAt a C)):=by
 constructor
 ·intro h; unfold Is at h; exact h
 ·intro h; unfold Is; exact h
theorem is_opq {φ:DtP} {v:V}:Is K H (.opq φ) v↔φ.is H v:=by
 constructor
 ·intro h; unfold Is at h; exact h
 ·intro h; unfold Is; exact h
theorem allIs_nil {xs:List V}:AllIs K H [] xs↔xs=[]:=by unfold AllIs; exact Iff.rfl
theorem allIs_cons {d:Dt} {ds:List Dt} {xs:List V}:AllIs K H (d::ds) xs↔∃ x r,xs=x::r∧Is K H d x∧AllIs K H ds r:=by
 constructor
 ·intro h; unfold AllIs at h; exact h
 ·intro h; unfold AllIs; exact h
mutual
theorem Is.mono0 (s:Same H H'):∀ {d:Dt} {v:V},Is K H d v→Is K H' d v
 | .non,_,h=>is_non.mpr (is_non.mp h)
 | .bl _,_,h=>is_bl.mpr (is_bl.mp h)
 | .int _,_,h=>is_int.mpr (is_int.mp h)
 | .str _,_,h=>is_str.mpr (is_str.mp h)
 | .tup ds,_,h=>by
  obtain ⟨a,xs,e,h1,h2⟩:=is_tup.mp h
  exact is_tup.mpr ⟨a,xs,e,s _ _ h1,AllIs.mono0 s h2⟩
 | .lst ds,_,h=>by
  obtain ⟨a,xs,e,h1,h2⟩:=is_lst.mp h
  exact is_lst.mpr ⟨a,xs,e,s _ _ h1,AllIs.mono0 s h2⟩
 | .scr ns,_,h=>by
  obtain ⟨a,e,h1⟩:=is_scr.mp h
  exact is_scr.mpr ⟨a,e,s.seq h1⟩
 | .way C f n,_,h=>by
  obtain ⟨a,dx,e,h1⟩:=is_way.mp h
  exact is_way.mpr ⟨a,dx,e,s _ _ h1⟩
 | .exc C,_,h=>by
  obtain ⟨a,e,h1⟩:=is_exc.mp h
  exact is_exc.mpr ⟨a,e,s _ _ h1⟩
 | .opq φ,_,h=>is_opq.mpr (φ.mono (fun a o q=>s a o q) (is_opq.mp h))
theorem AllIs.mono0 (s:Same H H'):∀ {ds:List Dt} {xs:List V},AllIs K H ds xs→AllIs K H' ds xs
 | [],_,h=>allIs_nil.mpr (allIs_nil.mp h)
 | d::ds,_,h=>by
  obtain ⟨x,r,e,h1,h2⟩:=allIs_cons.mp h
  exact allIs_cons.mpr ⟨x,r,e,Is.mono0 s h1,AllIs.mono0 s h2⟩
end
theorem AllIs.length:∀ {ds:List Dt} {xs:List V},AllIs K H ds xs→ds.length=xs.length
 | [],_,h=>by rw [allIs_nil.mp h]; rfl
 | d::ds,_,h=>by
  obtain ⟨x,r,rfl,_,h2⟩:=allIs_cons.mp h
  rw [List.length_cons,List.length_cons,AllIs.length h2]
theorem AllIs.get:∀ {ds:List Dt} {xs:List V} {i:Nat} {d:Dt},AllIs K H ds xs→ds[i]? = some d→∃ v,xs[i]? = some v∧Is K H d v
 | [],_,_,_,_,e=>by simp at e
 | d::ds,_,0,d',h,e=>by
  obtain ⟨x,r,rfl,h1,h2⟩:=allIs_cons.mp h
  simp at e; subst e
  exact ⟨x,rfl,h1⟩
 | d::ds,_,i+1,d',h,e=>by
  obtain ⟨x,r,rfl,h1,h2⟩:=allIs_cons.mp h
  obtain ⟨v,e1,e2⟩:=AllIs.get (i:=i) h2 (by simpa using e)
  exact ⟨v,by simpa using e1,e2⟩
theorem AllIs.get':∀ {ds:List Dt} {xs:List V} {i:Nat} {v:V},AllIs K H ds xs→xs[i]? = some v→∃ d,ds[i]? = some d∧Is K H d v
 | [],_,_,_,h,e=>by rw [allIs_nil.mp h] at e; simp at e
 | d::ds,_,0,v,h,e=>by
  obtain ⟨x,r,rfl,h1,h2⟩:=allIs_cons.mp h
  simp at e; subst e
  exact ⟨d,rfl,h1⟩
 | d::ds,_,i+1,v,h,e=>by
  obtain ⟨x,r,rfl,h1,h2⟩:=allIs_cons.mp h
  obtain ⟨v,e1,e2⟩:=AllIs.get' (i:=i) h2 (by simpa using e)
  exact ⟨v,by simpa using e1,e2⟩
theorem AllIs.append:∀ {ds es:List Dt} {xs ys:List V},AllIs K H ds xs→AllIs K H es ys→AllIs K H (ds++es) (xs++ys)
 | [],_,_,_,h,h'=>by rw [allIs_nil.mp h]; exact h'
 | d::ds,_,_,_,h,h'=>by
  obtain ⟨x,r,rfl,h1,h2⟩:=allIs_cons.mp h
  exact allIs_cons.mpr ⟨x,_,rfl,h1,AllIs.append h2 h'⟩
theorem AllIs.drop:∀ {ds:List Dt} {xs:List V} (n:Nat),AllIs K H ds xs→AllIs K H (ds.drop n) (xs.drop n)
 | _,_,0,h=>h
 | [],_,n+1,h=>by rw [allIs_nil.mp h]; exact allIs_nil.mpr rfl
 | d::ds,_,n+1,h=>by
  obtain ⟨x,r,rfl,h1,h2⟩:=allIs_cons.mp h
  exact AllIs.drop n h2
theorem AllIs.take:∀ {ds:List Dt} {xs:List V} (n:Nat),AllIs K H ds xs→AllIs K H (ds.take n) (xs.take n)
 | _,_,0,_=>allIs_nil.mpr rfl
 | [],_,n+1,h=>by rw [allIs_nil.mp h]; exact allIs_nil.mpr rfl
 | d::ds,_,n+1,h=>by
  obtain ⟨x,r,rfl,h1,h2⟩:=allIs_cons.mp h
  exact allIs_cons.mpr ⟨x,_,rfl,h1,AllIs.take n h2⟩
theorem AllIs.ints:∀ {ns:List Int},AllIs K H (ns.map Dt.int) (ns.map V.int)
 | []=>allIs_nil.mpr rfl
 | n::ns=>allIs_cons.mpr ⟨.int n,_,rfl,is_int.mpr rfl,AllIs.ints⟩
theorem AllIs.atI {ds:List Dt} {xs:List V} {i:Int} {d:Dt} (h:AllIs K H ds xs) (e:L2.atI ds i=some d):∃ v,L2.atI xs i=some v∧Is K H d v:=by
 unfold L2.atI at e ⊢
 rw [← h.length]
 cases q:ixN ds.length i with
 | none=>rw [q] at e; cases e
 | some j=>
  rw [q] at e
  exact h.get e
theorem AllIs.one {d:Dt} {xs:List V} (h:AllIs K H [d] xs):∃ v,xs=[v]∧Is K H d v:=by
 obtain ⟨x,r,rfl,h1,h2⟩:=allIs_cons.mp h
 rw [allIs_nil.mp h2]
 exact ⟨x,rfl,h1⟩
theorem AllIs.two {d e:Dt} {xs:List V} (h:AllIs K H [d,e] xs):∃ v u,xs=[v,u]∧Is K H d v∧Is K H e u:=by
 obtain ⟨x,r,rfl,h1,h2⟩:=allIs_cons.mp h
 obtain ⟨u,rfl,h3⟩:=h2.one
 exact ⟨x,u,rfl,h1,h3⟩
theorem zA {p:Addr} (h:H p=none) (o:HO):Same H (upd H p o):=fun b u q=>by rw [zl (zF q h)]; exact q
structure Vw where
 g:Hp
 h:Hp
 sub:Same g h
structure Le (W W':Vw):Prop where
 g:Same W.g W'.g
 h:Same W.h W'.h
 n:∀ a,W.h a≠none→W.g a=none→W'.g a=none
theorem Le.refl (W:Vw):Le W W:=⟨Same.refl _,Same.refl _,fun _ _ h=>h⟩
theorem Le.trans {W W1 W2:Vw} (a:Le W W1) (b:Le W1 W2):Le W W2:=
 ⟨a.g.trans b.g,a.h.trans b.h,fun c h1 h2=>b.n c (fun z=>h1 (a.h.free z)) (a.n c h1 h2)⟩
theorem Is.mono {W W':Vw} {d:Dt} {v:V} (h:Is K W.g d v) (s:Le W W'):Is K W'.g d v:=Is.mono0 s.g h
theorem AllIs.mono {W W':Vw} {d:List Dt} {v:List V} (h:AllIs K W.g d v) (s:Le W W'):AllIs K W'.g d v:=AllIs.mono0 s.g h
def Vw.new (W:Vw) (p:Addr) (o:HO):Vw:=⟨upd W.g p o,upd W.h p o,fun b u q=>by
 by_cases e:b=p
 ·subst e; rw [zh] at q ⊢; exact q
 ·rw [zl e] at q ⊢; exact W.sub _ _ q⟩
theorem y4 {W:Vw} {p:Addr} (hp:W.h p=none) (o:HO):Le W (W.new p o):=
 ⟨zA (W.sub.free hp) o,zA hp o,fun a h1 h2=>by
  have:a≠p:=fun e=>h1 (e ▸ hp)
  show upd W.g p o a=none
  rw [zl this]; exact h2⟩
def Vw.mine (W:Vw) (p:Addr) (o:HO) (hp:W.g p=none):Vw:=⟨W.g,upd W.h p o,fun b u q=>by
 have:b≠p:=fun e=>by rw [e,hp] at q; cases q
 rw [zl this]; exact W.sub _ _ q⟩
theorem z6 {W:Vw} {p:Addr} (hp:W.h p=none) (o:HO):Le W (W.mine p o (W.sub.free hp)):=
 ⟨Same.refl _,zA hp o,fun _ _ h=>h⟩
def Vw.frz (W:Vw) (p:Addr) (o:HO) (hp:W.h p=some o):Vw:=⟨upd W.g p o,W.h,fun b u q=>by
 by_cases e:b=p
 ·subst e; rw [zh] at q; rw [hp]; exact q
 ·rw [zl e] at q; exact W.sub _ _ q⟩
structure ObP where
 is:Hp→Addr→HO→Prop
 mono:∀ {g g':Hp} {a:Addr} {o:HO},Same g g'→is g a o→is g' a o
inductive Sl where | none | some (d:Dt) | own (ds:List Dt) | arg (a:Addr) (ds:List Dt) | obj (φ:ObP)
abbrev DS:=List Sl
def Obs (F:Hp) (W:Vw) (ρ:DS) (σ:St):Prop:=∀ (i:Nat) (φ:ObP),ρ[i]? = some (.obj φ)→
 (∃ a o,σ[i]? = some (some (.ref a))∧W.h a=some o∧(∀ xs,o≠.lst xs)∧W.g a=none∧F a=none∧φ.is W.g a o)∧∀ (j:Nat) (ψ:ObP),ρ[j]? = some (.obj ψ)→j=i
structure Rl (K:PySem.W.Frag) (Z F:Hp) (W:Vw) (ρ:DS) (σ:St):Prop where
 len:ρ.length=σ.length
 at_:∀ (i:Nat) (d:Dt),ρ[i]? = some (.some d)→∃ v,σ[i]? = some (some v)∧Is K W.g d v
 ow:∀ (i:Nat) (ds:List Dt),ρ[i]? = some (.own ds)→∃ a xs,σ[i]? = some (some (.ref a))∧W.h a=some (.lst xs)∧W.g a=none∧F a=none∧AllIs K W.g ds xs
 ne:∀ (i j:Nat) (ds es:List Dt),i≠j→ρ[i]? = some (.own ds)→ρ[j]? = some (.own es)→σ[i]?≠σ[j]?
 fr:Same F W.h
 z:Same Z F
 ar:∀ (i:Nat) (a:Addr) (ds:List Dt),ρ[i]? = some (.arg a ds)→(∃ xs,σ[i]? = some (some (.ref a))∧W.h a=some (.lst xs)∧W.g a=none∧F a=none∧AllIs K W.g ds xs)∧(∀ (j:Nat) (es:List Dt),ρ[j]? = some (.own es)→σ[j]?≠some (some (.ref a)))∧∀ (j:Nat) (b:Addr) (es:List Dt),ρ[j]? = some (.arg b es)→j=i
 ob:Obs F W ρ σ
variable {F:Hp} {W W':Vw}
theorem zj {α:Type} {l:List α} {i j:Nat} {x y:α} (q:(l.set i x)[j]? = some y):(i=j∧i<l.length∧x=y)∨(i≠j∧l[j]? = some y):=by
 by_cases hij:i=j
 ·subst hij
  by_cases hl:i<l.length
  ·rw [List.getElem?_set_self hl] at q
   exact .inl ⟨rfl,hl,Option.some.inj q⟩
  ·rw [List.getElem?_eq_none (by rw [List.length_set]; omega)] at q
   cases q
 ·rw [List.getElem?_set_ne hij] at q
  exact .inr ⟨hij,q⟩
theorem Obs.mono {ρ:DS} {σ:St} (r:Obs F W ρ σ) (s:Le W W'):Obs F W' ρ σ:=fun i φ e=>
 let ⟨⟨a,o,h1,h2,h3,h4,h5,h6⟩,k⟩:=r i φ e; ⟨⟨a,o,h1,s.h _ _ h2,h3,s.n a (by rw [h2]; intro z; cases z) h4,h5,φ.mono s.g h6⟩,k⟩
theorem Obs.set {ρ:DS} {σ:St} (r:Obs F W ρ σ) (i:Nat) {y:Sl} (v:Option V) (hy:∀ φ,y≠.obj φ):Obs F W (ρ.set i y) (σ.set i v):=fun j φ q=>by
 rcases zj q with ⟨_,_,e1⟩ | ⟨hij,q⟩
 ·exact absurd e1 (hy φ)
 obtain ⟨⟨a,o,h1,h2⟩,k⟩:=r j φ q
 refine ⟨⟨a,o,by rw [List.getElem?_set_ne hij]; exact h1,h2⟩,fun l ψ q'=>?_⟩
 rcases zj q' with ⟨_,_,e1⟩ | ⟨_,q'⟩
 ·exact absurd e1 (hy ψ)
 ·exact k l ψ q'
theorem Obs.slot {ρ:DS} {σ:St} (r:Obs F W ρ σ) (i:Nat) {y:Sl} (hy:∀ φ,y≠.obj φ):Obs F W (ρ.set i y) σ:=fun j φ q=>by
 rcases zj q with ⟨_,_,e1⟩ | ⟨hij,q⟩
 ·exact absurd e1 (hy φ)
 obtain ⟨h,k⟩:=r j φ q
 refine ⟨h,fun l ψ q'=>?_⟩
 rcases zj q' with ⟨_,_,e1⟩ | ⟨_,q'⟩
 ·exact absurd e1 (hy ψ)
 ·exact k l ψ q'
theorem Obs.mine {ρ:DS} {σ:St} (r:Obs F W ρ σ) {a:Addr} {xs ys:List V} (ha:W.h a=some (.lst xs)) (hg:W.g a=none):Obs F (W.mine a (.lst ys) hg) ρ σ:=fun j φ q=>
 let ⟨⟨b,o,h1,h2,h3,h4⟩,k⟩:=r j φ q
 ⟨⟨b,o,h1,(zl (fun z=>h3 xs (by rw [z,ha] at h2; exact (Option.some.inj h2).symm))).trans h2,h3,h4⟩,k⟩
theorem Obs.frz {ρ:DS} {σ:St} (r:Obs F W ρ σ) {a:Addr} {xs:List V} (ha:W.h a=some (.lst xs)) (hg:W.g a=none):Obs F (W.frz a _ ha) ρ σ:=fun j φ q=>
 let ⟨⟨b,o,h1,h2,h3,h4,h5,h6⟩,k⟩:=r j φ q
 ⟨⟨b,o,h1,h2,h3,(zl (fun z=>h3 xs (by rw [z,ha] at h2; exact (Option.some.inj h2).symm))).trans h4,h5,φ.mono (zA hg _) h6⟩,k⟩
theorem Rl.mono {ρ:DS} {σ:St} (r:Rl K Z F W ρ σ) (s:Le W W'):Rl K Z F W' ρ σ:=
 ⟨r.len,fun i d e=>let ⟨v,h1,h2⟩:=r.at_ i d e; ⟨v,h1,h2.mono s⟩,
  fun i ds e=>let ⟨a,xs,h1,h2,h3,h4,h5⟩:=r.ow i ds e; ⟨a,xs,h1,s.h _ _ h2,s.n a (by rw [h2]; intro z; cases z) h3,h4,h5.mono s⟩,r.ne,r.fr.trans s.h,r.z,
  fun i a ds e=>let ⟨⟨xs,h1,h2,h3,h4,h5⟩,k1,k2⟩:=r.ar i a ds e; ⟨⟨xs,h1,s.h _ _ h2,s.n a (by rw [h2]; intro z; cases z) h3,h4,h5.mono s⟩,k1,k2⟩,r.ob.mono s⟩
theorem Rl.set {ρ:DS} {σ:St} (r:Rl K Z F W ρ σ) {d:Dt} {v:V} (i:Nat) (h:Is K W.g d v):Rl K Z F W (ρ.set i (.some d)) (σ.set i (some v)):=by
 refine ⟨by rw [List.length_set,List.length_set]; exact r.len,fun j e q=>?_,fun j ds q=>?_,fun j k ds es hjk q1 q2=>?_,r.fr,r.z,fun j a ds q=>?_,r.ob.set i _ (fun φ z=>by cases z)⟩
 ·rcases zj q with ⟨rfl,hl,e1⟩ | ⟨hij,q⟩
  ·cases e1
   exact ⟨v,by rw [List.getElem?_set_self (by rw [← r.len]; exact hl)],h⟩
  ·rw [List.getElem?_set_ne hij]
   exact r.at_ j e q
 ·rcases zj q with ⟨_,_,e1⟩ | ⟨hij,q⟩
  ·cases e1
  ·rw [List.getElem?_set_ne hij]
   exact r.ow j ds q
 ·rcases zj q1 with ⟨_,_,e1⟩ | ⟨hij,q1⟩
  ·cases e1
  rcases zj q2 with ⟨_,_,e1⟩ | ⟨hik,q2⟩
  ·cases e1
  rw [List.getElem?_set_ne hij,List.getElem?_set_ne hik]
  exact r.ne j k ds es hjk q1 q2
 ·rcases zj q with ⟨_,_,e1⟩ | ⟨hij,q⟩
  ·cases e1
  obtain ⟨⟨xs,h1,h2⟩,k1,k2⟩:=r.ar j a ds q
  refine ⟨⟨xs,by rw [List.getElem?_set_ne hij]; exact h1,h2⟩,fun k es q'=>?_,fun k c es q'=>?_⟩
  ·rcases zj q' with ⟨_,_,e1⟩ | ⟨hik,q'⟩
   ·cases e1
   rw [List.getElem?_set_ne hik]
   exact k1 k es q'
  ·rcases zj q' with ⟨_,_,e1⟩ | ⟨hik,q'⟩
   ·cases e1
   exact k2 k c es q'
theorem Rl.own {ρ:DS} {σ:St} (r:Rl K Z F W ρ σ) (s:Le W W') {p:Addr} {xs:List V} {ds:List Dt} (i:Nat) (h0:W.h p=none) (h1:W'.h p=some (.lst xs)) (h2:W'.g p=none) (h3:AllIs K W'.g ds xs):
  Rl K Z F W' (ρ.set i (.own ds)) (σ.set i (some (.ref p))):=by
 have r':=r.mono s
 have nep:∀ (j:Nat) (es:List Dt),ρ[j]? = some (Sl.own es)→σ[j]?≠some (some (V.ref p)):=fun j es q z=>by
  obtain ⟨a,ys,e1,e2,_⟩:=r.ow j es q
  rw [z] at e1
  cases e1
  rw [h0] at e2
  cases e2
 refine ⟨by rw [List.length_set,List.length_set]; exact r.len,fun j e q=>?_,fun j es q=>?_,fun j k es es' hjk q1 q2=>?_,r'.fr,r.z,fun j a fs q=>?_,r'.ob.set i _ (fun φ z=>by cases z)⟩
 ·rcases zj q with ⟨_,_,e1⟩ | ⟨hij,q⟩
  ·cases e1
  ·rw [List.getElem?_set_ne hij]
   exact r'.at_ j e q
 ·rcases zj q with ⟨rfl,hl,e1⟩ | ⟨hij,q⟩
  ·cases e1
   exact ⟨p,xs,by rw [List.getElem?_set_self (by rw [← r.len]; exact hl)],h1,h2,r.fr.free h0,h3⟩
  ·rw [List.getElem?_set_ne hij]
   exact r'.ow j es q
 ·rcases zj q1 with ⟨rfl,hl,e1⟩ | ⟨hij,q1⟩
  ·rcases zj q2 with ⟨rfl,_,_⟩ | ⟨hik,q2⟩
   ·exact absurd rfl hjk
   ·rw [List.getElem?_set_self (by rw [← r.len]; exact hl),List.getElem?_set_ne hik]
    exact fun z=>nep k es' q2 z.symm
  ·rcases zj q2 with ⟨rfl,hl,_⟩ | ⟨hik,q2⟩
   ·rw [List.getElem?_set_self (by rw [← r.len]; exact hl),List.getElem?_set_ne hij]
    exact nep j es q1
   ·rw [List.getElem?_set_ne hij,List.getElem?_set_ne hik]
    exact r.ne j k es es' hjk q1 q2
 ·rcases zj q with ⟨_,_,e1⟩ | ⟨hij,q⟩
  ·cases e1
  obtain ⟨⟨ys,g1,g2⟩,k1,k2⟩:=r'.ar j a fs q
  obtain ⟨⟨_,_,g3,_⟩,_,_⟩:=r.ar j a fs q
  refine ⟨⟨ys,by rw [List.getElem?_set_ne hij]; exact g1,g2⟩,fun k es q'=>?_,fun k c es q'=>?_⟩
  ·rcases zj q' with ⟨rfl,hl,e1⟩ | ⟨hik,q'⟩
   ·rw [List.getElem?_set_self (by rw [← r.len]; exact hl)]
    intro z
    cases z
    rw [h0] at g3
    cases g3
   ·rw [List.getElem?_set_ne hik]
    exact k1 k es q'
  ·rcases zj q' with ⟨_,_,e1⟩ | ⟨hik,q'⟩
   ·cases e1
   exact k2 k c es q'
theorem Rl.put {ρ:DS} {σ:St} (r:Rl K Z F W ρ σ) {i:Nat} {ds es:List Dt} {a:Addr} {ys:List V} (hi:ρ[i]? = some (.own ds)) (ha:σ[i]? = some (some (.ref a))) (hg:W.g a=none) (hF:F a=none) (h3:AllIs K W.g es ys):
  Rl K Z F (W.mine a (.lst ys) hg) (ρ.set i (.own es)) σ:=by
 have hl:i<ρ.length:=by
  rcases Nat.lt_or_ge i ρ.length with h | h
  ·exact h
  ·rw [List.getElem?_eq_none h] at hi; cases hi
 have other:∀ j fs,j≠i→ρ[j]? = some (.own fs)→σ[j]?≠some (some (.ref a)):=fun j fs hj q z=>r.ne j i fs ds hj q hi (z.trans ha.symm)
 refine ⟨by rw [List.length_set]; exact r.len,fun j e q=>?_,fun j fs q=>?_,fun j k fs fs' hjk q1 q2=>?_,fun p o q=>?_,r.z,fun j c fs q=>?_,?_⟩
 ·rcases zj q with ⟨_,_,e1⟩ | ⟨hij,q⟩
  ·cases e1
  ·exact r.at_ j e q
 ·rcases zj q with ⟨rfl,_,e1⟩ | ⟨hij,q⟩
  ·cases e1
   exact ⟨a,ys,ha,zh,hg,hF,h3⟩
  ·obtain ⟨b,xs,e1,e2,e3,e4,e5⟩:=r.ow j fs q
   have hb:b≠a:=fun z=>other j fs (fun z=>hij z.symm) q (z ▸ e1)
   exact ⟨b,xs,e1,(zl hb).trans e2,e3,e4,e5⟩
 ·have k1:∃ gs,ρ[j]? = some (.own gs):=by
   rcases zj q1 with ⟨rfl,_,_⟩ | ⟨_,q⟩
   ·exact ⟨_,hi⟩
   ·exact ⟨_,q⟩
  have k2:∃ gs,ρ[k]? = some (.own gs):=by
   rcases zj q2 with ⟨rfl,_,_⟩ | ⟨_,q⟩
   ·exact ⟨_,hi⟩
   ·exact ⟨_,q⟩
  obtain ⟨_,k1⟩:=k1
  obtain ⟨_,k2⟩:=k2
  exact r.ne j k _ _ hjk k1 k2
 ·have e:p≠a:=fun e=>by rw [e,hF] at q; cases q
  exact (zl (H:=W.h) (o:=.lst ys) e).trans (r.fr p o q)
 ·rcases zj q with ⟨_,_,e1⟩ | ⟨hij,q⟩
  ·cases e1
  obtain ⟨⟨ys',g1,g2,g3,g4,g5⟩,k1,k2⟩:=r.ar j c fs q
  have hc:c≠a:=fun z=>k1 i ds hi (by rw [z]; exact ha)
  refine ⟨⟨ys',g1,(zl hc).trans g2,g3,g4,g5⟩,fun k es' q'=>?_,fun k c' es' q'=>?_⟩
  ·rcases zj q' with ⟨rfl,_,_⟩ | ⟨_,q'⟩
   ·exact k1 i ds hi
   ·exact k1 k es' q'
  ·rcases zj q' with ⟨_,_,e1⟩ | ⟨hik,q'⟩
   ·cases e1
   exact k2 k c' es' q'
 ·obtain ⟨a',xs,e1,e2,_⟩:=r.ow i ds hi
  rw [ha] at e1
  cases e1
  exact (r.ob.mine e2 hg).slot i (fun φ z=>by cases z)
theorem Rl.frz {ρ:DS} {σ:St} (r:Rl K Z F W ρ σ) {i:Nat} {ds:List Dt} {a:Addr} {xs:List V} (hi:ρ[i]? = some (.own ds)) (ha:σ[i]? = some (some (.ref a))) (hh:W.h a=some (.lst xs)) (hg:W.g a=none) (h3:AllIs K W.g ds xs):
  Rl K Z F (W.frz a _ hh) (ρ.set i (.some (.lst ds))) σ:=by
 have sg:Same W.g (upd W.g a (.lst xs)):=zA hg _
 have other:∀ j fs,j≠i→ρ[j]? = some (.own fs)→σ[j]?≠some (some (.ref a)):=fun j fs hj q z=>r.ne j i fs ds hj q hi (z.trans ha.symm)
 refine ⟨by rw [List.length_set]; exact r.len,fun j e q=>?_,fun j fs q=>?_,fun j k fs fs' hjk q1 q2=>?_,r.fr,r.z,fun j c fs q=>?_,(r.ob.frz hh hg).slot i (fun φ z=>by cases z)⟩
 ·rcases zj q with ⟨rfl,_,e1⟩ | ⟨hij,q⟩
  ·cases e1
   exact ⟨_,ha,is_lst.mpr ⟨a,xs,rfl,zh,AllIs.mono0 sg h3⟩⟩
  ·obtain ⟨v,e1,e2⟩:=r.at_ j e q
   exact ⟨v,e1,Is.mono0 sg e2⟩
 ·rcases zj q with ⟨_,_,e1⟩ | ⟨hij,q⟩
  ·cases e1
  ·obtain ⟨b,ys,e1,e2,e3,e4,e5⟩:=r.ow j fs q
   have hb:b≠a:=fun z=>other j fs (fun z=>hij z.symm) q (z ▸ e1)
   exact ⟨b,ys,e1,e2,(zl hb).trans e3,e4,AllIs.mono0 sg e5⟩
 ·rcases zj q1 with ⟨_,_,e1⟩ | ⟨_,q1⟩
  ·cases e1
  rcases zj q2 with ⟨_,_,e1⟩ | ⟨_,q2⟩
  ·cases e1
  exact r.ne j k _ _ hjk q1 q2
 ·rcases zj q with ⟨_,_,e1⟩ | ⟨hij,q⟩
  ·cases e1
  obtain ⟨⟨ys',g1,g2,g3,g4,g5⟩,k1,k2⟩:=r.ar j c fs q
  have hc:c≠a:=fun z=>k1 i ds hi (by rw [z]; exact ha)
  refine ⟨⟨ys',g1,g2,(zl hc).trans g3,g4,AllIs.mono0 sg g5⟩,fun k es' q'=>?_,fun k c' es' q'=>?_⟩
  ·rcases zj q' with ⟨_,_,e1⟩ | ⟨_,q'⟩
   ·cases e1
   ·exact k1 k es' q'
  ·rcases zj q' with ⟨_,_,e1⟩ | ⟨hik,q'⟩
   ·cases e1
   exact k2 k c' es' q'
def zZ (n:Nat) (ds:List Dt):DS:=ds.map Sl.some++List.replicate (n - ds.length) Sl.none
theorem Rl.start {N:List Str} {ds:List Dt} {vs:List V} (h:AllIs K W.g ds vs) (hz:Same Z W.h):Rl K Z W.h W (zZ N.length ds) (L2.start N vs):=by
 have hl:=h.length
 have cls:∀ (i:Nat) (y:Sl),(zZ N.length ds)[i]? = some y→(∃ d,ds[i]? = some d∧y=.some d)∨y=.none:=fun i y e=>by
  unfold zZ at e
  by_cases hi:i<ds.length
  ·rw [List.getElem?_append_left (by rw [List.length_map]; exact hi),List.getElem?_map] at e
   cases q:ds[i]? with
   | none=>rw [q] at e; cases e
   | some d'=>
    rw [q] at e
    exact .inl ⟨d',rfl,(Option.some.inj e).symm⟩
  ·rw [List.getElem?_append_right (by rw [List.length_map]; omega),List.getElem?_replicate] at e
   split at e
   ·exact .inr (Option.some.inj e).symm
   ·cases e
 refine ⟨by unfold L2.start zZ; rw [List.length_append,List.length_append,List.length_map,List.length_map,List.length_replicate,List.length_replicate,hl],fun i d e=>?_,fun i es e=>?_,fun i j es fs _ e _=>?_,Same.refl _,hz,fun i a es e=>?_,fun i φ e=>?_⟩
 ·rcases cls i _ e with ⟨d',q,e1⟩ | e1
  ·cases e1
   obtain ⟨v,h1,h2⟩:=h.get q
   refine ⟨v,?_,h2⟩
   have hi:i<ds.length:=by
    rcases Nat.lt_or_ge i ds.length with h | h
    ·exact h
    ·rw [List.getElem?_eq_none h] at q; cases q
   unfold L2.start
   rw [List.getElem?_append_left (by rw [List.length_map,← hl]; exact hi),List.getElem?_map,h1]
   rfl
  ·cases e1
 ·rcases cls i _ e with ⟨d',q,e1⟩ | e1
  ·cases e1
  ·cases e1
 ·rcases cls i _ e with ⟨d',q,e1⟩ | e1
  ·cases e1
  ·cases e1
 ·rcases cls i _ e with ⟨d',q,e1⟩ | e1
  ·cases e1
  ·cases e1
 ·rcases cls i _ e with ⟨d',q,e1⟩ | e1
  ·cases e1
  ·cases e1
abbrev DTE:=DS→(Dt→Prop)→Prop
abbrev DTT:=DS→(Bool→Prop)→Prop
abbrev DTA:=DS→(List Dt→Prop)→Prop
def LiE (K:PySem.W.Frag) (Z:Hp) (te:TE) (t:DTE):Prop:=
 ∀ {F:Hp} (ρ:DS) (σ:St) (H:Vw) (Q:Dt→Prop),Rl K Z F H ρ σ→t ρ Q→∀ R:VK,(∀ d v H',Le H H'→Is K H'.g d v→Q d→R v H'.h)→te σ H.h R
def LiT (K:PySem.W.Frag) (Z:Hp) (te:TT) (t:DTT):Prop:=
 ∀ {F:Hp} (ρ:DS) (σ:St) (H:Vw) (Q:Bool→Prop),Rl K Z F H ρ σ→t ρ Q→∀ R:Bool→Hp→Prop,(∀ d H',Le H H'→Q d→R d H'.h)→te σ H.h R
def LiA (K:PySem.W.Frag) (Z:Hp) (te:TA) (t:DTA):Prop:=
 ∀ {F:Hp} (ρ:DS) (σ:St) (H:Vw) (Q:List Dt→Prop),Rl K Z F H ρ σ→t ρ Q→∀ R:List V→Hp→Prop,(∀ d v H',Le H H'→AllIs K H'.g d v→Q d→R v H'.h)→te σ H.h R
def DE (X:Cx) (e:Expr) (t:DTE):Prop:=∃ te,PE X e te∧LiE X.K (Zx X) te t
def DT (X:Cx) (e:Expr) (t:DTT):Prop:=∃ te,PT X e te∧LiT X.K (Zx X) te t
def DW (X:Cx) (e:Expr) (t:DTT):Prop:=∃ te,PW X e te∧LiT X.K (Zx X) te t
def DA (X:Cx) (es:List Expr) (t:DTA):Prop:=∃ te,PA X es te∧LiA X.K (Zx X) te t
theorem DW.dt {X:Cx} {e:Expr} {t:DTT} (h:DW X e t):DT X e t:=let ⟨te,h1,h2⟩:=h; ⟨te,h1.pt,h2⟩
def ZQ (i:Nat):DTE:=fun ρ Q=>∃ d,ρ[i]? = some (.some d)∧Q d
def dC (d:Dt):DTE:=fun _ Q=>Q d
section
variable {X:Cx} {a b c:Expr} {ta tb tc:DTE} {pos:Pos}
theorem dv (i:Nat) {x:Str} {pos:Pos} (hN:X.N[i]? = some x:=by rfl) (hv:Vis X.env.scope x:=by first | exact Or.inl rfl | exact Or.inr (Or.inl rfl) | exact Or.inr (Or.inr rfl)) (hd:(x == ("__debug__":Str))=false:=by decide)
  (hcd:(x == ("__classdict__":Str))=false:=by decide):DE X (.Name x pos) (ZQ i):=
 ⟨jw i,zJ hN hv hd hcd,fun ρ σ H Q r h R k=>by
  obtain ⟨d,e,q⟩:=h
  obtain ⟨v,h1,h2⟩:=r.at_ i d e
  exact ⟨v,h1,k d v H (Le.refl H) h2 q⟩⟩
theorem lic {v:V} {d:Dt} (h:∀ H:Vw,Is K H.g d v):LiE K Z (tC v) (dC d):=fun ρ σ H Q r q R k=>k d v H (Le.refl H) (h H) q
theorem zc {i j pos}:DE X (.Constant (.int i) j pos) (dC (.int i)):=⟨_,wg,lic fun _=>is_int.mpr rfl⟩
theorem x6 {b j pos}:DE X (.Constant (.bool b) j pos) (dC (.bl b)):=⟨_,Yv,lic fun _=>is_bl.mpr rfl⟩
theorem ZK {j pos}:DE X (.Constant .none j pos) (dC .non):=⟨_,cD,lic fun _=>is_non.mpr rfl⟩
theorem zy {x j pos}:DE X (.Constant (.str x) j pos) (dC (.str x)):=⟨_,cA,lic fun _=>is_str.mpr rfl⟩
def DOp (X:Cx) (f:Value→Value→Sem Value) (g:Dt→Dt→(Dt→Prop)→Prop):Prop:=
 ∃ r,OpR X f r∧∀ (H:Vw) (x y:V) (d e:Dt) (Q:Dt→Prop),Is X.K H.g d x→Is X.K H.g e y→g d e Q→∀ R:VK,(∀ d v H',Le H H'→Is X.K H'.g d v→Q d→R v H'.h)→r x y H.h R
def dOp (g:Dt→Dt→(Dt→Prop)→Prop) (ta tb:DTE):DTE:=fun ρ Q=>ta ρ fun d=>tb ρ fun e=>g d e Q
theorem Zp {te tf:TE} {r:R2} {g:Dt→Dt→(Dt→Prop)→Prop} (ha:LiE K Z te ta) (hb:LiE K Z tf tb)
  (hg:∀ (H:Vw) (x y:V) (d e:Dt) (Q:Dt→Prop),Is K H.g d x→Is K H.g e y→g d e Q→∀ R:VK,(∀ d v H',Le H H'→Is K H'.g d v→Q d→R v H'.h)→r x y H.h R):LiE K Z (tOp r te tf) (dOp g ta tb):=
 fun ρ σ H Q rl h R k=>ha ρ σ H _ rl h _ fun d v H1 s1 i1 q1=>hb ρ σ H1 _ (rl.mono s1) q1 _ fun e u H2 s2 i2 q2=>
  hg H2 v u d e Q (i1.mono s2) i2 q2 R fun d' v' H3 s3 i3 q3=>k d' v' H3 ((s1.trans s2).trans s3) i3 q3
theorem zk {op:Operator} {g:Dt→Dt→(Dt→Prop)→Prop} (ho:DOp X (binaryOp op) g) (ha:DE X a ta) (hb:DE X b tb):DE X (.BinOp a op b pos) (dOp g ta tb):=by
 obtain ⟨r,h1,h2⟩:=ho
 obtain ⟨te,p1,l1⟩:=ha
 obtain ⟨tf,p2,l2⟩:=hb
 exact ⟨_,Yu h1 p1 p2,Zp l1 l2 h2⟩
theorem sY {op:CmpOp} {g:Dt→Dt→(Dt→Prop)→Prop} (ho:DOp X (compareOp op) g) (ha:DE X a ta) (hb:DE X b tb) (hm:behindInMarks op b=false):DE X (.Compare a [op] [b] pos) (dOp g ta tb):=by
 obtain ⟨r,h1,h2⟩:=ho
 obtain ⟨te,p1,l1⟩:=ha
 obtain ⟨tf,p2,l2⟩:=hb
 exact ⟨_,jK h1 p1 p2 hm,Zp l1 l2 h2⟩
def rV (t:DTE):DTT:=fun ρ Q=>t ρ fun d=>∃ k,d=.bl k∧Q k
theorem qG {te:TE} {t:DTE} (h:LiE K Z te t):LiT K Z (dL te) (rV t):=fun ρ σ H Q r q R k=>
 h ρ σ H _ r q _ fun d v H1 s1 i1 ⟨b,e,qb⟩=>by
  subst e
  exact ⟨b,is_bl.mp i1,k b H1 s1 qb⟩
theorem zE {op:CmpOp} {g:Dt→Dt→(Dt→Prop)→Prop} (ho:DOp X (compareOp op) g) (ha:DE X a ta) (hb:DE X b tb) (hm:behindInMarks op b=false):DT X (.Compare a [op] [b] pos) (rV (dOp g ta tb)):=by
 obtain ⟨r,h1,h2⟩:=ho
 obtain ⟨te,p1,l1⟩:=ha
 obtain ⟨tf,p2,l2⟩:=hb
 exact ⟨_,jF h1 p1 p2 hm,qG (Zp l1 l2 h2)⟩
theorem zR {e:Expr} {t:DTE} (h:DE X e t) (he:∀ whole,isTrue e X.env whole=(do let v ← whole; standAt e.pos; holding [v] (truthy v)):=by intro _; rfl):DT X e (rV t):=by
 obtain ⟨te,p,l⟩:=h
 exact ⟨_,cv p he,qG l⟩
def kW (g g':Dt→Dt→(Dt→Prop)→Prop) (ta tb tc:DTE):DTE:=fun ρ Q=>ta ρ fun d=>tb ρ fun e=>g d e fun z=>∃ k,z=.bl k∧(if k=true then tc ρ fun w=>g' e w Q else Q (.bl false))
theorem ej {te tf tg:TE} {r r':R2} {g g':Dt→Dt→(Dt→Prop)→Prop} (ha:LiE K Z te ta) (hb:LiE K Z tf tb) (hc:LiE K Z tg tc)
  (hg:∀ (H:Vw) (x y:V) (d e:Dt) (Q:Dt→Prop),Is K H.g d x→Is K H.g e y→g d e Q→∀ R:VK,(∀ d v H',Le H H'→Is K H'.g d v→Q d→R v H'.h)→r x y H.h R)
  (hg':∀ (H:Vw) (x y:V) (d e:Dt) (Q:Dt→Prop),Is K H.g d x→Is K H.g e y→g' d e Q→∀ R:VK,(∀ d v H',Le H H'→Is K H'.g d v→Q d→R v H'.h)→r' x y H.h R):LiE K Z (nj r r' te tf tg) (kW g g' ta tb tc):=
 fun ρ σ H Q rl h R k=>ha ρ σ H _ rl h _ fun d v H1 s1 i1 q1=>hb ρ σ H1 _ (rl.mono s1) q1 _ fun e u H2 s2 i2 q2=>
  hg H2 v u d e _ (i1.mono s2) i2 q2 _ fun d' v' H3 s3 i3 ⟨z,ez,q3⟩=>by
   subst ez
   refine ⟨z,is_bl.mp i3,?_⟩
   cases z with
   | false=>exact k _ _ H3 ((s1.trans s2).trans s3) (is_bl.mpr rfl) q3
   | true=>exact hc ρ σ H3 _ (rl.mono ((s1.trans s2).trans s3)) q3 _ fun w x H4 s4 i4 q4=>hg' H4 u x e w Q (i2.mono (s3.trans s4)) i4 q4 R fun d5 v5 H5 s5 i5 q5=>k d5 v5 H5 (((s1.trans s2).trans (s3.trans s4)).trans s5) i5 q5
theorem uT {op op':CmpOp} {g g':Dt→Dt→(Dt→Prop)→Prop} (ho:DOp X (compareOp op) g) (ho':DOp X (compareOp op') g') (ha:DE X a ta) (hb:DE X b tb) (hc:DE X c tc)
  (hm:lastMarks [op,op'] [b,c]=false:=by with_unfolding_all rfl):DE X (.Compare a [op,op'] [b,c] pos) (kW g g' ta tb tc):=by
 obtain ⟨r,h1,h2⟩:=ho
 obtain ⟨r',h3,h4⟩:=ho'
 obtain ⟨te,p1,l1⟩:=ha
 obtain ⟨tf,p2,l2⟩:=hb
 obtain ⟨tg,p3,l3⟩:=hc
 exact ⟨_,nJ h1 h3 p1 p2 p3 hm,ej l1 l2 l3 h2 h4⟩
variable {tA tB:DTT} {zW:List Expr}
def Vb (t u:DTT):DTT:=fun ρ Q=>t ρ fun c=>if c=true then u ρ Q else Q false
def dOr (t u:DTT):DTT:=fun ρ Q=>t ρ fun c=>if c=true then Q true else u ρ Q
def WP (t:DTT):DTT:=fun ρ Q=>t ρ fun c=>Q (!c)
theorem pN (ha:DT X a tA):DW X (.BoolOp .And [a] pos) tA:=let ⟨_,p,l⟩:=ha; ⟨_,jE p,l⟩
theorem xI (ha:DT X a tA):DW X (.BoolOp .Or [a] pos) tA:=let ⟨_,p,l⟩:=ha; ⟨_,cs p,l⟩
theorem kz (ha:DT X a tA) (hb:DW X (.BoolOp .And (b::zW) pos) tB):DW X (.BoolOp .And (a::b::zW) pos) (Vb tA tB):=by
 obtain ⟨te,p1,l1⟩:=ha
 obtain ⟨tf,p2,l2⟩:=hb
 refine ⟨_,cu p1 p2,fun ρ σ H Q r h R k=>l1 ρ σ H _ r h _ fun c H1 s1 q1=>?_⟩
 cases c with
 | true=>exact l2 ρ σ H1 Q (r.mono s1) q1 R fun d H2 s2 q2=>k d H2 (s1.trans s2) q2
 | false=>exact k _ H1 s1 q1
theorem xu (ha:DT X a tA) (hb:DW X (.BoolOp .Or (b::zW) pos) tB):DW X (.BoolOp .Or (a::b::zW) pos) (dOr tA tB):=by
 obtain ⟨te,p1,l1⟩:=ha
 obtain ⟨tf,p2,l2⟩:=hb
 refine ⟨_,Ys p1 p2,fun ρ σ H Q r h R k=>l1 ρ σ H _ r h _ fun c H1 s1 q1=>?_⟩
 cases c with
 | false=>exact l2 ρ σ H1 Q (r.mono s1) q1 R fun d H2 s2 q2=>k d H2 (s1.trans s2) q2
 | true=>exact k _ H1 s1 q1
theorem y7 (ha:DT X a tA):DT X (.UnaryOp .Not a pos) (WP tA):=by
 obtain ⟨te,p1,l1⟩:=ha
 exact ⟨_,cw p1,fun ρ σ H Q r h R k=>l1 ρ σ H _ r h _ fun c H1 s1 q1=>k _ H1 s1 q1⟩
def X2 (ta tb:DTE):DTE:=fun ρ Q=>ta ρ fun d=>∃ c,d=.bl c∧if c=true then tb ρ Q else Q (.bl false)
def XE (ta:DTE):DTE:=fun ρ Q=>ta ρ fun d=>∃ c,d=.bl c∧Q (.bl (!c))
theorem uS {op} {t:DTE} (h:DE X a t):DE X (.BoolOp op [a] pos) t:=let ⟨_,p,l⟩:=h; ⟨_,cB p,l⟩
theorem vz (ha:DE X a ta) (hb:DE X (.BoolOp .And (b::zW) pos) tb):DE X (.BoolOp .And (a::b::zW) pos) (X2 ta tb):=by
 obtain ⟨te,p1,l1⟩:=ha
 obtain ⟨tf,p2,l2⟩:=hb
 refine ⟨_,cG p1 p2,fun ρ σ H Q r h R k=>l1 ρ σ H _ r h _ fun d v H1 s1 i1 ⟨c,e,q1⟩=>?_⟩
 subst e
 refine ⟨c,is_bl.mp i1,?_⟩
 cases c with
 | true=>exact l2 ρ σ H1 Q (r.mono s1) q1 R fun d v H2 s2 i2 q2=>k d v H2 (s1.trans s2) i2 q2
 | false=>exact k _ _ H1 s1 (is_bl.mpr rfl) q1
theorem sW (ha:DE X a ta):DE X (.UnaryOp .Not a pos) (XE ta):=by
 obtain ⟨te,p1,l1⟩:=ha
 refine ⟨_,cC p1,fun ρ σ H Q r h R k=>l1 ρ σ H _ r h _ fun d v H1 s1 i1 ⟨c,e,q1⟩=>?_⟩
 subst e
 exact ⟨c,is_bl.mp i1,k _ _ H1 s1 (is_bl.mpr rfl) q1⟩
end
section
variable {X:Cx} {a b c:Expr} {ta tb tc:DTE} {pos:Pos}
def gI (g:Int→Int→Dt):Dt→Dt→(Dt→Prop)→Prop:=fun d e Q=>∃ i j,d=.int i∧e=.int j∧Q (g i j)
def gIC (C:Int→Int→Prop) (g:Int→Int→Dt):Dt→Dt→(Dt→Prop)→Prop:=fun d e Q=>∃ i j,d=.int i∧e=.int j∧C i j∧Q (g i j)
theorem kK {f:Value→Value→Sem Value} {g:Int→Int→Int} (h:OpR X f (rI0 fun i j=>.int (g i j))):DOp X f (gI fun i j=>.int (g i j)):=by
 refine ⟨_,h,fun H x y d e Q i1 i2 q R k=>?_⟩
 obtain ⟨i,j,rfl,rfl,q⟩:=q
 exact ⟨i,j,is_int.mp i1,is_int.mp i2,k _ _ H (Le.refl H) (is_int.mpr rfl) q⟩
theorem qW {f:Value→Value→Sem Value} {g:Int→Int→Bool} (h:OpR X f (rI0 fun i j=>.bl (g i j))):DOp X f (gI fun i j=>.bl (g i j)):=by
 refine ⟨_,h,fun H x y d e Q i1 i2 q R k=>?_⟩
 obtain ⟨i,j,rfl,rfl,q⟩:=q
 exact ⟨i,j,is_int.mp i1,is_int.mp i2,k _ _ H (Le.refl H) (is_bl.mpr rfl) q⟩
theorem sT {f:Value→Value→Sem Value} {C:Int→Int→Prop} {g:Int→Int→Int} (h:OpR X f (rI C fun i j=>.int (g i j))):DOp X f (gIC C fun i j=>.int (g i j)):=by
 refine ⟨_,h,fun H x y d e Q i1 i2 q R k=>?_⟩
 obtain ⟨i,j,rfl,rfl,hc,q⟩:=q
 exact ⟨i,j,is_int.mp i1,is_int.mp i2,hc,k _ _ H (Le.refl H) (is_int.mpr rfl) q⟩
theorem jN:OpR X (binaryOp .Mult) (rI IntMulOk fun i j=>.int (i*j)):=opI fun _ _ _ _ _ _ _ hc q=>mul_int q hc
theorem zU:DOp X (binaryOp .Add) (gI fun i j=>.int (i+j)):=kK cO
theorem ye:DOp X (binaryOp .Sub) (gI fun i j=>.int (i - j)):=kK cL
theorem yc:DOp X (binaryOp .Mult) (gIC IntMulOk fun i j=>.int (i*j)):=sT jN
theorem xl:DOp X (binaryOp .FloorDiv) (gIC og fun i j=>.int (i.fdiv j)):=sT nK
def jp (_ j:Int):Prop:=j≠0
theorem yS:DOp X (binaryOp .Mod) (gIC jp fun i j=>.int (i.fmod j)):=sT (C:=jp) jO
theorem kZ {c n:Int} (h:(n != 0 && decide (n.natAbs<1073741824))=true):og c n:=by
 rw [Bool.and_eq_true,bne_iff_ne,decide_eq_true_iff] at h
 exact h
theorem kY {c n:Int} (h:(n != 0)=true):jp c n:=bne_iff_ne.mp h
theorem X4 {c n:Int} (h:(decide (0≤n) && (decide (n≤1000000) && decide (c.natAbs<18446744073709551616)))=true):Z5 c n:=by
 rw [Bool.and_eq_true,Bool.and_eq_true,decide_eq_true_iff,decide_eq_true_iff,decide_eq_true_iff] at h
 exact h
theorem Xe {c n:Int} (h:decide (n.natAbs<9223372036854775808)=true):IntMulOk c n:=by
 rw [decide_eq_true_iff] at h
 exact .of_right (intBits_le_64 (by omega) (by omega))
theorem lU {c n:Int} (h:decide (n.natAbs<9223372036854775808)=true):IntMulOk n c:=by
 rw [decide_eq_true_iff] at h
 exact .of_left (intBits_le_64 (by omega) (by omega))
theorem dP:DOp X (binaryOp .Pow) (gIC Z5 fun i j=>.int (i ^ j.toNat)):=sT cM
theorem oB:DOp X (compareOp .Lt) (gI fun i j=>.bl (decide (i<j))):=qW Yx
theorem nN:DOp X (compareOp .LtE) (gI fun i j=>.bl (decide (i≤j))):=qW Yy
theorem jR:DOp X (compareOp .Gt) (gI fun i j=>.bl (decide (j<i))):=qW Yz
def WR (ta:DTE):DTE:=fun ρ Q=>ta ρ fun d=>∃ i,d=.int i∧Q (.int (-i))
theorem xK (ha:DE X a ta):DE X (.UnaryOp .USub a pos) (WR ta):=by
 obtain ⟨te,p1,l1⟩:=ha
 refine ⟨_,Yt ce p1,fun ρ σ H Q r h R k=>l1 ρ σ H _ r h _ fun d v H1 s1 i1 ⟨i,e,q1⟩=>?_⟩
 subst e
 exact ⟨i,is_int.mp i1,k _ _ H1 s1 (is_int.mpr rfl) q1⟩
theorem tS:DOp X (binaryOp .Add) (fun d e Q=>∃ ds es,d=.lst ds∧e=.lst es∧ds.length+es.length≤100000∧Q (.lst (ds++es))):=by
 refine ⟨_,cN,fun H x y d e Q i1 i2 q R k=>?_⟩
 obtain ⟨ds,es,rfl,rfl,hl,q⟩:=q
 obtain ⟨l,xs,rfl,h1,a1⟩:=is_lst.mp i1
 obtain ⟨m,ys,rfl,h2,a2⟩:=is_lst.mp i2
 refine ⟨l,m,xs,ys,rfl,rfl,H.sub _ _ h1,H.sub _ _ h2,by rw [← a1.length,← a2.length]; exact Nat.le_trans hl (by decide),fun p hp=>?_⟩
 have s:=y4 hp (.lst (xs++ys))
 exact k _ _ _ s (is_lst.mpr ⟨p,_,rfl,zh,(a1.mono s).append (a2.mono s)⟩) q
def WQ:DTA:=fun _ Q=>Q []
def XW (te:DTE) (t:DTA):DTA:=fun ρ Q=>te ρ fun d=>t ρ fun ds=>Q (d::ds)
variable {es:List Expr} {t:DTA}
theorem ze:DA X [] WQ:=⟨_,zP,fun ρ σ H Q r h R k=>k [] [] H (Le.refl H) (allIs_nil.mpr rfl) h⟩
theorem zb (ha:DE X a ta) (hr:DA X es t) (hs:starEach (a::es) X.env=(false,eval a X.env)::starEach es X.env:=by rfl):DA X (a::es) (XW ta t):=by
 obtain ⟨te,p1,l1⟩:=ha
 obtain ⟨tf,p2,l2⟩:=hr
 exact ⟨_,zx p1 p2 hs,fun ρ σ H Q r h R k=>l1 ρ σ H _ r h _ fun d v H1 s1 i1 q1=>l2 ρ σ H1 _ (r.mono s1) q1 _ fun ds vs H2 s2 i2 q2=>
  k (d::ds) (v::vs) H2 (s1.trans s2) (allIs_cons.mpr ⟨v,vs,rfl,i1.mono s2,i2⟩) q2⟩
def WO (t:DTA):DTE:=fun ρ Q=>t ρ fun ds=>Nat.ble ds.length 1000=true∧Q (.tup ds)
def XI (t:DTA):DTE:=fun ρ Q=>t ρ fun ds=>Nat.ble ds.length 1000=true∧Q (.lst ds)
theorem zu {x1} (h:DA X es t):DE X (.Tuple es x1 pos) (WO t):=by
 obtain ⟨te,p1,l1⟩:=h
 refine ⟨_,ur p1,fun ρ σ H Q r h R k=>l1 ρ σ H _ r h _ fun ds vs H1 s1 i1 ⟨hl,q1⟩=>⟨?_,fun p hp=>?_⟩⟩
 ·rw [← i1.length]; exact Nat.le_trans (Nat.le_of_ble_eq_true hl) (by decide)
 ·have s:=y4 hp (.tup vs)
  exact k _ _ _ (s1.trans s) (is_tup.mpr ⟨p,vs,rfl,zh,i1.mono s⟩) q1
theorem yr (h:DA X es t):DE X (.List es pos) (XI t):=by
 obtain ⟨te,p1,l1⟩:=h
 refine ⟨_,nF p1,fun ρ σ H Q r h R k=>l1 ρ σ H _ r h _ fun ds vs H1 s1 i1 ⟨hl,q1⟩=>⟨?_,fun p hp=>?_⟩⟩
 ·rw [← i1.length]; exact Nat.le_trans (Nat.le_of_ble_eq_true hl) (by decide)
 ·have s:=y4 hp (.lst vs)
  exact k _ _ _ (s1.trans s) (is_lst.mpr ⟨p,vs,rfl,zh,i1.mono s⟩) q1
def pe:Dt→Option (List Dt)
 | .tup ds=>some ds
 | .lst ds=>some ds
 | .scr ns=>some (ns.map .int)
 | _=>none
theorem qo {H:Vw} {d:Dt} {v:V} {ds:List Dt} (h:Is K H.g d v) (e:pe d=some ds):∃ a xs,v=.ref a∧(SqL K H.h a xs∨SqT K H.h a xs)∧AllIs K H.g ds xs:=by
 cases d with
 | tup es=>
  obtain rfl:es=ds:=Option.some.inj e
  obtain ⟨a,xs,rfl,h1,h2⟩:=is_tup.mp h
  exact ⟨a,xs,rfl,.inr (.of (H.sub _ _ h1)),h2⟩
 | lst es=>
  obtain rfl:es=ds:=Option.some.inj e
  obtain ⟨a,xs,rfl,h1,h2⟩:=is_lst.mp h
  exact ⟨a,xs,rfl,.inl (.of (H.sub _ _ h1)),h2⟩
 | scr ns=>
  obtain rfl:ns.map Dt.int=ds:=Option.some.inj e
  obtain ⟨a,rfl,h1⟩:=is_scr.mp h
  exact ⟨a,_,rfl,.inl (H.sub.seq h1),AllIs.ints⟩
 | _=>cases e
def dIx (ta tb:DTE):DTE:=fun ρ Q=>ta ρ fun d=>tb ρ fun e=>∃ ds i d',pe d=some ds∧e=.int i∧atI ds i=some d'∧Q d'
theorem zr (ha:DE X a ta) (hb:DE X b tb) (hs:xq b):DE X (.Subscript a b pos) (dIx ta tb):=by
 obtain ⟨te,p1,l1⟩:=ha
 obtain ⟨tf,p2,l2⟩:=hb
 refine ⟨_,wB kg p1 p2 hs,fun ρ σ H Q r h R k=>l1 ρ σ H _ r h _ fun d v H1 s1 i1 q1=>l2 ρ σ H1 _ (r.mono s1) q1 _ fun e u H2 s2 i2 q2=>?_⟩
 obtain ⟨ds,i,d',e1,e2,e3,q⟩:=q2
 subst e2
 obtain ⟨p,xs,e4,h1,h2⟩:=qo (i1.mono s2) e1
 obtain ⟨w,e5,h3⟩:=h2.atI e3
 rcases h1 with h1 | h1
 ·exact .inl ⟨p,xs,i,w,e4,is_int.mp i2,h1,e5,k d' w H2 (s1.trans s2) h3 q⟩
 ·exact .inr (.inl ⟨p,xs,i,w,e4,is_int.mp i2,h1,e5,k d' w H2 (s1.trans s2) h3 q⟩)
def WT (t:DTE):DTE:=fun ρ Q=>t ρ fun d=>∃ ds,pe d=some ds∧Q (.int ds.length)
theorem wn {p:Pos} (hg:Gl X "len") (hm:X.mg "len"=none) (ha:DE X a ta) (hs:starEach [a] X.env=(false,eval a X.env)::starEach [] X.env:=by rfl) (hpl:(backTo pos (starEach [] X.env)).any (·.1)=false:=by rfl):
  DE X (.Call (.Name "len" p) [a] [] pos) (WT ta):=by
 obtain ⟨te,p1,l1⟩:=ha
 refine ⟨_,yj wW hg hm PySem.boot_len (zx p1 zP hs) (by decide) (by decide) hs hpl,fun ρ σ H Q r h R k=>l1 ρ σ H _ r h _ fun d v H1 s1 i1 ⟨ds,e,q⟩=>?_⟩
 obtain ⟨a,xs,rfl,h1,h2⟩:=qo i1 e
 exact ⟨a,xs,rfl,h1,by rw [← h2.length]; exact k _ _ H1 s1 (is_int.mpr rfl) q⟩
def rZ (xs:List Dt) (lo hi:Option Int):List Dt:=(xs.drop (HT.sIx xs.length 0 lo)).take (HT.sIx xs.length xs.length hi - HT.sIx xs.length 0 lo)
theorem AllIs.cut {G:Hp} {ds:List Dt} {xs:List V} (h:AllIs K G ds xs) (lo hi:Option Int):AllIs K G (rZ ds lo hi) (qX xs lo hi):=by
 unfold rZ qX
 rw [← h.length]
 exact (h.drop _).take _
abbrev DTO:=DS→(Option Int→Prop)→Prop
def DO (X:Cx) (e:Option Expr) (t:DTO):Prop:=∃ te,PO X e te∧∀ {F:Hp} (ρ:DS) (σ:St) (H:Vw) (Q:Option Int→Prop),Rl X.K (Zx X) F H ρ σ→t ρ Q→∀ R:Option Int→Hp→Prop,(∀ o H',Le H H'→Q o→R o H'.h)→te σ H.h R
def XB (t:DTE):DTO:=fun ρ Q=>t ρ fun d=>∃ i,d=.int i∧Q (some i)
theorem pP (ha:DE X a ta):DO X (some a) (XB ta):=by
 obtain ⟨te,p1,l1⟩:=ha
 refine ⟨_,jG p1,fun ρ σ H Q r h R k=>l1 ρ σ H _ r h _ fun d v H1 s1 i1 ⟨i,e,q⟩=>?_⟩
 subst e
 exact ⟨i,is_int.mp i1,k _ H1 s1 q⟩
def vn:Dt→Option (List Dt)
 | .lst ds=>some ds
 | .scr ns=>some (ns.map .int)
 | _=>none
theorem fZ {H:Vw} {d:Dt} {v:V} {ds:List Dt} (h:Is K H.g d v) (e:vn d=some ds):∃ a xs,v=.ref a∧SqL K H.h a xs∧AllIs K H.g ds xs:=by
 cases d with
 | lst es=>
  obtain rfl:es=ds:=Option.some.inj e
  obtain ⟨a,xs,rfl,h1,h2⟩:=is_lst.mp h
  exact ⟨a,xs,rfl,.of (H.sub _ _ h1),h2⟩
 | scr ns=>
  obtain rfl:ns.map Dt.int=ds:=Option.some.inj e
  obtain ⟨a,rfl,h1⟩:=is_scr.mp h
  exact ⟨a,_,rfl,H.sub.seq h1,AllIs.ints⟩
 | _=>cases e
def dSl (te:DTE) (tl th:DTO):DTE:=fun ρ Q=>te ρ fun d=>tl ρ fun l=>th ρ fun u=>∃ ds,vn d=some ds∧Q (.lst (rZ ds l u))
theorem kQ {lo hi:Option Expr} {tl th:DTO} {p2:Pos} (ha:DE X a ta) (hl:DO X lo tl) (hu:DO X hi th):DE X (.Subscript a (.Slice lo hi none p2) pos) (dSl ta tl th):=by
 obtain ⟨te,p1,l1⟩:=ha
 obtain ⟨tf,p2,l2⟩:=hl
 obtain ⟨tg,p3,l3⟩:=hu
 refine ⟨_,nD jy p1 p2 p3,fun ρ σ H Q r h R k=>l1 ρ σ H _ r h _ fun d v H1 s1 i1 q1=>l2 ρ σ H1 _ (r.mono s1) q1 _ fun l H2 s2 q2=>l3 ρ σ H2 _ (r.mono (s1.trans s2)) q2 _ fun u H3 s3 ⟨ds,e,q⟩=>?_⟩
 obtain ⟨a,xs,rfl,h1,h2⟩:=fZ (i1.mono (s2.trans s3)) e
 refine ⟨a,xs,rfl,h1,fun p hp=>?_⟩
 have s:=y4 hp (.lst (qX xs l u))
 exact k _ _ _ (((s1.trans s2).trans s3).trans s) (is_lst.mpr ⟨p,_,rfl,zh,(h2.cut l u).mono s⟩) q
end
def LiF (K:PySem.W.Frag) (Z:Hp) (te:TE) (t:DTE):Prop:=
 ∀ {F:Hp} (ρ:DS) (σ:St) (H:Vw) (Q:Dt→Prop),Rl K Z F H ρ σ→t ρ Q→∀ R:VK,
  (∀ es p xs H',Le H H'→H.h p=none→H'.h p=some (.lst xs)→H'.g p=none→AllIs K H'.g es xs→Q (.lst es)→R (.ref p) H'.h)→te σ H.h R
def DF (X:Cx) (e:Expr) (t:DTE):Prop:=∃ te,PE X e te∧LiF X.K (Zx X) te t
theorem xD {H H':Vw} {p:Addr} {o:HO} (s:Le H H') (h0:H.h p=none) (h1:H'.h p=some o) (h2:H'.g p=none):Le H (H'.frz p o h1):=
 ⟨s.g.trans (zA h2 o),s.h,fun a z1 z2=>by
  have:a≠p:=fun e=>z1 (e ▸ h0)
  show upd H'.g p o a=none
  rw [zl this]; exact s.n a z1 z2⟩
section
variable {X:Cx} {a b c e:Expr} {ta tb tc:DTE} {t:DTA} {pos p0 p1 p2:Pos} {es:List Expr}
theorem DF.de {t:DTE} (h:DF X e t):DE X e t:=by
 obtain ⟨te,p,l⟩:=h
 exact ⟨te,p,fun ρ σ H Q r h R k=>l ρ σ H Q r h R fun es q xs H' s h0 h1 h2 i z=>k (.lst es) (.ref q) (H'.frz q _ h1) (xD s h0 h1 h2) (is_lst.mpr ⟨q,xs,rfl,zh,AllIs.mono0 (zA h2 _) i⟩) z⟩
theorem sU (h:DA X es t):DF X (.List es pos) (XI t):=by
 obtain ⟨te,p1,l1⟩:=h
 refine ⟨_,nF p1,fun ρ σ H Q r h R k=>l1 ρ σ H _ r h _ fun ds vs H1 s1 i1 ⟨hl,q1⟩=>⟨?_,fun p hp=>?_⟩⟩
 ·rw [← i1.length]; exact Nat.le_trans (Nat.le_of_ble_eq_true hl) (by decide)
 ·exact k ds p vs (H1.mine p (.lst vs) (H1.sub.free hp)) (s1.trans (z6 hp _)) (s1.h.free hp) zh (H1.sub.free hp) i1 q1
def XJ (ta:DTE):DTE:=fun ρ Q=>ta ρ fun d=>∃ ds,pe d=some ds∧Q (.lst ds)
theorem sV (hg:Gl X "list") (hm:X.mg "list"=none) (ha:DE X a ta) (hs:starEach [a] X.env=(false,eval a X.env)::starEach [] X.env:=by rfl) (hpl:(backTo pos (starEach [] X.env)).any (·.1)=false:=by rfl):
  DF X (.Call (.Name "list" p0) [a] [] pos) (XJ ta):=by
 obtain ⟨te,p1,l1⟩:=ha
 refine ⟨_,tQ wV hg hm PyProof.Rows.boot_list (zx p1 zP hs) (by decide) (by decide) hs hpl,fun ρ σ H Q r h R k=>l1 ρ σ H _ r h _ fun d v H1 s1 i1 ⟨ds,e,q⟩=>?_⟩
 obtain ⟨a,xs,rfl,h1,h2⟩:=qo i1 e
 exact ⟨a,xs,rfl,h1,fun p hp=>k _ p _ (H1.mine p _ (H1.sub.free hp)) (s1.trans (z6 hp _)) (s1.h.free hp) zh (H1.sub.free hp) h2 q⟩
variable {i:Nat} {x:Str}
def XM (i:Nat):DTE:=fun ρ Q=>∃ ds,ρ[i]? = some (.own ds)∧Q (.int ds.length)
theorem dj (i:Nat) (hg:Gl X "len") (hm:X.mg "len"=none) (hN:X.N[i]? = some x:=by rfl) (hv:Vis X.env.scope x:=by first | exact Or.inl rfl | exact Or.inr (Or.inl rfl) | exact Or.inr (Or.inr rfl)) (hd:(x == ("__debug__":Str))=false:=by decide)
  (hcd:(x == ("__classdict__":Str))=false:=by decide) (hs:starEach [.Name x p1] X.env=(false,eval (.Name x p1) X.env)::starEach [] X.env:=by rfl) (hpl:(backTo pos (starEach [] X.env)).any (·.1)=false:=by rfl):
  DE X (.Call (.Name "len" p0) [.Name x p1] [] pos) (XM i):=by
 refine ⟨_,yj wW hg hm PySem.boot_len (zx (zJ hN hv hd hcd) zP hs) (by decide) (by decide) hs hpl,fun ρ σ H Q r h R k=>?_⟩
 obtain ⟨ds,e,q⟩:=h
 obtain ⟨a,xs,e1,e2,e3,e4,e5⟩:=r.ow i ds e
 exact ⟨.ref a,e1,a,xs,rfl,.inl (.of e2),by rw [← e5.length]; exact k _ _ H (Le.refl H) (is_int.mpr rfl) q⟩
def WU (i:Nat) (tb:DTE):DTE:=fun ρ Q=>∃ ds,ρ[i]? = some (.own ds)∧tb ρ fun e=>∃ k d,e=.int k∧atI ds k=some d∧Q d
theorem ZL (i:Nat) (hb:DE X b tb) (hs:xq b) (hN:X.N[i]? = some x:=by rfl) (hv:Vis X.env.scope x:=by first | exact Or.inl rfl | exact Or.inr (Or.inl rfl) | exact Or.inr (Or.inr rfl)) (hd:(x == ("__debug__":Str))=false:=by decide)
  (hcd:(x == ("__classdict__":Str))=false:=by decide):DE X (.Subscript (.Name x p1) b pos) (WU i tb):=by
 obtain ⟨tf,p2,l2⟩:=hb
 refine ⟨_,wB ix_list (zJ hN hv hd hcd) p2 hs,fun ρ σ H Q r h R k=>?_⟩
 obtain ⟨ds,e,h⟩:=h
 obtain ⟨a,xs,e1,e2,e3,e4,e5⟩:=r.ow i ds e
 refine ⟨.ref a,e1,l2 ρ σ H _ r h _ fun e u H2 s2 i2 ⟨n,d,en,ed,q⟩=>?_⟩
 subst en
 obtain ⟨v,ev,iv⟩:=e5.atI ed
 exact ⟨a,xs,n,v,rfl,is_int.mp i2,.of (s2.h _ _ e2),ev,k d v H2 s2 (iv.mono s2) q⟩
def fz:Sl→Sl
 | .own ds=>.some (.lst ds)
 | .arg _ ds=>.some (.lst ds)
 | .obj _=>.none
 | s=>s
open Classical in
theorem Rl.bor {ρ:DS} {σ:St} (r:Rl K Z F W ρ σ):∃ W':Vw,W'.h=W.h∧Same W.g W'.g∧Rl K Z F W' (ρ.map fz) σ∧∀ a o,W'.g a=some o→W.g a=some o∨∃ xs,o=.lst xs:=by
 let ow:Addr→Prop:=fun a=>∃ (i:Nat) (ds:List Dt),(ρ[i]? = some (Sl.own ds)∧σ[i]? = some (some (V.ref a)))∨ρ[i]? = some (Sl.arg a ds)
 have own_at:∀ a,ow a→W.g a=none:=fun a ⟨i,ds,h⟩=>by
  rcases h with ⟨e,ea⟩ | e
  ·obtain ⟨b,xs,e1,_,e3,_⟩:=r.ow i ds e
   rw [ea] at e1
   cases e1
   exact e3
  ·exact (r.ar i a ds e).1.choose_spec.2.2.1
 let g:Hp:=fun a=>if ow a then W.h a else W.g a
 have gs:Same W.g g:=fun b o q=>by
  show (if ow b then W.h b else W.g b)=some o
  by_cases hb:ow b
  ·rw [own_at b hb] at q; cases q
  ·rw [if_neg hb]; exact q
 have sub:Same g W.h:=fun b o q=>by
  have q':(if ow b then W.h b else W.g b)=some o:=q
  by_cases hb:ow b
  ·rw [if_pos hb] at q'; exact q'
  ·rw [if_neg hb] at q'; exact W.sub _ _ q'
 have cls:∀ (i:Nat) (y:Sl),(ρ.map fz)[i]? = some y→(∃ d,ρ[i]? = some (.some d)∧y=.some d)∨(∃ ds,(ρ[i]? = some (.own ds)∨∃ a,ρ[i]? = some (.arg a ds))∧y=.some (.lst ds))∨y=.none:=fun i y e=>by
  rw [List.getElem?_map] at e
  cases q:ρ[i]? with
  | none=>rw [q] at e; cases e
  | some z=>
   rw [q] at e
   have e':=(Option.some.inj e).symm
   cases z with
   | none=>exact .inr (.inr e')
   | some d=>exact .inl ⟨d,rfl,e'⟩
   | own ds=>exact .inr (.inl ⟨ds,.inl rfl,e'⟩)
   | arg a ds=>exact .inr (.inl ⟨ds,.inr ⟨a,rfl⟩,e'⟩)
   | obj φ=>exact .inr (.inr e')
 have gl:∀ a o,g a=some o→W.g a=some o∨∃ xs,o=HO.lst xs:=fun a o q=>by
  have q':(if ow a then W.h a else W.g a)=some o:=q
  by_cases hb:ow a
  ·rw [if_pos hb] at q'
   obtain ⟨i,ds,h⟩:=hb
   rcases h with ⟨e,ea⟩ | e
   ·obtain ⟨b,xs,e1,e2,_⟩:=r.ow i ds e
    rw [ea] at e1
    cases e1
    rw [e2] at q'
    exact .inr ⟨xs,(Option.some.inj q').symm⟩
   ·obtain ⟨⟨xs,_,e2,_⟩,_,_⟩:=r.ar i a ds e
    rw [e2] at q'
    exact .inr ⟨xs,(Option.some.inj q').symm⟩
  ·rw [if_neg hb] at q'
   exact .inl q'
 refine ⟨⟨g,W.h,sub⟩,rfl,gs,⟨by rw [List.length_map]; exact r.len,fun i d e=>?_,fun i ds e=>?_,fun i j ds es _ e _=>?_,r.fr,r.z,fun i a ds e=>?_,fun i φ e=>?_⟩,gl⟩
 ·rcases cls i _ e with ⟨d',q,e1⟩ | ⟨ds,q,e1⟩ | e1
  ·cases e1
   obtain ⟨v,h1,h2⟩:=r.at_ i d q
   exact ⟨v,h1,Is.mono0 gs h2⟩
  ·cases e1
   rcases q with q | ⟨b,q⟩
   ·obtain ⟨b,xs,e1,e2,e3,e4,e5⟩:=r.ow i ds q
    have hb:ow b:=⟨i,ds,.inl ⟨q,e1⟩⟩
    exact ⟨_,e1,is_lst.mpr ⟨b,xs,rfl,(if_pos hb).trans e2,AllIs.mono0 gs e5⟩⟩
   ·obtain ⟨⟨xs,e1,e2,e3,e4,e5⟩,_,_⟩:=r.ar i b ds q
    have hb:ow b:=⟨i,ds,.inr q⟩
    exact ⟨_,e1,is_lst.mpr ⟨b,xs,rfl,(if_pos hb).trans e2,AllIs.mono0 gs e5⟩⟩
  ·cases e1
 ·rcases cls i _ e with ⟨d',q,e1⟩ | ⟨ds,q,e1⟩ | e1 <;> cases e1
 ·rcases cls i _ e with ⟨d',q,e1⟩ | ⟨ds,q,e1⟩ | e1 <;> cases e1
 ·rcases cls i _ e with ⟨d',q,e1⟩ | ⟨ds,q,e1⟩ | e1 <;> cases e1
 ·rcases cls i _ e with ⟨d',q,e1⟩ | ⟨ds,q,e1⟩ | e1 <;> cases e1
theorem qc {H W' H1:Vw} (e:W'.h=H.h) (s1:Le W' H1) (sg:Same H.g W'.g):∃ H2:Vw,H2.h=H1.h∧H2.g=H.g∧Le H H2:=
 ⟨⟨H.g,H1.h,(sg.trans s1.g).trans H1.sub⟩,rfl,rfl,Same.refl _,e ▸ s1.h,fun _ _ h=>h⟩
def XY (t:DTT):DTT:=fun ρ Q=>t (ρ.map fz) Q
theorem ZE {t:DTT} (h:DT X e t):DT X e (XY t):=by
 obtain ⟨te,p,l⟩:=h
 refine ⟨te,p,fun ρ σ H Q r hq R k=>?_⟩
 obtain ⟨W',e,sg,r',_⟩:=r.bor
 have:=l (ρ.map fz) σ W' Q r' hq R fun b H1 s1 q1=>by
  obtain ⟨H2,e2,_,s2⟩:=qc e s1 sg
  rw [← e2]
  exact k b H2 s2 q1
 rw [e] at this
 exact this
def dM:Dt→Bool
 | .non=>true | .bl _=>true | .int _=>true | .str _=>true | _=>false
end
abbrev DSp:=List Dt→(Dt→Prop)→Prop
def zo (K:PySem.W.Frag) (S:DSp):Sp:=fun vs H Q _=>∃ (W:Vw) (ds:List Dt) (Qd:Dt→Prop),W.h=H∧AllIs K W.g ds vs∧S ds Qd∧∀ d v W',Le W W'→Is K W'.g d v→Qd d→Q v W'.h
def xZ (K:PySem.W.Frag) (S:DSp):Sp:=fun vs H Q _=>∃ (W:Vw) (ds:List Dt) (Qd:Dt→Prop),W.h=H∧AllIs K W.g ds vs∧S ds Qd∧
 ∀ es p xs W',Le W W'→W.h p=none→W'.h p=some (.lst xs)→W'.g p=none→AllIs K W'.g es xs→Qd (.lst es)→Q (.ref p) W'.h
structure DOk (P:Program) (w:World) (K:PySem.W.Frag) (mg:Str→Option Value) (base:Heap) (n:Nat) (x:Str) (S:DSp):Prop where
 ex:∃ f fd ps,mg x=some (.ref f)∧PySem.W.keepIn K (.ref f)=true∧Binds K fd ps []∧FnOk P w K mg base CX0 n f fd ps (zo K S)
structure FOk (P:Program) (w:World) (K:PySem.W.Frag) (mg:Str→Option Value) (base:Heap) (n:Nat) (x:Str) (S:DSp):Prop where
 ex:∃ f fd ps,mg x=some (.ref f)∧PySem.W.keepIn K (.ref f)=true∧Binds K fd ps []∧FnOk P w K mg base CX0 n f fd ps (xZ K S)
structure MOk (P:Program) (w:World) (K:PySem.W.Frag) (mg:Str→Option Value) (base:Heap) (n:Nat) (C:Addr) (m:Str) (S:DSp):Prop where
 cl:Cls K C
 ex:∃ f fd ps,s9 K C m f∧Binds K fd ps []∧FnOk P w K mg base CX0 n f fd ps (zo K S)
structure FMOk (P:Program) (w:World) (K:PySem.W.Frag) (mg:Str→Option Value) (base:Heap) (n:Nat) (C:Addr) (m:Str) (S:DSp):Prop where
 cl:Cls K C
 ex:∃ f fd ps,s9 K C m f∧Binds K fd ps []∧FnOk P w K mg base CX0 n f fd ps (xZ K S)
section
variable {X:Cx} {a b c e o:Expr} {ta tb tc:DTE} {pos p apos:Pos} {es:List Expr} {t:DTA} {n:Nat} {x m:Str} {S:DSp}
def XX (S:DSp) (t:DTA):DTE:=fun ρ Q=>t ρ fun ds=>S ds Q
theorem zn (G:DOk X.prog X.w X.K X.mg X.base n x S) (hr:Room n X.A) (hg:Gl X x) (ha:DA X (e::es) t) (hdb:(x == ("__debug__":Str))=false:=by decide)
  (he:starEach (e::es) X.env=(false,eval e X.env)::starEach es X.env:=by rfl) (hpl:(backTo pos (starEach es X.env)).any (·.1)=false:=by rfl):DE X (.Call (.Name x p) (e::es) [] pos) (XX S t):=by
 obtain ⟨f,fd,ps,hm,hk,hb,F⟩:=G.ex
 obtain ⟨te,p1,l1⟩:=ha
 refine ⟨_,sB F hr hg hm hk hb .nil rk p1 hdb he hpl,fun ρ σ H Q r h R k=>l1 ρ σ H _ r h _ fun ds vs H1 s1 i1 q1=>?_⟩
 rw [List.append_nil]
 exact ⟨H1,ds,Q,rfl,i1,q1,fun d v H2 s2 i2 q2=>k d v H2 (s1.trans s2) i2 q2⟩
def ni (X:Cx) (n:Nat) (m:Str) (ta:TE) (t:TA):TE:=fun σ H Q=>ta σ H fun x H1=>∃ a dx fs C f fd ps sp,x=.ref a∧H1 a=some (.ins C dx fs)∧fs.lookup m=none∧Cls X.K C∧s9 X.K C m f∧Binds X.K fd ps []∧
 FnOk X.prog X.w X.K X.mg X.base CX0 n f fd ps sp∧t σ H1 fun vs H2=>sp (x::vs) H2 Q E0
theorem nE {pl:Sem Bool} {te:TE} {tt:TA} (he:PE X o te) (hr:Room n X.A) (ha:PA X (e::es) tt)
  (hst:starEach (e::es) X.env=(false,eval e X.env)::starEach es X.env:=by rfl) (hpl:(backTo pos (starEach es X.env)).any (·.1)=false:=by rfl)
  (ht:eval (.Call (.Attribute o m apos) (e::es) [] pos) X.env=(do
   let ov ← eval o X.env
   standAt apos.atName
   let (f,first) ← holding [ov] (getMethod ov m pl)
   callWith pos f first (backTo pos (starEach (e::es) X.env)) (backToKw pos (keywordEach [] X.env))):=by rfl):
  PE X (.Call (.Attribute o m apos) (e::es) [] pos) (ni X n m te tt):=by
 intro pins s σ H Q I h
 refine PySem.W.methodCall_KW (pl:=pl) (thn (he pins s σ H _ I h) fun u s1 ⟨x,H1,I1,rx,a,dx,fs,C,f,fd,ps,sp,ex,ea,l,c,hm,hb,F,q⟩=>?_) ht
 subst ex
 obtain rfl:u=Value.ref a:=rx
 refine xo I1 ea c hm l ?_
 refine PySem.W.callWith_K (first:=[.ref a]) (h₀:=X.base) I.ok.mod.kin hm.kp (thn (ha pos pins s1 σ H1 _ I1 q) fun us s2 ⟨vs,H2,I2,r,q2⟩=>⟨I2.kIn,?_⟩) hst hpl
 exact sy (us:=.ref a::us) (vs:=.ref a::vs) (dvs:=[]) (E:=E0) F hr hb .nil rk I2 (.cons rfl r) (by rw [List.append_nil]; exact q2)
theorem tP {pl:Sem Bool} {te:TE} (he:PE X o te) (hr:Room n X.A)
  (ht:eval (.Call (.Attribute o m apos) [] [] pos) X.env=(do
   let ov ← eval o X.env
   standAt apos.atName
   let (f,first) ← holding [ov] (getMethod ov m pl)
   callWith pos f first (backTo pos (starEach [] X.env)) (backToKw pos (keywordEach [] X.env))):=by rfl):
  PE X (.Call (.Attribute o m apos) [] [] pos) (ni X n m te Yd):=by
 intro pins s σ H Q I h
 refine PySem.W.methodCall_KW (pl:=pl) (thn (he pins s σ H _ I h) fun u s1 ⟨x,H1,I1,rx,a,dx,fs,C,f,fd,ps,sp,ex,ea,l,c,hm,hb,F,q⟩=>?_) ht
 subst ex
 obtain rfl:u=Value.ref a:=rx
 refine xo I1 ea c hm l ?_
 exact PySem.W.callWith_K0 (first:=[.ref a]) I1.kIn hm.kp (sy (us:=[.ref a]) (vs:=[.ref a]) (dvs:=[]) (E:=E0) F hr hb .nil rk I1 (.cons rfl .nil) q)
def XG (X:Cx) (n:Nat) (m:Str) (ta:DTE) (t:DTA):DTE:=fun ρ Q=>ta ρ fun d=>∃ C f k S,d=.way C f k∧(m == f)=false∧MOk X.prog X.w X.K X.mg X.base n C m S∧t ρ fun ds=>S (d::ds) Q
theorem uc {pl:Sem Bool} (hr:Room n X.A) (he:DE X o ta) (ha:DA X (e::es) t)
  (hst:starEach (e::es) X.env=(false,eval e X.env)::starEach es X.env:=by rfl) (hpl:(backTo pos (starEach es X.env)).any (·.1)=false:=by rfl)
  (ht:eval (.Call (.Attribute o m apos) (e::es) [] pos) X.env=(do
   let ov ← eval o X.env
   standAt apos.atName
   let (f,first) ← holding [ov] (getMethod ov m pl)
   callWith pos f first (backTo pos (starEach (e::es) X.env)) (backToKw pos (keywordEach [] X.env))):=by rfl):
  DE X (.Call (.Attribute o m apos) (e::es) [] pos) (XG X n m ta t):=by
 obtain ⟨te,p0,l0⟩:=he
 obtain ⟨tt,p1,l1⟩:=ha
 refine ⟨_,nE (pl:=pl) p0 hr p1 hst hpl ht,fun ρ σ H Q r h R k=>l0 ρ σ H _ r h _ fun d v H1 s1 i1 ⟨C,f,z,S,ed,hne,M,q1⟩=>?_⟩
 subst ed
 obtain ⟨a,dx,rfl,ha⟩:=is_way.mp i1
 obtain ⟨g,fd,ps,hm,hb,F⟩:=M.ex
 refine ⟨a,dx,_,C,g,fd,ps,_,rfl,H1.sub _ _ ha,by simp [List.lookup,hne],M.cl,hm,hb,F,l1 ρ σ H1 _ (r.mono s1) q1 _ fun ds vs H2 s2 i2 q2=>?_⟩
 exact ⟨H2,_,Q,rfl,allIs_cons.mpr ⟨_,_,rfl,i1.mono s2,i2⟩,q2,fun d v H3 s3 i3 q3=>k d v H3 ((s1.trans s2).trans s3) i3 q3⟩
def ZV (X:Cx) (n:Nat) (m:Str) (ta:DTE):DTE:=fun ρ Q=>ta ρ fun d=>∃ C f k S,d=.way C f k∧(m == f)=false∧MOk X.prog X.w X.K X.mg X.base n C m S∧S [d] Q
theorem rR {pl:Sem Bool} (hr:Room n X.A) (he:DE X o ta)
  (ht:eval (.Call (.Attribute o m apos) [] [] pos) X.env=(do
   let ov ← eval o X.env
   standAt apos.atName
   let (f,first) ← holding [ov] (getMethod ov m pl)
   callWith pos f first (backTo pos (starEach [] X.env)) (backToKw pos (keywordEach [] X.env))):=by rfl):
  DE X (.Call (.Attribute o m apos) [] [] pos) (ZV X n m ta):=by
 obtain ⟨te,p0,l0⟩:=he
 refine ⟨_,tP (pl:=pl) p0 hr ht,fun ρ σ H Q r h R k=>l0 ρ σ H _ r h _ fun d v H1 s1 i1 ⟨C,f,z,S,ed,hne,M,q1⟩=>?_⟩
 subst ed
 obtain ⟨a,dx,rfl,ha⟩:=is_way.mp i1
 obtain ⟨g,fd,ps,hm,hb,F⟩:=M.ex
 refine ⟨a,dx,_,C,g,fd,ps,_,rfl,H1.sub _ _ ha,by simp [List.lookup,hne],M.cl,hm,hb,F,?_⟩
 exact ⟨H1,_,Q,rfl,allIs_cons.mpr ⟨_,_,rfl,i1,allIs_nil.mpr rfl⟩,q1,fun d v H3 s3 i3 q3=>k d v H3 (s1.trans s3) i3 q3⟩
def W7 (K:PySem.W.Frag) (f:Str) (ta:DTE):DTE:=fun ρ Q=>ta ρ fun d=>∃ C g k,d=.way C g k∧(f == g)=true∧Cls K C∧NoAttr K C f∧Q (.int k)
theorem zS {f:Str} (ha:DE X a ta) (hb:attributeBase a f X.env (eval a X.env)=eval a X.env:=by rfl):DE X (.Attribute a f pos) (W7 X.K f ta):=by
 obtain ⟨te,p1,l1⟩:=ha
 refine ⟨_,nG p1 hb,fun ρ σ H Q r h R k=>l1 ρ σ H _ r h _ fun d v H1 s1 i1 ⟨C,g,z,ed,hfg,hc,hn,q1⟩=>?_⟩
 subst ed
 obtain ⟨p,dx,rfl,hp⟩:=is_way.mp i1
 exact ⟨p,C,dx,_,.int z,rfl,H1.sub _ _ hp,hc,hn,by simp [List.lookup,hfg],k _ _ H1 s1 (is_int.mpr rfl) q1⟩
def xP (C:Addr) (f:Str) (ok:Int→Prop):Sp:=fun vs H Q _=>∃ p dx i,vs=[.ref p,.int i]∧H p=some (.ins C dx [])∧ok i∧∀ H':Hp,H' p=some (.ins C dx [(f,.int i)])→(∀ b o,H b=some o→b≠p→H' b=some o)→Q .non H'
structure KOk (P:Program) (w:World) (K:PySem.W.Frag) (mg:Str→Option Value) (base:Heap) (n:Nat) (x:Str) (C:Addr) (f:Str) (ok:Int→Prop):Prop where
 ex:∃ g fd ps,mg x=some (.ref C)∧Mk K C g∧Binds K fd ps []∧FnOk P w K mg base CX0 n g fd ps (xP C f ok)
def XH (C:Addr) (f:Str) (ok:Int→Prop) (t:DTA):DTE:=fun ρ Q=>t ρ fun ds=>∃ i,ds=[.int i]∧ok i∧Q (.way C f i)
theorem ud {C:Addr} {f:Str} {ok:Int→Prop} (G:KOk X.prog X.w X.K X.mg X.base n x C f ok) (hr:Room (n+1) X.A) (hg:Gl X x) (ha:DA X (e::es) t) (hdb:(x == ("__debug__":Str))=false:=by decide)
  (he:starEach (e::es) X.env=(false,eval e X.env)::starEach es X.env:=by rfl) (hpl:(backTo pos (starEach es X.env)).any (·.1)=false:=by rfl):DE X (.Call (.Name x p) (e::es) [] pos) (XH C f ok t):=by
 obtain ⟨g,fd,ps,hm,M,hb,F⟩:=G.ex
 obtain ⟨te,p1,l1⟩:=ha
 refine ⟨_,pA M F hr hg hm hb .nil rk p1 hdb he hpl,fun ρ σ H Q r h R k=>l1 ρ σ H _ r h _ fun ds vs H1 s1 i1 ⟨i,ed,hok,q1⟩ y dy ny ndy ne=>?_⟩
 subst ed
 obtain ⟨v,rfl,hv⟩:=i1.one
 obtain rfl:=is_int.mp hv
 refine ⟨y,dy,i,rfl,zh,hok,fun H' e1 e2=>⟨rfl,?_⟩⟩
 have keep:Same H1.h H':=fun b o hb=>e2 b o (by rw [zl (zF hb ny),zl (zF hb ndy)]; exact hb) (zF hb ny)
 have gy:H1.g y=none:=H1.sub.free ny
 exact k _ _ ⟨upd H1.g y (.ins C dy [(f,.int i)]),H',fun b u q=>by
   by_cases e:b=y
   ·subst e; rw [zh] at q; rw [e1]; exact q
   ·rw [zl e] at q; exact keep _ _ (H1.sub _ _ q)⟩
  (s1.trans ⟨zA gy _,keep,fun a z1 z2=>by
   have:a≠y:=fun e=>z1 (e ▸ ny)
   show upd H1.g y _ a=none
   rw [zl this]; exact z2⟩) (is_way.mpr ⟨y,dy,rfl,zh⟩) q1
structure dH (K:PySem.W.Frag):Prop where
 ib:PySem.W.kitOne K (.type "int") (.type "bool")=some false
 it:PySem.W.kitOne K (.type "int") (.type "tuple")=some false
 il:PySem.W.kitOne K (.type "int") (.type "list")=some false
 bi:PySem.W.kitOne K (.type "bool") (.type "int")=some true
 bt:PySem.W.kitOne K (.type "bool") (.type "tuple")=some false
 bl:PySem.W.kitOne K (.type "bool") (.type "list")=some false
 ti:PySem.W.kitOne K (.type "tuple") (.type "int")=some false
 tb:PySem.W.kitOne K (.type "tuple") (.type "bool")=some false
 tl:PySem.W.kitOne K (.type "tuple") (.type "list")=some false
 li:PySem.W.kitOne K (.type "list") (.type "int")=some false
 lb:PySem.W.kitOne K (.type "list") (.type "bool")=some false
 lt:PySem.W.kitOne K (.type "list") (.type "tuple")=some false
theorem wN {K:PySem.W.Frag} {t:Value}:PySem.W.kitOne K t t=some true:=by
 unfold PySem.W.kitOne
 rw [if_pos (beq_self_eq_true t)]
theorem Zq {K:PySem.W.Frag} {t c:String} {b:Bool} (h1:(Value.type t == Value.type c)=false) (h2:PySem.W.kitMeta c=true) (h3:(fastBuiltinMro t).map (·.contains (Value.type c))=some b):PySem.W.kitOne K (.type t) (.type c)=some b:=by
 unfold PySem.W.kitOne PySem.W.kitCls
 rw [if_neg (by rw [h1]; decide)]
 show (if PySem.W.kitMeta c=true then PySem.W.subIn K (.type t) (.type c) else none)=some b
 rw [if_pos h2]
 exact h3
theorem WD (K:PySem.W.Frag):dH K:=by
 constructor <;> exact Zq (by decide +kernel) (by decide +kernel) (by decide +kernel)
inductive TyN where | int | bool | tuple | list
def TyN.str:TyN→String
 | .int=>"int" | .bool=>"bool" | .tuple=>"tuple" | .list=>"list"
def Xh:Dt→TyN→Option Bool
 | .int _,.int=>some true | .int _,.bool=>some false | .int _,.tuple=>some false | .int _,.list=>some false
 | .bl _,.int=>some true | .bl _,.bool=>some true | .bl _,.tuple=>some false | .bl _,.list=>some false
 | .tup _,.int=>some false | .tup _,.bool=>some false | .tup _,.tuple=>some true | .tup _,.list=>some false
 | .lst _,.int=>some false | .lst _,.bool=>some false | .lst _,.tuple=>some false | .lst _,.list=>some true
 | _,_=>none
theorem Zw {H:Vw} {d:Dt} {v:V} {T:TyN} {b:Bool} (kt:dH K) (h:Is K H.g d v) (e:Xh d T=some b):∃ tv,wr K H.h v tv∧PySem.W.kitOne K tv (.type T.str)=some b:=by
 cases d with
 | int i=>
  obtain rfl:=is_int.mp h
  refine ⟨_,.int i,?_⟩
  cases T <;> (obtain rfl:=Option.some.inj e; first | exact wN | exact kt.ib | exact kt.it | exact kt.il)
 | bl i=>
  obtain rfl:=is_bl.mp h
  refine ⟨_,.bl i,?_⟩
  cases T <;> (obtain rfl:=Option.some.inj e; first | exact wN | exact kt.bi | exact kt.bt | exact kt.bl)
 | tup ds=>
  obtain ⟨a,xs,rfl,h1,_⟩:=is_tup.mp h
  refine ⟨_,.tup (H.sub _ _ h1),?_⟩
  cases T <;> (obtain rfl:=Option.some.inj e; first | exact wN | exact kt.ti | exact kt.tb | exact kt.tl)
 | lst ds=>
  obtain ⟨a,xs,rfl,h1,_⟩:=is_lst.mp h
  refine ⟨_,.lst (H.sub _ _ h1),?_⟩
  cases T <;> (obtain rfl:=Option.some.inj e; first | exact wN | exact kt.li | exact kt.lb | exact kt.lt)
 | _=>cases T <;> cases e
theorem k_:CallR X (.builtin "isinstance") (fun xs H Q=>∃ v T tv b,xs=[v,.ty T]∧wr X.K H v tv∧PySem.W.kitOne X.K tv (.type T)=some b∧Q (.bl b) H):=by
 intro pins s σ H xs us Q I r h
 obtain ⟨v,T,tv,b,rfl,hty,hk,q⟩:=h
 cases r with
 | cons r1 r2=>
  cases r2 with
  | cons r3 r4=>
   cases r4
   cases r3
   exact tV I r1 hty hk fun tk=>⟨.bl b,H,I.tok _,rfl,q⟩
def WV (T:TyN) (ta:DTE):DTE:=fun ρ Q=>ta ρ fun d=>∃ b,Xh d T=some b∧Q (.bl b)
theorem yi {T:TyN} {y:Str} {p':Pos} (kt:dH X.K) (hm:X.mg "isinstance"=none) (hmc:X.mg y=none) (hv:bootBuiltins y=some (.type T.str)) (ha:DE X a ta)
  (hg:Gl X "isinstance":=by rfl) (hgc:Gl X y:=by rfl) (hny:y≠"__name__":=by decide) (hdy:(y == ("__debug__":Str))=false:=by decide)
  (hs:starEach [a,.Name y p'] X.env=(false,eval a X.env)::starEach [.Name y p'] X.env:=by rfl) (hs2:starEach [.Name y p'] X.env=(false,eval (.Name y p') X.env)::starEach [] X.env:=by rfl)
  (hpl:(backTo pos (starEach [.Name y p'] X.env)).any (·.1)=false:=by rfl):
  DE X (.Call (.Name "isinstance" p) [a,.Name y p'] [] pos) (WV T ta):=by
 obtain ⟨te,p1,l1⟩:=ha
 have pc:PE X (.Name y p') (tC (.ty T.str)):=jL hgc hmc hv rfl hny hdy
 refine ⟨_,yj k_ hg hm boot_isinstance (zx p1 (zx pc zP hs2) hs) (by decide) (by decide) hs hpl,fun ρ σ H Q r h R k=>l1 ρ σ H _ r h _ fun d v H1 s1 i1 ⟨b,e,q⟩=>?_⟩
 obtain ⟨tv,h1,h2⟩:=Zw kt i1 e
 exact ⟨v,T.str,tv,b,rfl,h1,h2,k _ _ H1 s1 (is_bl.mpr rfl) q⟩
end
structure DEnds where
 nx:DS→Prop
 rt:Dt→Prop
 bk:DS→Prop:=fun _=>False
 ct:DS→Prop:=fun _=>False
abbrev DTS:=DEnds→DS→Prop
structure At (K:PySem.W.Frag) (Z:Hp) (W0:Vw) (G:Hp) (W:Vw) (ρ:DS) (σ:St):Prop where
 le:Le W0 W
 gs:Same G W.g
 rl:Rl K Z W0.h W ρ σ
inductive Fr where | d | l | t (a b:Bool)
def NewL (K:PySem.W.Frag) (F:Hp) (W:Vw) (d:Dt) (v:V):Prop:=∃ es p xs,d=.lst es∧v=.ref p∧F p=none∧W.h p=some (.lst xs)∧W.g p=none∧AllIs K W.g es xs
def Prt (K:PySem.W.Frag) (F:Hp) (W:Vw) (b:Bool) (d:Dt) (v:V):Prop:=match b with
 | false=>Is K W.g d v
 | true=>NewL K F W d v∨dM d=true∧Is K W.g d v
def Tld (K:PySem.W.Frag) (F:Hp) (W:Vw):Fr→Dt→V→Prop
 | .d,d,v=>Is K W.g d v
 | .l,d,v=>NewL K F W d v
 | .t a b,d,v=>∃ d1 d2 q u1 u2,d=.tup [d1,d2]∧v=.ref q∧W.g q=some (.tup [u1,u2])∧Prt K F W a d1 u1∧Prt K F W b d2 u2∧(∀ es fs,a=true→b=true→d1=.lst es→d2=.lst fs→u1≠u2)
structure Sim (K:PySem.W.Frag) (Z:Hp) (fr:Fr) (W0:Vw) (G:Hp) (D:DEnds) (D':Ends):Prop where
 nx:∀ ρ σ W',At K Z W0 G W' ρ σ→D.nx ρ→D'.nx σ W'.h
 tl:∀ d v W',Le W0 W'→Tld K W0.h W' fr d v→D.rt d→D'.rt v W'.h
 bk:∀ ρ σ W',At K Z W0 G W' ρ σ→D.bk ρ→D'.bk σ W'.h
 ct:∀ ρ σ W',At K Z W0 G W' ρ σ→D.ct ρ→D'.ct σ W'.h
theorem NewL.le {F G:Hp} {W:Vw} {d:Dt} {v:V} (h:NewL K F W d v) (z:∀ p,F p=none→G p=none):NewL K G W d v:=
 let ⟨es,p,xs,h1,h2,h3,h4⟩:=h; ⟨es,p,xs,h1,h2,z p h3,h4⟩
theorem Sim.rf {Z:Hp} {fr:Fr} {W0:Vw} {G:Hp} {D:DEnds} {D':Ends} (s:Sim K Z fr W0 G D D') (hf:fr=.d∨fr=.l) (es:List Dt) (p:Addr) (xs:List V) (W':Vw) (le:Le W0 W') (h0:W0.h p=none) (h1:W'.h p=some (.lst xs)) (h2:W'.g p=none) (h3:AllIs K W'.g es xs) (q:D.rt (.lst es)):D'.rt (.ref p) W'.h:=by
 rcases hf with rfl | rfl
 ·exact s.tl (.lst es) (.ref p) (W'.frz p _ h1) (xD le h0 h1 h2) (is_lst.mpr ⟨p,xs,rfl,zh,AllIs.mono0 (zA h2 _) h3⟩) q
 ·exact s.tl (.lst es) (.ref p) W' le ⟨es,p,xs,rfl,rfl,h0,h1,h2,h3⟩ q
section
variable {W0:Vw} {G G':Hp} {ρ:DS} {σ:St} {fr:Fr}
theorem At.step (a:At K Z W0 G W ρ σ) (s:Le W W'):At K Z W0 G W' ρ σ:=⟨a.le.trans s,a.gs.trans s.g,a.rl.mono s⟩
theorem At.set (a:At K Z W0 G W ρ σ) {d:Dt} {v:V} (i:Nat) (h:Is K W.g d v):At K Z W0 G W (ρ.set i (.some d)) (σ.set i (some v)):=⟨a.le,a.gs,a.rl.set i h⟩
theorem At.weak (a:At K Z W0 G W ρ σ) (s:Same G' G):At K Z W0 G' W ρ σ:=⟨a.le,s.trans a.gs,a.rl⟩
theorem At.own (a:At K Z W0 G W ρ σ) (s:Le W W') {p:Addr} {xs:List V} {ds:List Dt} (i:Nat) (h0:W.h p=none) (h1:W'.h p=some (.lst xs)) (h2:W'.g p=none) (h3:AllIs K W'.g ds xs):
  At K Z W0 G W' (ρ.set i (.own ds)) (σ.set i (some (.ref p))):=⟨a.le.trans s,a.gs.trans s.g,a.rl.own s i h0 h1 h2 h3⟩
theorem At.put (at_:At K Z W0 G W ρ σ) {i:Nat} {ds es:List Dt} {a:Addr} {ys:List V} (hi:ρ[i]? = some (.own ds)) (ha:σ[i]? = some (some (.ref a))) (hg:W.g a=none) (hF:W0.h a=none) (h3:AllIs K W.g es ys):
  At K Z W0 G (W.mine a (.lst ys) hg) (ρ.set i (.own es)) σ:=
 ⟨⟨at_.le.g,fun b o q=>by
   have:b≠a:=fun e=>by rw [e,hF] at q; cases q
   show upd W.h a _ b=some o
   rw [zl this]; exact at_.le.h _ _ q,at_.le.n⟩,at_.gs,at_.rl.put hi ha hg hF h3⟩
theorem At.frz (at_:At K Z W0 G W ρ σ) {i:Nat} {ds:List Dt} {a:Addr} {xs:List V} (hi:ρ[i]? = some (.own ds)) (ha:σ[i]? = some (some (.ref a))) (hh:W.h a=some (.lst xs)) (hg:W.g a=none) (hF:W0.h a=none) (h3:AllIs K W.g ds xs):
  At K Z W0 G (W.frz a _ hh) (ρ.set i (.some (.lst ds))) σ:=
 ⟨xD at_.le hF hh hg,at_.gs.trans (zA hg _),at_.rl.frz hi ha hh hg h3⟩
theorem Sim.weak {D:DEnds} {D':Ends} (h:Sim K Z fr W0 G' D D') (s:Same G' G):Sim K Z fr W0 G D D':=
 ⟨fun ρ σ W' a=>h.nx ρ σ W' (a.weak s),h.tl,fun ρ σ W' a=>h.bk ρ σ W' (a.weak s),fun ρ σ W' a=>h.ct ρ σ W' (a.weak s)⟩
end
def LiS (K:PySem.W.Frag) (Z:Hp) (fr:Fr) (ts:TS) (t:DTS):Prop:=∀ (W0:Vw) (G:Hp) (ρ:DS) (σ:St) (W:Vw) (D:DEnds) (D':Ends),At K Z W0 G W ρ σ→Sim K Z fr W0 G D D'→t D ρ→ts D' σ W.h
def DSt (X:Cx) (fr:Fr) (st:Stmt) (t:DTS):Prop:=∃ ts,PS X st ts∧LiS X.K (Zx X) fr ts t
def DSs (X:Cx) (fr:Fr) (sts:List Stmt) (t:DTS):Prop:=∃ ts,PSs X sts ts∧LiS X.K (Zx X) fr ts t
def XF:DTS:=fun D ρ=>D.nx ρ
def dw (t u:DTS):DTS:=fun D ρ=>t { D with nx:=u D } ρ
def XA (te:DTE):DTS:=fun D ρ=>te ρ D.rt
def du (i:Nat) (te:DTE):DTS:=fun D ρ=>te ρ fun d=>D.nx (ρ.set i (.some d))
def Xw (i:Nat) (te:DTE):DTS:=fun D ρ=>te ρ fun d=>∃ ds,d=.lst ds∧D.nx (ρ.set i (.own ds))
def WX (c:DTT) (t u:DTS):DTS:=fun D ρ=>c ρ fun b=>if b=true then t D ρ else u D ρ
def XT (te:DTE):DTS:=fun D ρ=>te ρ fun _=>D.nx ρ
def ZU:DTS:=fun _ _=>False
def WN (i j:Nat) (te:DTE):DTS:=fun D ρ=>te ρ fun d=>∃ a b,d=.tup [a,b]∧D.nx ((ρ.set i (.some a)).set j (.some b))
def XQ (j:Nat) (te:DTE) (tb:DTS):DTS:=fun D ρ=>te ρ fun d=>∃ (ds:List Dt) (Pv:Nat→DS→Prop),vn d=some ds∧Pv 0 ρ∧
 (∀ i e ρ',ds[i]? = some e→Pv i ρ'→tb { D with nx:=Pv (i+1),ct:=Pv (i+1),bk:=D.nx } (ρ'.set j (.some e)))∧∀ ρ',Pv ds.length ρ'→D.nx ρ'
def ZY (j:Nat) (ta:DTA) (tb:DTS):DTS:=fun D ρ=>ta ρ fun ds=>∃ (m n:Int) (Pv:Nat→DS→Prop),ds=[.int m,.int n]∧-(2 ^ 62)≤m∧m<2 ^ 62∧-(2 ^ 62)≤n∧n<2 ^ 62∧Pv 0 ρ∧
 (∀ (i:Nat) ρ',i<(n - m).toNat→Pv i ρ'→tb { D with nx:=Pv (i+1),ct:=Pv (i+1),bk:=D.nx } (ρ'.set j (.some (.int (m+i)))))∧∀ ρ',Pv (n - m).toNat ρ'→D.nx ρ'
def ZP (c:DTT) (tb:DTS):DTS:=fun D ρ=>∃ Pv:Nat→DS→Prop,(∃ m,Pv m ρ)∧∀ m ρ',Pv m ρ'→
 c ρ' fun b=>if b=true then tb { D with nx:=fun ρ2=>∃ m',m'<m∧Pv m' ρ2,ct:=fun ρ2=>∃ m',m'<m∧Pv m' ρ2,bk:=D.nx } ρ' else D.nx ρ'
section
variable {X:Cx} {fr:Fr} {st:Stmt} {zW:List Stmt} {t u:DTS} {e:Expr} {te:DTE} {pos p0 p1 p2:Pos}
theorem zt:DSs X fr [] XF:=⟨_,pj,fun W0 G ρ σ W D D' a s h=>s.nx ρ σ W a h⟩
theorem zd (h1:DSt X fr st t) (h2:DSs X fr zW u):DSs X fr (st::zW) (dw t u):=by
 obtain ⟨ts,p1,l1⟩:=h1
 obtain ⟨us,p2,l2⟩:=h2
 exact ⟨_,zT p1 p2,fun W0 G ρ σ W D D' a s h=>l1 W0 G ρ σ W { D with nx:=u D } { D' with nx:=us D' } a ⟨fun ρ' σ' W' a' q=>l2 W0 G ρ' σ' W' D D' a' s q,s.tl,s.bk,s.ct⟩ h⟩
theorem zf (h:DSt X fr st t):DSs X fr [st] t:=let ⟨_,p,l⟩:=h; ⟨_,xQ p,l⟩
def WZ (i:Nat) (t:DTS):DTS:=fun D ρ=>∃ ds,ρ[i]? = some (.own ds)∧t D (ρ.set i (.some (.lst ds)))
theorem eQ (i:Nat) (h:DSs X fr zW t):DSs X fr zW (WZ i t):=by
 obtain ⟨ts,p,l⟩:=h
 refine ⟨ts,p,fun W0 G ρ σ W D D' a s h=>?_⟩
 obtain ⟨ds,e,q⟩:=h
 obtain ⟨b,xs,e1,e2,e3,e4,e5⟩:=a.rl.ow i ds e
 exact l W0 G _ σ (W.frz b _ e2) D D' (a.frz e e1 e2 e3 e4 e5) s q
theorem zm (h:DE X e te):DSt X .d (.Return (some e) pos) (XA te):=by
 obtain ⟨tt,p,l⟩:=h
 exact ⟨_,uq p,fun W0 G ρ σ W D D' a s h=>l ρ σ W _ a.rl h _ fun d v W1 s1 i1 q1=>s.tl d v W1 (a.le.trans s1) i1 q1⟩
theorem eV (h:DF X e te) (hf:fr=.d∨fr=.l:=by first | exact .inl rfl | exact .inr rfl):DSt X fr (.Return (some e) pos) (XA te):=by
 obtain ⟨tt,p,l⟩:=h
 exact ⟨_,uq p,fun W0 G ρ σ W D D' a s h=>l ρ σ W _ a.rl h _ fun es q xs W1 s1 h0 h1 h2 i1 q1=>s.rf hf es q xs W1 (a.le.trans s1) (a.le.h.free h0) h1 h2 i1 q1⟩
theorem pO (h:DE X e te) (hs:swapsWith e none pos.line X.env=pure false:=by rfl):DSt X fr (.Expr e pos) (XT te):=by
 obtain ⟨tt,p,l⟩:=h
 exact ⟨_,wz p hs,fun W0 G ρ σ W D D' a s h=>l ρ σ W _ a.rl h _ fun d v W1 s1 i1 q1=>s.nx ρ σ W1 (a.step s1) q1⟩
theorem zq {i:Nat} {x:Str} {pos':Pos} (hN:X.N.Nodup) (hi:X.N[i]? = some x) (hx:Loc X.env.scope x) (h:DE X e te) (hs:swapsWith e (some (.Name x pos')) pos.line X.env=pure false:=by rfl) (hf:X.fn x=true∨X.env.scope.names.lookup x=some .local:=by first | exact .inl rfl | exact .inr rfl | assumption):
  DSt X fr (.Assign [.Name x pos'] e pos) (du i te):=by
 obtain ⟨tt,p,l⟩:=h
 exact ⟨_,vf hN hi hx p hs hf,fun W0 G ρ σ W D D' a s h=>l ρ σ W _ a.rl h _ fun d v W1 s1 i1 q1=>s.nx _ _ W1 ((a.step s1).set i i1) q1⟩
theorem wS {i:Nat} {x:Str} {pos':Pos} (hN:X.N.Nodup) (hi:X.N[i]? = some x) (hx:Loc X.env.scope x) (h:DF X e te) (hs:swapsWith e (some (.Name x pos')) pos.line X.env=pure false:=by rfl) (hf:X.fn x=true∨X.env.scope.names.lookup x=some .local:=by first | exact .inl rfl | exact .inr rfl | assumption):
  DSt X fr (.Assign [.Name x pos'] e pos) (Xw i te):=by
 obtain ⟨tt,p,l⟩:=h
 refine ⟨_,vf hN hi hx p hs hf,fun W0 G ρ σ W D D' a s h=>l ρ σ W _ a.rl h _ fun es q xs W1 s1 h0 h1 h2 i1 ⟨ds,ed,q1⟩=>?_⟩
 cases ed
 exact s.nx _ _ W1 (a.own s1 i h0 h1 h2 i1) q1
theorem zK {c:Expr} {a b:List Stmt} {tc:DTT} (hc:DT X c tc) (ha:DSs X fr a t) (hb:DSs X fr b u):DSt X fr (.If c a b pos) (WX tc t u):=by
 obtain ⟨t0,p0,l0⟩:=hc
 obtain ⟨t1,p1,l1⟩:=ha
 obtain ⟨t2,p2,l2⟩:=hb
 refine ⟨_,dO p0 p1 p2,fun W0 G ρ σ W D D' a s h=>l0 ρ σ W _ a.rl h _ fun k W1 s1 q1=>?_⟩
 cases k with
 | true=>exact l1 W0 G ρ σ W1 D D' (a.step s1) s q1
 | false=>exact l2 W0 G ρ σ W1 D D' (a.step s1) s q1
theorem kH:DSt X fr st ZU:=⟨_,nB,fun _ _ _ _ _ _ _ _ _ h=>h.elim⟩
theorem qU {i j:Nat} {x y:Str} {px py pt:Pos} {kt:Nat} (hc:X.calm=true) (hN:X.N.Nodup) (hi:X.N[i]? = some x) (hj:X.N[j]? = some y) (hx:Loc X.env.scope x) (hy:Loc X.env.scope y) (h:DE X e te)
  (hf:X.fn x=true∨X.env.scope.names.lookup x=some .local:=by first | exact .inl rfl | exact .inr rfl | assumption) (hf2:X.fn y=true∨X.env.scope.names.lookup y=some .local:=by first | exact .inl rfl | exact .inr rfl | assumption)
  (hs:swapsWithSole [.Tuple [.Name x px,.Name y py] kt pt] e pos.line X.env=pure false:=by rfl) (hw:swappedStores [.Tuple [.Name x px,.Name y py] kt pt] e X.env=pure none:=by rfl):
  DSt X fr (.Assign [.Tuple [.Name x px,.Name y py] kt pt] e pos) (WN i j te):=by
 obtain ⟨tt,p,l⟩:=h
 refine ⟨_,cz p (nC hc (wA (yR hN hi hx hf) (wA (yR hN hj hy hf2) pr))) hs hw,fun W0 G ρ σ W D D' at_ s h=>l ρ σ W _ at_.rl h _ fun d v W1 s1 i1 ⟨a,b,ed,q1⟩=>?_⟩
 subst ed
 obtain ⟨q,xs,rfl,hq,ha⟩:=is_tup.mp i1
 obtain ⟨v1,v2,rfl,h1,h2⟩:=ha.two
 refine ⟨q,_,rfl,.of (W1.sub _ _ hq),rfl,v1,[v2],rfl,v2,[],rfl,rfl,?_⟩
 exact s.nx _ _ W1 (((at_.step s1).set i h1).set j h2) q1
def InL (K:PySem.W.Frag) (Z:Hp) (W0 W1:Vw) (Pv:DS→Prop) (σ:St) (H:Hp):Prop:=∃ (ρ:DS) (W:Vw),W.h=H∧At K Z W0 W1.g W ρ σ∧Pv ρ
theorem wv {K:PySem.W.Frag} {W0 W1:Vw} {G:Hp} {D:DEnds} {D':Ends} {Pv:DS→Prop} (s:Sim K Z fr W0 G D D') (hg:Same G W1.g):
  Sim K Z fr W0 W1.g { D with nx:=Pv,ct:=Pv,bk:=D.nx } { D' with nx:=InL K Z W0 W1 Pv,ct:=InL K Z W0 W1 Pv,bk:=D'.nx }:=
 ⟨fun ρ3 σ3 W3 a3 q3=>⟨ρ3,W3,rfl,a3,q3⟩,s.tl,fun ρ3 σ3 W3 a3 q3=>s.nx ρ3 σ3 W3 (a3.weak hg) q3,fun ρ3 σ3 W3 a3 q3=>⟨ρ3,W3,rfl,a3,q3⟩⟩
theorem At.now {K:PySem.W.Frag} {W0:Vw} {G:Hp} {W:Vw} {ρ:DS} {σ:St} (a:At K Z W0 G W ρ σ):At K Z W0 W.g W ρ σ:=⟨a.le,Same.refl _,a.rl⟩
theorem uP {j:Nat} {x:Str} {iter:Expr} {body:List Stmt} {tb:DTS} {px:Pos} (hc:X.calm=true) (hN:X.N.Nodup) (hi:X.N[j]? = some x) (hx:Loc X.env.scope x) (hp:PassesOwn (model X.prog X.w) X.A X.env X.xe)
  (h:DE X iter te) (hb:DSs X fr body tb) (hs:∀ x,foldedSetIterable iter X.env x=pure x:=by intro _; rfl)
  (hf:X.fn x=true∨X.env.scope.names.lookup x=some .local:=by first | exact .inl rfl | exact .inr rfl | assumption):DSt X fr (.For (.Name x px) iter body [] pos) (XQ j te tb):=by
 obtain ⟨tt,p,l⟩:=h
 obtain ⟨tbs,p2,l2⟩:=hb
 refine ⟨_,qv hp hc (pq p) (yR hN hi hx hf) p2 hs,fun W0 G ρ σ W D D' at_ s h=>l ρ σ W _ at_.rl h _ fun d v W1 s1 i1 ⟨ds,Pv,el,h0,ht,hd⟩=>?_⟩
 have hg:Same G W1.g:=at_.gs.trans s1.g
 have hq:∃ a xs,v=.ref a∧(∀ W2:Vw,Same W1.g W2.g→SqL X.K W2.h a xs)∧AllIs X.K W1.g ds xs:=by
  cases d with
  | lst es=>
   obtain rfl:es=ds:=Option.some.inj el
   obtain ⟨a,xs,rfl,h1,h2⟩:=is_lst.mp i1
   exact ⟨a,xs,rfl,fun W2 s2=>.of (W2.sub _ _ (s2 _ _ h1)),h2⟩
  | scr ns=>
   obtain rfl:ns.map Dt.int=ds:=Option.some.inj el
   obtain ⟨a,rfl,h1⟩:=is_scr.mp i1
   exact ⟨a,_,rfl,fun W2 s2=>W2.sub.seq (s2.seq h1),AllIs.ints⟩
  | _=>cases el
 obtain ⟨a,xs,rfl,hq,ha⟩:=hq
 refine ⟨a,rfl,⟨xs,hq W1 (Same.refl _)⟩,ko (K:=X.K) (a:=a) (xs:=xs) (fun i=>InL X.K (Zx X) W0 W1 (Pv i)) ⟨ρ,W1,rfl,(at_.step s1).now,h0⟩ (fun i σ' H' _ ⟨_,W2,e2,a2,_⟩=>e2 ▸ hq W2 a2.gs) ?_ ?_⟩
 ·rintro i x σ' _ hi ⟨ρ',W2,rfl,a2,hp2⟩
  obtain ⟨e,he,ie⟩:=ha.get' hi
  exact l2 W0 W1.g _ _ W2 { D with nx:=Pv (i+1),ct:=Pv (i+1),bk:=D.nx } _ (a2.set j (Is.mono0 a2.gs ie)) (wv s hg) (ht i e ρ' he hp2)
 ·rintro σ' _ ⟨ρ',W2,rfl,a2,hp2⟩
  exact s.nx ρ' σ' W2 (a2.weak hg) (hd ρ' (by rw [ha.length]; exact hp2))
theorem kF {c:Expr} {body:List Stmt} {tc:DTT} {tb:DTS} (hp:PassesOwn (model X.prog X.w) X.A X.env X.xe) (hc:DT X c tc) (hb:DSs X fr body tb):DSt X fr (.While c body [] pos) (ZP tc tb):=by
 obtain ⟨t0,p0,l0⟩:=hc
 obtain ⟨tbs,p2,l2⟩:=hb
 refine ⟨_,nw hp p0 p2,fun W0 G ρ σ W D D' at_ s h=>?_⟩
 obtain ⟨Pv,⟨m0,h0⟩,ht⟩:=h
 refine ⟨fun m=>InL X.K (Zx X) W0 W (Pv m),⟨m0,ρ,W,rfl,at_.now,h0⟩,?_⟩
 rintro m σ' _ ⟨ρ',W2,rfl,a2,hp2⟩
 refine l0 ρ' σ' W2 _ a2.rl (ht m ρ' hp2) _ fun b W3 s3 q3=>?_
 have a3:=a2.step s3
 cases b with
 | true=>
  refine ⟨InL X.K (Zx X) W0 W (fun ρ2=>∃ m',m'<m∧Pv m' ρ2),fun σ4 H4 ⟨ρ4,W4,e4,a4,m',hm,p4⟩=>⟨m',hm,ρ4,W4,e4,a4,p4⟩,?_⟩
  exact l2 W0 W.g _ _ W3 { D with nx:=fun ρ2=>∃ m',m'<m∧Pv m' ρ2,ct:=fun ρ2=>∃ m',m'<m∧Pv m' ρ2,bk:=D.nx } _ a3 (wv s at_.gs) q3
 | false=>exact s.nx ρ' σ' W3 (a3.weak at_.gs) q3
variable {i:Nat} {x:Str}
def Va (i:Nat) (te:DTE):DTS:=fun D ρ=>∃ ds,ρ[i]? = some (.own ds)∧te ρ fun d=>ds.length≤100000∧D.nx (ρ.set i (.own (ds++[d])))
theorem qV (i:Nat) (h:DE X e te) (hN:X.N[i]? = some x:=by rfl) (hv:Vis X.env.scope x:=by first | exact Or.inl rfl | exact Or.inr (Or.inl rfl) | exact Or.inr (Or.inr rfl)) (hd:(x == ("__debug__":Str))=false:=by decide)
  (hcd:(x == ("__classdict__":Str))=false:=by decide) (hst:starEach [e] X.env=(false,eval e X.env)::starEach [] X.env:=by rfl) (hpl:(backTo p2 (starEach [] X.env)).any (·.1)=false:=by rfl)
  (hfew:((backTo p2 (starEach [e] X.env)).all (fun x=>!x.1) && (backToKw p2 (keywordEach [] X.env)).all (fun x=>x.1.isSome)
   && decide ([e].length+([]:List Keyword).length+(if ([]:List Keyword).isEmpty then 0 else 1)<30))=true:=by rfl)
  (hbase:attributeBase (.Name x p0) "append" X.env (eval (.Name x p0) X.env)=eval (.Name x p0) X.env:=by rfl) (hline:(p1.endLine == p2.line)=true:=by rfl)
  (hs:swapsWith (.Call (.Attribute (.Name x p0) "append" p1) [e] [] p2) none pos.line X.env=pure false:=by rfl):
  DSt X fr (.Expr (.Call (.Attribute (.Name x p0) "append" p1) [e] [] p2) pos) (Va i te):=by
 obtain ⟨tt,p,l⟩:=h
 refine ⟨_,wz (pB PySem.F.plainAttrs_list PySem.F.slot_list_append PySem.F.type_list_append xR (zJ hN hv hd hcd) (zx p zP hst) hbase hfew hline hst hpl) hs,fun W0 G ρ σ W D D' at_ s h=>?_⟩
 obtain ⟨ds,ei,h⟩:=h
 obtain ⟨b,xs,e1,e2,e3,e4,e5⟩:=at_.rl.ow i ds ei
 refine ⟨.ref b,e1,.inl ⟨rfl,xs,.of e2⟩,l ρ σ W _ at_.rl h _ fun d v W1 s1 i1 ⟨hl,q1⟩=>?_⟩
 have a1:=at_.step s1
 have hg1:W1.g b=none:=s1.n b (by rw [e2]; intro z; cases z) e3
 refine ⟨b,xs,v,rfl,rfl,s1.h _ _ e2,by rw [← e5.length]; exact Nat.lt_of_le_of_lt hl (by decide),?_⟩
 exact s.nx _ _ _ (a1.put ei e1 hg1 e4 ((e5.mono s1).append (allIs_cons.mpr ⟨v,[],rfl,i1,allIs_nil.mpr rfl⟩))) q1
theorem AllIs.set {G:Hp}:∀ {ds:List Dt} {xs:List V} {d:Dt} {v:V} (j:Nat),AllIs K G ds xs→Is K G d v→AllIs K G (ds.set j d) (xs.set j v)
 | [],_,_,_,_,h,_=>by rw [allIs_nil.mp h]; exact allIs_nil.mpr rfl
 | d::ds,_,_,_,0,h,i=>by
  obtain ⟨x,r,rfl,h1,h2⟩:=allIs_cons.mp h
  exact allIs_cons.mpr ⟨_,_,rfl,i,h2⟩
 | d::ds,_,_,_,j+1,h,i=>by
  obtain ⟨x,r,rfl,h1,h2⟩:=allIs_cons.mp h
  exact allIs_cons.mpr ⟨_,_,rfl,h1,AllIs.set j h2 i⟩
end
section
variable {P:Program} {w:World} {K:PySem.W.Frag} {mg:Str→Option Value} {base:Heap}
theorem xM {W:Vw} {N:List Str} {ds:List Dt} {vs:List V} (ia:AllIs K W.g ds vs) (hz:Z=W.h):At K Z W W.g W (zZ N.length ds) (start N vs):=⟨Le.refl W,Same.refl _,Rl.start ia (hz ▸ Same.refl _)⟩
theorem okD {x qual:Str} {st:Stmt} {f:Addr} {fd:FuncData} {N ps:List Str} {k:Nat} {S:DSp} (F:Fun K x qual st f fd) (sc:zi N ps (defScope st)) (len:∀ ds Q,S ds Q→ds.length=ps.length)
  (hbody:∀ (cdv:Value) (A:Around) (outer:List Env) (s:Shared) (H:Hp) (E:XK),Room k (A.deeper (envOfC qual (defScope st) s.heap.objs.size f cdv))→∀ (ds:List Dt) (Q:Dt→Prop),S ds Q→
   ∃ t,DSs (yb CX0 P w K mg base N qual (defScope st) f cdv A outer s H E).nox .d (defBody st) t∧t { nx:=fun _=>Q .non,rt:=Q } (zZ N.length ds)):FnOk P w K mg base CX0 (k+1) f fd ps (zo K S):=by
 refine F.ok sc (fun vs H Q E h=>?_) (fun cdv A outer s H vs Q E hr h=>?_)
 ·obtain ⟨W,ds,Qd,_,ia,hS,_⟩:=h
  rw [← ia.length]
  exact len ds Qd hS
 obtain ⟨W,ds,Qd,rfl,ia,hS,kk⟩:=h
 obtain ⟨t,⟨ts,p,l⟩,ht⟩:=hbody cdv A outer s W.h E hr ds Qd hS
 refine ⟨ts,p,l W W.g (zZ N.length ds) (start N vs) W { nx:=fun _=>Qd .non,rt:=Qd } _ (xM ia (uh (Nat.succ_ne_self _))) ⟨fun ρ σ W' a q=>kk .non .non W' a.le (is_non.mpr rfl) q,fun d v W' s' i' q=>kk d v W' s' i' q,fun _ _ _ _ q=>q.elim,fun _ _ _ _ q=>q.elim⟩ ht⟩
theorem okF {x qual:Str} {st:Stmt} {f:Addr} {fd:FuncData} {N ps:List Str} {k:Nat} {S:DSp} (F:Fun K x qual st f fd) (sc:zi N ps (defScope st)) (len:∀ ds Q,S ds Q→ds.length=ps.length)
  (hbody:∀ (cdv:Value) (A:Around) (outer:List Env) (s:Shared) (H:Hp) (E:XK),Room k (A.deeper (envOfC qual (defScope st) s.heap.objs.size f cdv))→∀ (ds:List Dt) (Q:Dt→Prop),S ds Q→
   ∃ t,DSs (yb CX0 P w K mg base N qual (defScope st) f cdv A outer s H E).nox .l (defBody st) t∧t { nx:=fun _=>False,rt:=Q } (zZ N.length ds)):FnOk P w K mg base CX0 (k+1) f fd ps (xZ K S):=by
 refine F.ok sc (fun vs H Q E h=>?_) (fun cdv A outer s H vs Q E hr h=>?_)
 ·obtain ⟨W,ds,Qd,_,ia,hS,_⟩:=h
  rw [← ia.length]
  exact len ds Qd hS
 obtain ⟨W,ds,Qd,rfl,ia,hS,kk⟩:=h
 obtain ⟨t,⟨ts,p,l⟩,ht⟩:=hbody cdv A outer s W.h E hr ds Qd hS
 exact ⟨ts,p,l W W.g (zZ N.length ds) (start N vs) W { nx:=fun _=>False,rt:=Qd } _ (xM ia (uh (Nat.succ_ne_self _))) ⟨fun ρ σ W' a q=>q.elim,fun d v W' s' ⟨es,p,xs,e1,e2,e3,e4,e5,e6⟩ q=>by subst e1; subst e2; exact kk es p xs W' s' e3 e4 e5 e6 q,fun _ _ _ _ q=>q.elim,fun _ _ _ _ q=>q.elim⟩ ht⟩
theorem DOk.mk' {x qual:Str} {st:Stmt} {f:Addr} {fd:FuncData} {ps:List Str} {n:Nat} {S:DSp} (F:Fun K x qual st f fd) (hm:mg x=some (.ref f)) (hb:Binds K fd ps []) (h:FnOk P w K mg base CX0 n f fd ps (zo K S)):DOk P w K mg base n x S:=
 ⟨f,fd,ps,hm,F.kp,hb,h⟩
theorem FOk.mk' {x qual:Str} {st:Stmt} {f:Addr} {fd:FuncData} {ps:List Str} {n:Nat} {S:DSp} (F:Fun K x qual st f fd) (hm:mg x=some (.ref f)) (hb:Binds K fd ps []) (h:FnOk P w K mg base CX0 n f fd ps (xZ K S)):FOk P w K mg base n x S:=
 ⟨f,fd,ps,hm,F.kp,hb,h⟩
theorem DOk.mono {x:Str} {m n:Nat} {S:DSp} (h:DOk P w K mg base m x S) (hl:m≤n):DOk P w K mg base n x S:=
 let ⟨f,fd,ps,h1,h2,h3,h4⟩:=h.ex; ⟨f,fd,ps,h1,h2,h3,h4.mono hl⟩
theorem FOk.mono {x:Str} {m n:Nat} {S:DSp} (h:FOk P w K mg base m x S) (hl:m≤n):FOk P w K mg base n x S:=
 let ⟨f,fd,ps,h1,h2,h3,h4⟩:=h.ex; ⟨f,fd,ps,h1,h2,h3,h4.mono hl⟩
theorem MOk.mono {C:Addr} {x:Str} {m n:Nat} {S:DSp} (h:MOk P w K mg base m C x S) (hl:m≤n):MOk P w K mg base n C x S:=
 ⟨h.cl,let ⟨f,fd,ps,h1,h3,h4⟩:=h.ex; ⟨f,fd,ps,h1,h3,h4.mono hl⟩⟩
theorem FMOk.mono {C:Addr} {x:Str} {m n:Nat} {S:DSp} (h:FMOk P w K mg base m C x S) (hl:m≤n):FMOk P w K mg base n C x S:=
 ⟨h.cl,let ⟨f,fd,ps,h1,h3,h4⟩:=h.ex; ⟨f,fd,ps,h1,h3,h4.mono hl⟩⟩
theorem MOk.imp {C:Addr} {x:Str} {n:Nat} {S S':DSp} (h:MOk P w K mg base n C x S) (hi:∀ ds Q,S' ds Q→S ds Q):MOk P w K mg base n C x S':=
 ⟨h.cl,let ⟨f,fd,ps,h1,h3,h4⟩:=h.ex; ⟨f,fd,ps,h1,h3,h4.imp fun vs H Q E ⟨W,ds,Qd,a,b,c,d⟩=>⟨W,ds,Qd,a,b,hi _ _ c,d⟩⟩⟩
theorem FMOk.imp {C:Addr} {x:Str} {n:Nat} {S S':DSp} (h:FMOk P w K mg base n C x S) (hi:∀ ds Q,S' ds Q→S ds Q):FMOk P w K mg base n C x S':=
 ⟨h.cl,let ⟨f,fd,ps,h1,h3,h4⟩:=h.ex; ⟨f,fd,ps,h1,h3,h4.imp fun vs H Q E ⟨W,ds,Qd,a,b,c,d⟩=>⟨W,ds,Qd,a,b,hi _ _ c,d⟩⟩⟩
theorem DOk.imp {x:Str} {n:Nat} {S S':DSp} (h:DOk P w K mg base n x S) (hi:∀ ds Q,S' ds Q→S ds Q):DOk P w K mg base n x S':=
 let ⟨f,fd,ps,h1,h2,h3,h4⟩:=h.ex; ⟨f,fd,ps,h1,h2,h3,h4.imp fun vs H Q E ⟨W,ds,Qd,a,b,c,d⟩=>⟨W,ds,Qd,a,b,hi _ _ c,d⟩⟩
theorem v6 {qual:Str} {st:Stmt} {g C:Addr} {fd:FuncData} {y f:Str} {k:Nat} {ok:Int→Prop} (F:Fun K "__init__" qual st g fd) (sc:zi ["self",y] ["self",y] (defScope st)) (cl:Cls K C) (na:NoAttr K C f)
  (hbody:∀ (cdv:Value) (A:Around) (outer:List Env) (s:Shared) (H:Hp) (E:XK),Room k (A.deeper (envOfC qual (defScope st) s.heap.objs.size g cdv))→
   ∃ te t,PSs (yb CX0 P w K mg base ["self",y] qual (defScope st) g cdv A outer s H E).nox (defBody st) (Yo K (jw 0) te f)∧LiE K (Zx (yb CX0 P w K mg base ["self",y] qual (defScope st) g cdv A outer s H E)) te t∧∀ i,ok i→t [.none,.some (.int i)] fun d=>d=.int i):
  FnOk P w K mg base CX0 (k+1) g fd ["self",y] (xP C f ok):=by
 refine F.ok sc (fun vs H Q E h=>?_) (fun cdv A outer s H vs Q E hr h=>?_)
 ·obtain ⟨p,dx,i,rfl,_⟩:=h
  rfl
 obtain ⟨p,dx,i,rfl,hp,hok,q⟩:=h
 obtain ⟨te,t,ps,l,ht⟩:=hbody cdv A outer s H E hr
 rw [qg] at l
 refine ⟨_,ps,l (F:=H) [.none,.some (.int i)] _ ⟨H,H,Same.refl H⟩ _ ⟨rfl,fun j d e=>?_,fun j ds e=>?_,fun j j' ds es _ e _=>?_,Same.refl H,Same.refl H,fun j a ds e=>?_,fun j φ e=>?_⟩ (ht i hok) _ fun d v W1 s1 i1 ed=>?_⟩
 ·match j,e with
  | 0,e=>cases e
  | 1,e=>
   have e':Dt.int i=d:=by cases e; rfl
   subst e'
   exact ⟨.int i,rfl,is_int.mpr rfl⟩
  | j+2,e=>cases e
 ·match j,e with
  | 0,e=>cases e
  | 1,e=>cases e
  | j+2,e=>cases e
 ·match j,e with
  | 0,e=>cases e
  | 1,e=>cases e
  | j+2,e=>cases e
 ·match j,e with
  | 0,e=>cases e
  | 1,e=>cases e
  | j+2,e=>cases e
 ·match j,e with
  | 0,e=>cases e
  | 1,e=>cases e
  | j+2,e=>cases e
 ·subst ed
  obtain rfl:=is_int.mp i1
  refine ⟨.ref p,rfl,p,C,dx,[],rfl,s1.h _ _ hp,cl,na,(by show 0<1000; decide),?_⟩
  refine q _ zh fun b o hb hbp=>?_
  rw [zl hbp]
  exact s1.h _ _ hb
end
end OD
namespace OD
open PySem PySem.Spec PyProof.Rows L2
mutual
def eqD:Dt→Dt→Bool
 | .non,.non=>true
 | .bl a,.bl b=>a == b
 | .bl a,.int b=>(if a then (1:Int) else 0) == b
 | .int a,.bl b=>a == (if b then (1:Int) else 0)
 | .int a,.int b=>a == b
 | .str a,.str b=>a == b
 | .tup ds,.tup es=>eqDs ds es
 | .lst ds,.lst es=>eqDs ds es
 | _,_=>false
def eqDs:List Dt→List Dt→Bool
 | [],[]=>true
 | d::ds,e::es=>eqD d e && eqDs ds es
 | _,_=>false
end
def okE:Nat→Dt→Bool
 | _,.non=>true
 | _,.bl _=>true
 | _,.int _=>true
 | _,.str _=>true
 | n+1,.tup ds=>ds.all (okE n)
 | n+1,.lst ds=>ds.all (okE n)
 | _,_=>false
theorem sQ (a b:Int):eqD (.int a) (.int b)=(a == b):=by unfold eqD; rfl
theorem kx (a b:Bool):eqD (.bl a) (.bl b)=(a == b):=by unfold eqD; rfl
theorem pM (a b:Str):eqD (.str a) (.str b)=(a == b):=by unfold eqD; rfl
theorem ua (ds es:List Dt):eqD (.tup ds) (.tup es)=eqDs ds es:=by rw [eqD]
theorem ub (ds es:List Dt):eqD (.lst ds) (.lst es)=eqDs ds es:=by rw [eqD]
theorem uN:eqDs [] []=true:=by unfold eqDs; rfl
theorem vy (d e:Dt) (ds es:List Dt):eqDs (d::ds) (e::es)=(eqD d e && eqDs ds es):=by rw [eqDs]
theorem tL (e:Dt) (es:List Dt):eqDs [] (e::es)=false:=by unfold eqDs; rfl
theorem tM (e:Dt) (es:List Dt):eqDs (e::es) []=false:=by unfold eqDs; rfl
theorem yL:∀ ds es:List Dt,(((List.range (min ds.length es.length)).all fun j=>eqD (ds.getD j .non) (es.getD j .non)) && (ds.length == es.length))=eqDs ds es
 | [],[]=>by rw [uN]; rfl
 | [],e::es=>by
  rw [tL]
  have h:((([]:List Dt).length == (e::es).length))=false:=by simp
  rw [h,Bool.and_false]
 | d::ds,[]=>by
  rw [tM]
  have h:(((d::ds).length == ([]:List Dt).length))=false:=by simp
  rw [h,Bool.and_false]
 | d::ds,e::es=>by
  have ih:=yL ds es
  rw [vy,← ih]
  have hm:min (d::ds).length (e::es).length=min ds.length es.length+1:=by
   rw [List.length_cons,List.length_cons]; omega
  rw [hm,List.range_succ_eq_map,List.all_cons,List.all_map,Bool.and_assoc]
  have hl:((d::ds).length == (e::es).length)=(ds.length == es.length):=by
   rw [List.length_cons,List.length_cons]
   rw [Bool.eq_iff_iff,beq_iff_eq,beq_iff_eq]
   omega
  rw [hl]
  rfl
theorem tY {ds es:List Dt} (h:ds.length≠es.length):eqDs ds es=false:=by
 rw [← yL ds es]
 have h:(ds.length == es.length)=false:=beq_eq_false_iff_ne.mpr h
 rw [h,Bool.and_false]
theorem rO {ds es:List Dt} (h:ds.length=es.length):((List.range ds.length).all fun j=>eqD (ds.getD j .non) (es.getD j .non))=eqDs ds es:=by
 rw [← yL ds es]
 have h':(ds.length == es.length)=true:=beq_iff_eq.mpr h
 rw [h',Bool.and_true,← h,Nat.min_self]
theorem vx:∀ {ds:List Dt},(∀ d∈ds,eqD d d=true)→eqDs ds ds=true
 | [],_=>uN
 | d::ds,h=>by
  rw [vy,h d List.mem_cons_self,vx fun e he=>h e (List.mem_cons_of_mem _ he)]
  rfl
theorem xa:∀ (n:Nat) {d:Dt},okE n d=true→eqD d d=true:=by
 intro n
 induction n with
 | zero=>
  intro d h
  cases d with
  | non=>unfold eqD; rfl
  | bl b=>rw [kx]; exact beq_self_eq_true _
  | int b=>rw [sQ]; exact beq_self_eq_true _
  | str b=>rw [pM]; exact beq_self_eq_true _
  | _=>simp [okE] at h
 | succ n ih=>
  intro d h
  cases d with
  | non=>unfold eqD; rfl
  | bl b=>rw [kx]; exact beq_self_eq_true _
  | int b=>rw [sQ]; exact beq_self_eq_true _
  | str b=>rw [pM]; exact beq_self_eq_true _
  | tup ds=>
   rw [ua]
   have h':∀ d∈ds,okE n d=true:=by simpa [okE] using h
   exact vx fun d hd=>ih (h' d hd)
  | lst ds=>
   rw [ub]
   have h':∀ d∈ds,okE n d=true:=by simpa [okE] using h
   exact vx fun d hd=>ih (h' d hd)
  | _=>simp [okE] at h
example:eqD (.int ((2:Nat):Int)) (.int 2)=true:=by rfl
section
variable {X:Cx} {pins:List (Addr × Obj)} {σ:St} {K:PySem.W.Frag} {H:Hp} {s:Shared}
theorem qT:∀ {ds es:List Dt} {xs:List V},(∀ d e v,d∈ds→e∈es→Is K H d v→Is K H e v→eqD d e=true)→AllIs K H ds xs→AllIs K H es xs→eqDs ds es=true
 | [],es,xs,ih,i1,i2=>by
  obtain rfl:=allIs_nil.mp i1
  cases es with
  | nil=>exact uN
  | cons e es=>obtain ⟨_,_,z,_⟩:=allIs_cons.mp i2; cases z
 | d::ds,es,xs,ih,i1,i2=>by
  obtain ⟨x,r,rfl,j1,j2⟩:=allIs_cons.mp i1
  cases es with
  | nil=>cases allIs_nil.mp i2
  | cons e es=>
   obtain ⟨y,r',z,k1,k2⟩:=allIs_cons.mp i2
   cases z
   rw [vy,ih d e x List.mem_cons_self List.mem_cons_self j1 k1,qT (fun d' e' v' hd he=>ih d' e' v' (List.mem_cons_of_mem _ hd) (List.mem_cons_of_mem _ he)) j2 k2]
   rfl
def xG:Dt→Bool
 | .non=>true
 | .bl _=>true
 | .int _=>true
 | .str _=>true
 | _=>false
def vD:Dt→V
 | .bl b=>.bl b
 | .int i=>.int i
 | .str x=>.str x
 | _=>.non
theorem zL {d:Dt} {v:V} (h:xG d=true) (i:Is K H d v):v=vD d:=by
 cases d <;> first | exact is_non.mp i | exact is_bl.mp i | exact is_int.mp i | exact is_str.mp i | cases h
theorem vw {d:Dt} (h:xG d=true):pK (vD d)=true:=by cases d <;> first | rfl | cases h
theorem wQ {d:Dt} {a:Addr} (h:xG d=true) (e:vD d=.ref a):False:=by cases d <;> first | cases e | cases h
theorem rN {v:V} (h:pK v=true):eqV v v=true:=by cases v <;> first | rfl | exact beq_self_eq_true _ | cases h
theorem wR {d e:Dt} (h1:xG d=true) (h2:xG e=true):eqD d e=eqV (vD d) (vD e):=by cases d <;> first | exact absurd h1 Bool.false_ne_true | (cases e <;> first | exact absurd h2 Bool.false_ne_true | rfl)
theorem xH {d:Dt} {es:List Dt} (h:xG d=true):eqD d (.tup es)=false∧eqD (.tup es) d=false∧eqD d (.lst es)=false∧eqD (.lst es) d=false:=by
 cases d <;> first | exact ⟨rfl,rfl,rfl,rfl⟩ | cases h
theorem yA {n:Nat} {d:Dt} (h:okE n d=true):xG d=true∨∃ m ds,n=m+1∧(d=.tup ds∨d=.lst ds)∧∀ d∈ds,okE m d=true:=by
 cases d with
 | non=>exact .inl rfl
 | bl b=>exact .inl rfl
 | int b=>exact .inl rfl
 | str b=>exact .inl rfl
 | tup ds=>
  cases n with
  | zero=>simp [okE] at h
  | succ m=>exact .inr ⟨m,ds,rfl,.inl rfl,by simpa [okE] using h⟩
 | lst ds=>
  cases n with
  | zero=>simp [okE] at h
  | succ m=>exact .inr ⟨m,ds,rfl,.inr rfl,by simpa [okE] using h⟩
 | _=>cases n <;> simp [okE] at h
theorem pL:∀ (n:Nat) {d e:Dt} {v:V},okE n d=true→okE n e=true→Is K H d v→Is K H e v→eqD d e=true:=by
 intro n
 induction n with
 | zero=>
  intro d e v h1 h2 i1 i2
  rcases yA h1 with f1 | ⟨m,ds,z,_⟩
  ·rcases yA h2 with f2 | ⟨m,ds,z,_⟩
   ·rw [wR f1 f2,← zL f1 i1,← zL f2 i2]
    exact rN (by rw [zL f1 i1]; exact vw f1)
   ·cases z
  ·cases z
 | succ n ih=>
  intro d e v h1 h2 i1 i2
  rcases yA h1 with f1 | ⟨m,ds,z,hk,hd⟩
  ·rcases yA h2 with f2 | ⟨m,es,z,hk,he⟩
   ·rw [wR f1 f2,← zL f1 i1,← zL f2 i2]
    exact rN (by rw [zL f1 i1]; exact vw f1)
   ·obtain rfl:=zL f1 i1
    rcases hk with rfl | rfl
    ·obtain ⟨_,_,e,_⟩:=is_tup.mp i2; exact (wQ f1 e).elim
    ·obtain ⟨_,_,e,_⟩:=is_lst.mp i2; exact (wQ f1 e).elim
  ·cases z
   rcases yA h2 with f2 | ⟨m,es,z,hk2,he⟩
   ·obtain rfl:=zL f2 i2
    rcases hk with rfl | rfl
    ·obtain ⟨_,_,e,_⟩:=is_tup.mp i1; exact (wQ f2 e).elim
    ·obtain ⟨_,_,e,_⟩:=is_lst.mp i1; exact (wQ f2 e).elim
   ·cases z
    rcases hk with rfl | rfl
    ·obtain ⟨a,xs,rfl,hx,ha⟩:=is_tup.mp i1
     rcases hk2 with rfl | rfl
     ·obtain ⟨b,ys,eb,hy,hb⟩:=is_tup.mp i2
      cases eb
      rw [hx] at hy
      cases hy
      rw [ua]
      exact qT (fun d e v q1 q2=>ih (hd d q1) (he e q2)) ha hb
     ·obtain ⟨b,ys,eb,hy,hb⟩:=is_lst.mp i2
      cases eb
      rw [hx] at hy
      cases hy
    ·obtain ⟨a,xs,rfl,hx,ha⟩:=is_lst.mp i1
     rcases hk2 with rfl | rfl
     ·obtain ⟨b,ys,eb,hy,hb⟩:=is_tup.mp i2
      cases eb
      rw [hx] at hy
      cases hy
     ·obtain ⟨b,ys,eb,hy,hb⟩:=is_lst.mp i2
      cases eb
      rw [hx] at hy
      cases hy
      rw [ub]
      exact qT (fun d e v q1 q2=>ih (hd d q1) (he e q2)) ha hb
section
variable {A:Around}
open SeqAt
theorem xU {d:Dt} {v:Value} {b:Addr} {its:Array Value} (f:xG d=true) (q:RelV (vD d) v) (t:s.heap.IsTuple b its) (hA:A.units<cLine):
  (EqAt A s v (.ref b) false∧EqAt A s (.ref b) v false)∧(RcAt A s v (.ref b) false∧RcNeAt A s v (.ref b) true)∧RcAt A s (.ref b) v false∧RcNeAt A s (.ref b) v true:=by
 cases d with
 | non=>cases q; exact ⟨⟨.none_tuple t hA,.tuple_none t hA⟩,⟨.none_tuple t hA,.none_tuple t hA⟩,.tuple_none t hA,.tuple_none t hA⟩
 | bl a=>cases q; exact ⟨⟨.bool_tuple a t hA,.tuple_bool a t hA⟩,⟨.bool_tuple a t hA,.bool_tuple a t hA⟩,.tuple_bool a t hA,.tuple_bool a t hA⟩
 | int a=>obtain ⟨u,rfl⟩:=q; exact ⟨⟨.int_tuple a u t hA,.tuple_int a u t hA⟩,⟨.int_tuple a u t hA,.int_tuple a u t hA⟩,.tuple_int a u t hA,.tuple_int a u t hA⟩
 | str a=>obtain ⟨u,rfl⟩:=q; exact ⟨⟨.str_tuple a u t hA,.tuple_str a u t hA⟩,⟨.str_tuple a u t hA,.str_tuple a u t hA⟩,.tuple_str a u t hA,.tuple_str a u t hA⟩
 | _=>cases f
theorem xV {d:Dt} {v:Value} {b:Addr} {its:Array Value} (f:xG d=true) (q:RelV (vD d) v) (t:s.heap.IsList b its) (hA:A.units<cLine):
  (EqAt A s v (.ref b) false∧EqAt A s (.ref b) v false)∧(RcAt A s v (.ref b) false∧RcNeAt A s v (.ref b) true)∧RcAt A s (.ref b) v false∧RcNeAt A s (.ref b) v true:=by
 cases d with
 | non=>cases q; exact ⟨⟨.none_list t hA,.list_none t hA⟩,⟨.none_list t hA,.none_list t hA⟩,.list_none t hA,.list_none t hA⟩
 | bl a=>cases q; exact ⟨⟨.bool_list a t hA,.list_bool a t hA⟩,⟨.bool_list a t hA,.bool_list a t hA⟩,.list_bool a t hA,.list_bool a t hA⟩
 | int a=>obtain ⟨u,rfl⟩:=q; exact ⟨⟨.int_list a u t hA,.list_int a u t hA⟩,⟨.int_list a u t hA,.int_list a u t hA⟩,.list_int a u t hA,.list_int a u t hA⟩
 | str a=>obtain ⟨u,rfl⟩:=q; exact ⟨⟨.str_list a u t hA,.list_str a u t hA⟩,⟨.str_list a u t hA,.str_list a u t hA⟩,.list_str a u t hA,.list_str a u t hA⟩
 | _=>cases f
theorem eJ {d e:Dt} {v u:Value} (f1:xG d=true) (f2:xG e=true) (q1:RelV (vD d) v) (q2:RelV (vD e) u):RcAt A s v u (eqD d e)∧RcNeAt A s v u (!eqD d e):=by
 cases d with
 | non=>
  cases q1
  cases e with
  | non=>cases q2; exact ⟨.none_none,.none_none⟩
  | bl b=>cases q2; exact ⟨.none_bool b,.none_bool b⟩
  | int b=>obtain ⟨t,rfl⟩:=q2; exact ⟨.none_int b t,.none_int b t⟩
  | str b=>obtain ⟨t,rfl⟩:=q2; exact ⟨.none_str b t,.none_str b t⟩
  | _=>cases f2
 | bl a=>
  cases q1
  cases e with
  | non=>cases q2; exact ⟨.bool_none a,.bool_none a⟩
  | bl b=>cases q2; exact ⟨.bool_bool a b,.bool_bool a b⟩
  | int b=>obtain ⟨t,rfl⟩:=q2; exact ⟨.bool_int a b t,.bool_int a b t⟩
  | str b=>obtain ⟨t,rfl⟩:=q2; exact ⟨.bool_str a b t,.bool_str a b t⟩
  | _=>cases f2
 | int a=>
  obtain ⟨ta,rfl⟩:=q1
  cases e with
  | non=>cases q2; exact ⟨.int_none a ta,.int_none a ta⟩
  | bl b=>cases q2; exact ⟨.int_bool a ta b,.int_bool a ta b⟩
  | int b=>obtain ⟨t,rfl⟩:=q2; exact ⟨.int_int a ta b t,.int_int a ta b t⟩
  | str b=>obtain ⟨t,rfl⟩:=q2; exact ⟨.int_str a ta b t,.int_str a ta b t⟩
  | _=>cases f2
 | str a=>
  obtain ⟨ta,rfl⟩:=q1
  cases e with
  | non=>cases q2; exact ⟨.str_none a ta,.str_none a ta⟩
  | bl b=>cases q2; exact ⟨.str_bool a ta b,.str_bool a ta b⟩
  | int b=>obtain ⟨t,rfl⟩:=q2; exact ⟨.str_int a ta b t,.str_int a ta b t⟩
  | str b=>obtain ⟨t,rfl⟩:=q2; exact ⟨.str_str a ta b t,.str_str a ta b t⟩
  | _=>cases f2
 | _=>cases f1
end
theorem wO {n:Nat} {A:Around} {ds es:List Dt} {xs ys:List V} {its its2:List Value}
  (ih:∀ {d e:Dt} {x y:V} {v u:Value},okE n d=true→okE n e=true→Is K H d x→Is K H e y→RelV x v→RelV y u→SeqAt.EqAt A s v u (eqD d e))
  (hd:∀ d∈ds,okE n d=true) (he:∀ d∈es,okE n d=true) (a1:AllIs K H ds xs) (a2:AllIs K H es ys) (r1:Vals xs its) (r2:Vals ys its2):
  ∀ j (h1:j<its.toArray.size) (h2:j<its2.toArray.size),SeqAt.EqAt A s its.toArray[j] its2.toArray[j] (eqD (ds.getD j .non) (es.getD j .non)):=by
 intro j h1 h2
 have l1:=a1.length.trans r1.length
 have l2:=a2.length.trans r2.length
 rw [List.size_toArray] at h1 h2
 have g1:ds[j]? = some ds[j]:=List.getElem?_eq_getElem (by omega)
 have g2:es[j]? = some es[j]:=List.getElem?_eq_getElem (by omega)
 obtain ⟨x,e1,i1⟩:=a1.get g1
 obtain ⟨y,e2,i2⟩:=a2.get g2
 obtain ⟨v,e3,q1⟩:=r1.get e1
 obtain ⟨u,e4,q2⟩:=r2.get e2
 have f1:ds.getD j .non=ds[j]:=by rw [List.getD_eq_getElem?_getD,g1]; rfl
 have f2:es.getD j .non=es[j]:=by rw [List.getD_eq_getElem?_getD,g2]; rfl
 have f3:its.toArray[j]=v:=by
  have z:its[j]? = some its[j]:=List.getElem?_eq_getElem h1
  rw [z] at e3
  simpa using Option.some.inj e3
 have f4:its2.toArray[j]=u:=by
  have z:its2[j]? = some its2[j]:=List.getElem?_eq_getElem h2
  rw [z] at e4
  simpa using Option.some.inj e4
 rw [f1,f2,f3,f4]
 exact ih (hd _ (List.mem_of_getElem? g1)) (he _ (List.mem_of_getElem? g2)) i1 i2 q1 q2
theorem Xp (I:Inv X pins σ H s):∀ (n:Nat) {A:Around} {d e:Dt} {x y:V} {v u:Value},A.units+n<cLine→okE n d=true→okE n e=true→Is X.K H d x→Is X.K H e y→RelV x v→RelV y u→SeqAt.EqAt A s v u (eqD d e):=by
 intro n
 induction n with
 | zero=>
  intro A d e x y v u hu h1 h2 i1 i2 q1 q2
  rcases yA h1 with f1 | ⟨m,ds,z,_⟩
  ·rcases yA h2 with f2 | ⟨m,ds,z,_⟩
   ·rw [wR f1 f2]
    rw [zL f1 i1] at q1
    rw [zL f2 i2] at q2
    exact ky q1 q2 (vw f1) (vw f2)
   ·cases z
  ·cases z
 | succ n ih=>
  intro A d e x y v u hu h1 h2 i1 i2 q1 q2
  have hA:A.units<cLine:=by omega
  have hu':A.in1.units+n<cLine:=by show A.units+1+n<cLine; omega
  rcases yA h1 with f1 | ⟨m,ds,z,hk,hd⟩
  ·rw [zL f1 i1] at q1
   rcases yA h2 with f2 | ⟨m,es,z,rfl | rfl,he⟩
   ·rw [wR f1 f2]
    rw [zL f2 i2] at q2
    exact ky q1 q2 (vw f1) (vw f2)
   ·obtain ⟨b,ys,rfl,hy,hb⟩:=is_tup.mp i2
    obtain ⟨its2,r2,t2,_⟩:=I.tuple (.of hy)
    cases q2
    rw [(xH f1).1]
    exact (xU f1 q1 t2 hA).1.1
   ·obtain ⟨b,ys,rfl,hy,hb⟩:=is_lst.mp i2
    obtain ⟨its2,r2,t2,_⟩:=I.list (.of hy)
    cases q2
    rw [(xH f1).2.2.1]
    exact (xV f1 q1 t2.isList hA).1.1
  ·cases z
   rcases hk with rfl | rfl
   ·obtain ⟨a,xs,rfl,hx,ha⟩:=is_tup.mp i1
    obtain ⟨its,r1,t1,_⟩:=I.tuple (.of hx)
    cases q1
    rcases yA h2 with f2 | ⟨m,es,z,rfl | rfl,he⟩
    ·rw [zL f2 i2] at q2
     rw [(xH f2).2.1]
     exact (xU f2 q2 t1 hA).1.2
    ·cases z
     have i2':=i2
     obtain ⟨b,ys,rfl,hy,hb⟩:=is_tup.mp i2
     obtain ⟨its2,r2,t2,_⟩:=I.tuple (.of hy)
     cases q2
     by_cases hab:a=b
     ·subst hab
      rw [pL _ h1 h2 i1 i2']
      exact SeqAt.EqAt.same _
     ·have q:=SeqAt.RcAt.tuples t1 t2 hA (wO (fun {d e x y v u}=>ih (A:=A.in1) hu') hd he ha hb r1 r2)
      rw [List.size_toArray,List.size_toArray,← r1.length,← r2.length,← ha.length,← hb.length,yL] at q
      rw [ua]
      exact .of_refs hab q
    ·obtain ⟨b,ys,rfl,hy,hb⟩:=is_lst.mp i2
     obtain ⟨its2,r2,t2,_⟩:=I.list (.of hy)
     cases q2
     exact SeqAt.EqAt.tuple_list t1 t2.isList hA
   ·obtain ⟨a,xs,rfl,hx,ha⟩:=is_lst.mp i1
    obtain ⟨its,r1,t1,_⟩:=I.list (.of hx)
    cases q1
    rcases yA h2 with f2 | ⟨m,es,z,rfl | rfl,he⟩
    ·rw [zL f2 i2] at q2
     rw [(xH f2).2.2.2]
     exact (xV f2 q2 t1.isList hA).1.2
    ·obtain ⟨b,ys,rfl,hy,hb⟩:=is_tup.mp i2
     obtain ⟨its2,r2,t2,_⟩:=I.tuple (.of hy)
     cases q2
     exact SeqAt.EqAt.list_tuple t1.isList t2 hA
    ·cases z
     have i2':=i2
     obtain ⟨b,ys,rfl,hy,hb⟩:=is_lst.mp i2
     obtain ⟨its2,r2,t2,_⟩:=I.list (.of hy)
     cases q2
     by_cases hab:a=b
     ·subst hab
      rw [pL _ h1 h2 i1 i2']
      exact SeqAt.EqAt.same _
     ·rw [ub]
      have l1:=ha.length.trans r1.length
      have l2:=hb.length.trans r2.length
      by_cases hl:ds.length=es.length
      ·have q:=SeqAt.RcAt.lists t1.isList t2.isList (by rw [List.size_toArray,List.size_toArray]; omega) hA (wO (fun {d e x y v u}=>ih (A:=A.in1) hu') hd he ha hb r1 r2)
       rw [List.size_toArray,← l1,rO hl] at q
       exact .of_refs hab q
      ·have q:=SeqAt.RcAt.lists_lengths t1.isList t2.isList (by rw [List.size_toArray,List.size_toArray,bne_iff_ne]; omega) hA
       rw [tY hl]
       exact .of_refs hab q
theorem dN (I:Inv X pins σ H s) {n:Nat} {A:Around} {d e:Dt} {x y:V} {v u:Value} (hu:A.units+(n+1)<cLine) (h1:okE (n+1) d=true) (h2:okE (n+1) e=true) (i1:Is X.K H d x) (i2:Is X.K H e y) (q1:RelV x v) (q2:RelV y u):
  SeqAt.RcAt A s v u (eqD d e)∧SeqAt.RcNeAt A s v u (!eqD d e):=by
 have hA:A.units<cLine:=by omega
 have hu':A.in1.units+n<cLine:=by show A.units+1+n<cLine; omega
 have ih:=fun {d e:Dt} {x y:V} {v u:Value}=>Xp I n (A:=A.in1) (d:=d) (e:=e) (x:=x) (y:=y) (v:=v) (u:=u) hu'
 rcases yA h1 with f1 | ⟨m,ds,z,hk,hd⟩
 ·rw [zL f1 i1] at q1
  rcases yA h2 with f2 | ⟨m,es,z,rfl | rfl,he⟩
  ·rw [zL f2 i2] at q2
   exact eJ f1 f2 q1 q2
  ·obtain ⟨b,ys,rfl,hy,hb⟩:=is_tup.mp i2
   obtain ⟨its2,r2,t2,_⟩:=I.tuple (.of hy)
   cases q2
   rw [(xH f1).1]
   exact (xU f1 q1 t2 hA).2.1
  ·obtain ⟨b,ys,rfl,hy,hb⟩:=is_lst.mp i2
   obtain ⟨its2,r2,t2,_⟩:=I.list (.of hy)
   cases q2
   rw [(xH f1).2.2.1]
   exact (xV f1 q1 t2.isList hA).2.1
 ·cases z
  rcases hk with rfl | rfl
  ·obtain ⟨a,xs,rfl,hx,ha⟩:=is_tup.mp i1
   obtain ⟨its,r1,t1,_⟩:=I.tuple (.of hx)
   cases q1
   rcases yA h2 with f2 | ⟨m,es,z,rfl | rfl,he⟩
   ·rw [zL f2 i2] at q2
    rw [(xH f2).2.1]
    exact (xU f2 q2 t1 hA).2.2
   ·cases z
    obtain ⟨b,ys,rfl,hy,hb⟩:=is_tup.mp i2
    obtain ⟨its2,r2,t2,_⟩:=I.tuple (.of hy)
    cases q2
    have it:=wO (A:=A.in1) ih hd he ha hb r1 r2
    have q:=SeqAt.RcAt.tuples t1 t2 hA it
    have q':=SeqAt.RcNeAt.tuples t1 t2 hA it
    rw [List.size_toArray,List.size_toArray,← r1.length,← r2.length,← ha.length,← hb.length,yL] at q q'
    rw [ua]
    exact ⟨q,q'⟩
   ·obtain ⟨b,ys,rfl,hy,hb⟩:=is_lst.mp i2
    obtain ⟨its2,r2,t2,_⟩:=I.list (.of hy)
    cases q2
    exact ⟨SeqAt.RcAt.tuple_list t1 t2.isList hA,SeqAt.RcNeAt.tuple_list t1 t2.isList hA⟩
  ·obtain ⟨a,xs,rfl,hx,ha⟩:=is_lst.mp i1
   obtain ⟨its,r1,t1,_⟩:=I.list (.of hx)
   cases q1
   rcases yA h2 with f2 | ⟨m,es,z,rfl | rfl,he⟩
   ·rw [zL f2 i2] at q2
    rw [(xH f2).2.2.2]
    exact (xV f2 q2 t1.isList hA).2.2
   ·obtain ⟨b,ys,rfl,hy,hb⟩:=is_tup.mp i2
    obtain ⟨its2,r2,t2,_⟩:=I.tuple (.of hy)
    cases q2
    exact ⟨SeqAt.RcAt.list_tuple t1.isList t2 hA,SeqAt.RcNeAt.list_tuple t1.isList t2 hA⟩
   ·cases z
    obtain ⟨b,ys,rfl,hy,hb⟩:=is_lst.mp i2
    obtain ⟨its2,r2,t2,_⟩:=I.list (.of hy)
    cases q2
    rw [ub]
    have l1:=ha.length.trans r1.length
    have l2:=hb.length.trans r2.length
    by_cases hl:ds.length=es.length
    ·have it:=wO (A:=A.in1) ih hd he ha hb r1 r2
     have q:=SeqAt.RcAt.lists t1.isList t2.isList (by rw [List.size_toArray,List.size_toArray]; omega) hA it
     have q':=SeqAt.RcNeAt.lists t1.isList t2.isList (by rw [List.size_toArray,List.size_toArray]; omega) hA it
     rw [List.size_toArray,← l1,rO hl] at q q'
     exact ⟨q,q'⟩
    ·have q:=SeqAt.RcAt.lists_lengths t1.isList t2.isList (by rw [List.size_toArray,List.size_toArray,bne_iff_ne]; omega) hA
     have q':=SeqAt.RcNeAt.lists_lengths t1.isList t2.isList (by rw [List.size_toArray,List.size_toArray,bne_iff_ne]; omega) hA
     rw [tY hl]
     exact ⟨q,q'⟩
def gEq:Dt→Dt→(Dt→Prop)→Prop:=fun d e Q=>okE 40 d=true∧okE 40 e=true∧Q (.bl (eqD d e))
def gNe:Dt→Dt→(Dt→Prop)→Prop:=fun d e Q=>okE 40 d=true∧okE 40 e=true∧Q (.bl (!eqD d e))
theorem jS {k:Nat} (hr:Room k X.A):DOp X (compareOp .Eq) gEq:=by
 refine ⟨fun x y H Q=>∃ d e,Is X.K H d x∧Is X.K H e y∧okE 40 d=true∧okE 40 e=true∧Q (.bl (eqD d e)) H,fun pins s σ H x y v u Q I rx ry h=>?_,fun H x y d e Q i1 i2 q R k=>⟨d,e,Is.mono0 H.sub i1,Is.mono0 H.sub i2,q.1,q.2.1,k _ _ H (Le.refl H) (is_bl.mpr rfl) q.2.2⟩⟩
 obtain ⟨d,e,i1,i2,h1,h2,q⟩:=h
 have hu:=hr.units
 exact (dN (n:=39) I (A:=X.A) (by omega) h1 h2 i1 i2 rx ry).1 _ _ _ _ ⟨.bl _,H,I,rfl,q⟩
theorem oA {k:Nat} (hr:Room k X.A):DOp X (compareOp .NotEq) gNe:=by
 refine ⟨fun x y H Q=>∃ d e,Is X.K H d x∧Is X.K H e y∧okE 40 d=true∧okE 40 e=true∧Q (.bl (!eqD d e)) H,fun pins s σ H x y v u Q I rx ry h=>?_,fun H x y d e Q i1 i2 q R k=>⟨d,e,Is.mono0 H.sub i1,Is.mono0 H.sub i2,q.1,q.2.1,k _ _ H (Le.refl H) (is_bl.mpr rfl) q.2.2⟩⟩
 obtain ⟨d,e,i1,i2,h1,h2,q⟩:=h
 have hu:=hr.units
 exact (dN (n:=39) I (A:=X.A) (by omega) h1 h2 i1 i2 rx ry).2 _ _ _ _ ⟨.bl _,H,I,rfl,q⟩
end
end OD
namespace OD
open PySem PySem.Spec PyProof.Rows L2
section
variable {X:Cx} {pins:List (Addr × Obj)} {σ:St} {H:Hp} {s:Shared} {scope:Scope} {x:Str} {fp:List Addr}
end
end OD
namespace OD
variable {Z:Hp}
open PySem PySem.Spec PyProof.Rows L2
section
variable {X:Cx} {pins:List (Addr × Obj)} {σ:St} {H:Hp} {s:Shared} {h':Heap}
end
section
variable {X:Cx}
end
section
variable {X:Cx} {fr:Fr} {ta:DTA} {tb:DTS} {pos:Pos}
theorem Zo {K:PySem.W.Frag} {W1:Vw} {d:Dt} {v:V} {ds:List Dt} (i1:Is K W1.g d v) (el:vn d=some ds):∃ a xs,v=.ref a∧(∀ W2:Vw,Same W1.g W2.g→SqL K W2.h a xs)∧AllIs K W1.g ds xs:=by
 cases d with
 | lst es=>
  obtain rfl:es=ds:=Option.some.inj el
  obtain ⟨a,xs,rfl,h1,h2⟩:=is_lst.mp i1
  exact ⟨a,xs,rfl,fun W2 s2=>.of (W2.sub _ _ (s2 _ _ h1)),h2⟩
 | scr ns=>
  obtain rfl:ns.map Dt.int=ds:=Option.some.inj el
  obtain ⟨a,rfl,h1⟩:=is_scr.mp i1
  exact ⟨a,_,rfl,fun W2 s2=>W2.sub.seq (s2.seq h1),AllIs.ints⟩
 | _=>cases el
def l6 (K:PySem.W.Frag) (t:DTE):TE:=fun σ H R=>∃ (F:Hp) (ρ:DS) (W:Vw) (Q:Dt→Prop),W.h=H∧Rl K (fun _=>none) F W ρ σ∧t ρ Q∧∀ d v W',Le W W'→Is K W'.g d v→Q d→R v W'.h
theorem DE.up {e:Expr} {t:DTE} (h:DE X e t) (hz:X.stack.length=X.outer.length:=by rfl):PE X e (l6 X.K t):=by
 obtain ⟨te,p,l⟩:=h
 intro pins s σ H R I q
 obtain ⟨F,ρ,W,Q,rfl,r,h,k⟩:=q
 have r':Rl X.K (Zx X) F W ρ σ:=by unfold Zx; rw [if_pos (Or.inl hz)]; exact r
 exact p pins s σ W.h R I (l ρ σ W Q r' h R k)
theorem pF {K:PySem.W.Frag} {t:DTE}:LiE K (fun _=>none) (l6 K t) t:=fun ρ σ H Q r h R k=>⟨_,ρ,H,Q,rfl,r,h,k⟩
theorem LiF.le {K:PySem.W.Frag} {te:TE} {t:DTE} (l:LiF K Z te t):LiE K Z te t:=fun ρ σ H Q r h R k=>l ρ σ H Q r h R fun es q xs H' s h0 h1 h2 i z=>k (.lst es) (.ref q) (H'.frz q _ h1) (xD s h0 h1 h2) (is_lst.mpr ⟨q,xs,rfl,zh,AllIs.mono0 (zA h2 _) i⟩) z
variable {scope:Scope} {x:Str} {elt iter:Expr} {px:Pos} {tl te:DTE}
end
end OD
namespace OD
variable {Z:Hp}
open PySem PySem.Spec PyProof.Rows L2
section
variable {X:Cx}
end
section
variable {X:Cx} {fr:Fr} {ta:DTA} {tb:DTS} {pos p0 p1 p2:Pos}
theorem kI {j:Nat} {x:Str} {a b:Expr} {body:List Stmt} {px p0 pos1:Pos} (hc:X.calm=true) (hN:X.N.Nodup) (hi:X.N[j]? = some x) (hx:Loc X.env.scope x) (hp:PassesOwn (model X.prog X.w) X.A X.env X.xe)
  (hg:Gl X "range") (hm:X.mg "range"=none) (h:DA X [a,b] ta) (hb:DSs X fr body tb) (hs:∀ x,foldedSetIterable (.Call (.Name "range" p0) [a,b] [] pos1) X.env x=pure x:=by intro _; rfl)
  (hst:starEach [a,b] X.env=[(false,eval a X.env),(false,eval b X.env)]:=by rfl) (hst2:starEach [b] X.env=[(false,eval b X.env)]:=by rfl)
  (hf:X.fn x=true∨X.env.scope.names.lookup x=some .local:=by first | exact .inl rfl | exact .inr rfl | assumption):DSt X fr (.For (.Name x px) (.Call (.Name "range" p0) [a,b] [] pos1) body [] pos) (ZY j ta tb):=by
 obtain ⟨tt,p,l⟩:=h
 obtain ⟨tbs,p2,l2⟩:=hb
 refine ⟨_,qv hp hc (ox hg hm p hst hst2) (yR hN hi hx hf) p2 hs,fun W0 G ρ σ W D D' at_ s h=>l ρ σ W _ at_.rl h _ fun ds vs W1 s1 i1 ⟨m,n,Pv,ed,m1,m2,n1,n2,h0,ht,hd⟩=>?_⟩
 subst ed
 obtain ⟨v1,v2,rfl,j1,j2⟩:=i1.two
 have hg1:Same G W1.g:=at_.gs.trans s1.g
 refine ⟨m,n,by rw [is_int.mp j1,is_int.mp j2],⟨m1,m2,n1,n2⟩,o5 (lo:=m) (n:=(n - m).toNat) (fun i=>InL X.K (Zx X) W0 W1 (Pv i)) ⟨ρ,W1,rfl,(at_.step s1).now,h0⟩ ?_ ?_⟩
 ·rintro i σ' _ hi ⟨ρ',W2,rfl,a2,hp2⟩
  exact l2 W0 W1.g _ _ W2 { D with nx:=Pv (i+1),ct:=Pv (i+1),bk:=D.nx } _ (a2.set j (is_int.mpr rfl)) (wv s hg1) (ht i ρ' hi hp2)
 ·rintro σ' _ ⟨ρ',W2,rfl,a2,hp2⟩
  exact s.nx ρ' σ' W2 (a2.weak hg1) (hd ρ' hp2)
def WS (ta:DTA):DTE:=fun ρ Q=>ta ρ fun ds=>∃ i j,ds=[.int i,.int j]∧Q (.int (if j<i then j else i))
theorem kR {a b:Expr} (hc:X.calm=true) (hg:Gl X "min") (hm:X.mg "min"=none) (ha:DA X [a,b] ta) (hs:starEach [a,b] X.env=(false,eval a X.env)::starEach [b] X.env:=by rfl) (hpl:(backTo pos (starEach [b] X.env)).any (·.1)=false:=by rfl):
  DE X (.Call (.Name "min" p0) [a,b] [] pos) (WS ta):=by
 obtain ⟨te,p1,l1⟩:=ha
 refine ⟨_,yj (o9 hc) hg hm (by decide +kernel) p1 (by decide) (by decide) hs hpl,fun ρ σ H Q r h R k=>l1 ρ σ H _ r h _ fun ds vs H1 s1 i1 ⟨i,j,ed,q⟩=>?_⟩
 subst ed
 obtain ⟨v1,v2,rfl,j1,j2⟩:=i1.two
 exact ⟨i,j,by rw [is_int.mp j1,is_int.mp j2],k _ _ H1 s1 (is_int.mpr rfl) q⟩
structure x9 (K:PySem.W.Frag) (C:Addr):Prop where
 cl:Cls K C
 ha:PySem.W.findIn K (.ref C) "__class__"=some (some (.builtin "object.__class__"))
 hn:PySem.W.specialIn K (.builtin "object.__class__") "__get__"=some (some (.builtin "getset_descriptor.__get__"))
 htk:PySem.W.takesIn K (.builtin "object.__class__")=some true
 hm:PySem.W.mroIn K C (.type "object")=some true
theorem nc:CallR X (.builtin "isinstance") (fun xs H Q=>∃ v D tv b,xs=[v,.ref D]∧wr X.K H v tv∧PySem.W.kitOne X.K tv (.ref D)=some b∧Q (.bl b) H):=by
 intro pins s σ H xs us Q I r h
 obtain ⟨v,D,tv,b,rfl,hty,hk,q⟩:=h
 cases r with
 | cons r1 r2=>
  cases r2 with
  | cons r3 r4=>
   cases r4
   cases r3
   exact tV I r1 hty hk fun tk=>⟨.bl b,H,I.tok _,rfl,q⟩
def XO (K:PySem.W.Frag) (D:Addr) (ta:DTE):DTE:=fun ρ Q=>ta ρ fun d=>∃ C f n b,d=.way C f n∧x9 K C∧PySem.W.kitOne K (.ref C) (.ref D)=some b∧Q (.bl b)
theorem dq {a:Expr} {t:DTE} {y:Str} {p':Pos} {D:Addr} (hm:X.mg "isinstance"=none) (hmc:X.mg y=some (.ref D)) (ha:DE X a t)
  (hg:Gl X "isinstance":=by rfl) (hgc:Gl X y:=by rfl) (hdy:(y == ("__debug__":Str))=false:=by decide)
  (hs:starEach [a,.Name y p'] X.env=(false,eval a X.env)::starEach [.Name y p'] X.env:=by rfl) (hs2:starEach [.Name y p'] X.env=(false,eval (.Name y p') X.env)::starEach [] X.env:=by rfl)
  (hpl:(backTo pos (starEach [.Name y p'] X.env)).any (·.1)=false:=by rfl):
  DE X (.Call (.Name "isinstance" p0) [a,.Name y p'] [] pos) (XO X.K D t):=by
 obtain ⟨te,p1,l1⟩:=ha
 have pc:PE X (.Name y p') (tC (.ref D)):=vZ hgc hmc rfl hdy
 refine ⟨_,yj nc hg hm boot_isinstance (zx p1 (zx pc zP hs2) hs) (by decide) (by decide) hs hpl,fun ρ σ H Q r h R k=>l1 ρ σ H _ r h _ fun d v H1 s1 i1 ⟨C,f,n,b,ed,ok,e,q⟩=>?_⟩
 subst ed
 obtain ⟨p,dx,rfl,hp⟩:=is_way.mp i1
 exact ⟨_,D,_,b,rfl,.ins (H1.sub _ _ hp) ok.cl ok.ha ok.hn ok.htk ok.hm,e,k _ _ H1 s1 (is_bl.mpr rfl) q⟩
def XZ (i:Nat) (g:Int→Int→Int) (te:DTE):DTS:=fun D ρ=>∃ d,ρ[i]? = some (.some d)∧te ρ fun e=>∃ m n,d=.int m∧e=.int n∧D.nx (ρ.set i (.some (.int (g m n))))
theorem eY {i:Nat} {x:Str} {e:Expr} {te:DTE} {op:Operator} {g:Int→Int→Int} {pos':Pos} (ho:PIp X op (ipI g)) (hN:X.N.Nodup) (hi:X.N[i]? = some x) (hx:Loc X.env.scope x) (h:DE X e te)
  (hf:X.fn x=true∨X.env.scope.names.lookup x=some .local:=by first | exact .inl rfl | exact .inr rfl | assumption):DSt X fr (.AugAssign (.Name x pos') op e pos) (XZ i g te):=by
 obtain ⟨tt,p,l⟩:=h
 refine ⟨_,cy hN hi hx p ho hf,fun W0 G ρ σ W D D' a s h=>?_⟩
 obtain ⟨d,ed,h⟩:=h
 obtain ⟨v,ev,iv⟩:=a.rl.at_ i d ed
 refine ⟨v,ev,l ρ σ W _ a.rl h _ fun z u W1 s1 i1 ⟨m,n,em,en,q⟩=>?_⟩
 subst em
 subst en
 exact ⟨m,n,is_int.mp iv,is_int.mp i1,s.nx _ _ W1 ((a.step s1).set i (is_int.mpr rfl)) q⟩
def jB:V→List V→Hp→VK→Prop:=fun x vs H Q=>∃ l xs y i,x=.ref l∧vs=[.int i,y]∧H l=some (.lst xs)∧0≤i∧i≤xs.length∧xs.length<sizeLine∧Q .non (upd H l (.lst (xs.take i.toNat++y::xs.drop i.toNat)))
theorem oS:MtM X "list.insert" jB:=by
 intro pins s σ H x vs v us Q I rx rv h
 obtain ⟨l,xs,y,i,rfl,rfl,hH,hi0,hi1,hz,q⟩:=h
 cases rx
 obtain ⟨u,w,rfl,⟨t,rfl⟩,rw_⟩:=rv.two
 obtain ⟨z,its,n,r,hl,e⟩:=I.lstM hH
 have hs:(sizeLine:Nat)<2 ^ 63:=uH
 refine call_meets F.slot_list_insert ⟨_,e,rfl⟩ F.entry_list_insert (F.args_list_insert_3 _ _ _) (AutoListH.list_insert_list_int_val_1 l its.toArray n i t w (by
  unfold Builtin.List.listFitsIndex
  simp
  omega) (by rw [List.size_toArray]; omega)) ⟨e,?_⟩
 refine ⟨.non,_,I.lset (its':=its.take i.toNat++w::its.drop i.toNat) hH e ?_ ((r.take _).append (.cons rw_ (r.drop _))) ?_,rfl,q⟩
 ·have h1:¬ i<0:=by omega
  have h2:min i.toNat its.length=i.toNat:=by omega
  dsimp only
  rw [if_neg h1,List.size_toArray,h2]
  apply Array.toList_inj.mp
  simp
  rw [List.take_of_length_le (by rw [List.length_drop]; omega)]
 ·rw [List.length_append,List.length_cons,List.length_take,List.length_drop]
  omega
theorem AllIs.ins {K:PySem.W.Frag} {G:Hp} {ds:List Dt} {xs:List V} {d:Dt} {v:V} (k:Nat) (h:AllIs K G ds xs) (i:Is K G d v):AllIs K G (ds.take k++d::ds.drop k) (xs.take k++v::xs.drop k):=
 (h.take k).append (allIs_cons.mpr ⟨v,_,rfl,i,h.drop k⟩)
def WW (i:Nat) (ti te:DTE):DTS:=fun D ρ=>∃ ds,ρ[i]? = some (.own ds)∧ti ρ fun z=>te ρ fun d=>∃ n:Int,z=.int n∧0≤n∧n≤ds.length∧ds.length≤100000∧D.nx (ρ.set i (.own (ds.take n.toNat++d::ds.drop n.toNat)))
theorem ZF (i:Nat) {x:Str} {k e:Expr} {ti te:DTE} (hk:DE X k ti) (h:DE X e te) (hN:X.N[i]? = some x:=by rfl) (hv:Vis X.env.scope x:=by first | exact Or.inl rfl | exact Or.inr (Or.inl rfl) | exact Or.inr (Or.inr rfl)) (hd:(x == ("__debug__":Str))=false:=by decide)
  (hcd:(x == ("__classdict__":Str))=false:=by decide) (hst:starEach [k,e] X.env=(false,eval k X.env)::starEach [e] X.env:=by rfl) (hst2:starEach [e] X.env=(false,eval e X.env)::starEach [] X.env:=by rfl) (hpl:(backTo p2 (starEach [e] X.env)).any (·.1)=false:=by rfl)
  (hfew:((backTo p2 (starEach [k,e] X.env)).all (fun x=>!x.1) && (backToKw p2 (keywordEach [] X.env)).all (fun x=>x.1.isSome)
   && decide ([k,e].length+([]:List Keyword).length+(if ([]:List Keyword).isEmpty then 0 else 1)<30))=true:=by rfl)
  (hbase:attributeBase (.Name x p0) "insert" X.env (eval (.Name x p0) X.env)=eval (.Name x p0) X.env:=by rfl) (hline:(p1.endLine == p2.line)=true:=by rfl)
  (hs:swapsWith (.Call (.Attribute (.Name x p0) "insert" p1) [k,e] [] p2) none pos.line X.env=pure false:=by rfl):
  DSt X fr (.Expr (.Call (.Attribute (.Name x p0) "insert" p1) [k,e] [] p2) pos) (WW i ti te):=by
 obtain ⟨tt,p,l⟩:=h
 obtain ⟨tk,pk,lk⟩:=hk
 refine ⟨_,wz (pB PySem.F.plainAttrs_list PySem.F.slot_list_insert PySem.F.type_list_insert oS (zJ hN hv hd hcd) (zx pk (zx p zP hst2) hst) hbase hfew hline hst hpl) hs,fun W0 G ρ σ W D D' at_ s h=>?_⟩
 obtain ⟨ds,ei,h⟩:=h
 obtain ⟨b,xs,e1,e2,e3,e4,e5⟩:=at_.rl.ow i ds ei
 refine ⟨.ref b,e1,.inl ⟨rfl,xs,.of e2⟩,lk ρ σ W _ at_.rl h _ fun z u W1 s1 i1 q1=>l ρ σ W1 _ (at_.rl.mono s1) q1 _ fun d v W2 s2 i2 ⟨n,ez,n0,n1,hl,q2⟩=>?_⟩
 subst ez
 have s:=s
 have s12:=s1.trans s2
 have a2:=at_.step s12
 have hg2:W2.g b=none:=s12.n b (by rw [e2]; intro z; cases z) e3
 refine ⟨b,xs,v,n,rfl,by rw [is_int.mp i1],s12.h _ _ e2,n0,by rw [← e5.length]; exact n1,by rw [← e5.length]; exact Nat.lt_of_le_of_lt hl (by decide),?_⟩
 exact s.nx _ _ _ (a2.put ei e1 hg2 e4 ((e5.mono s12).ins n.toNat i2)) q2
end
end OD
namespace OD
variable {Z:Hp}
open PySem PySem.Spec PyProof.Rows L2
def Itd (lo:Int) (n:Nat):It:=⟨fun i _=>i<n,fun i H x H'=>H'=H∧x=.int (lo - i),fun i _=>n≤i⟩
theorem oj {P:Program} {w:World} {K:PySem.W.Frag} {tg:Expr} (it:Addr) (lo:Int) (n:Nat):ng P w K tg (Itd lo n) [it] it (fun i h=>IsRangeIter h it (lo+(i:Nat)*(-1)) ((n:Int) - (i:Nat)) (-1)) where
 mem:=by simp
 obj:=fun i h st b hb=>by
  have e:b=it:=by simpa using hb
  subst e
  exact ⟨_,st,fun v z=>by
   have z':Data.fields _=Data.cell v:=z
   cases z'⟩
 keep:=fun i h h' st k=>k it (by simp) _ st
 item:=by
  intro X hP hw hK hc i pins s σ H E I hf st hg
  subst hP hw hK
  obtain ⟨f0,f1,f2,f3,f4,f5⟩:=hf it (by simp)
  have W:=Walks.range (prog:=X.prog) (w:=X.w) (I.ok.hd hc) it lo (-1) n
  refine W.item i s _ _ hg st fun v h' tk hv st' kk=>?_
  obtain ⟨t,rfl⟩:=hv
  have I1:Inv X pins σ H { s with heap:=h',toks:=tk }:=I.turned (fun b o hb e=>kk b o (by simpa using hb) e) f0 f1 f3 f4 f5
  refine ⟨_,rfl,kj (s:={ s with heap:=h',toks:=tk }) (n:="range_iterator") st' rfl rfl (by decide) ⟨.int (lo - i),H,I1,⟨t,?_⟩,⟨rfl,rfl⟩,st',fun b hb=>(hf b hb).1⟩⟩
  rw [show lo+(i:Int)*(-1)=lo - i by omega]
 done:=by
  intro X hP hw hK hc i pins s σ H E I hf st hg
  subst hP hw hK
  obtain ⟨f0,f1,f2,f3,f4,f5⟩:=hf it (by simp)
  exact wpAny_pyNext_range_end (I.ok.hd hc) st (by have:n≤i:=hg; omega) fun h' eb=>⟨rfl,I.turned (t':=s.toks) (fun b o hb e=>eb b o hb e) f0 f1 f3 f4 f5⟩
 self:=fun _ _ _ _ _ st h=>wpAny_pyIter_rangeiter st h
theorem xA (a b:Int):Builtin.Range.rangeSize a b (-1)=if b<a then a - b else 0:=by
 unfold Builtin.Range.rangeSize
 rw [if_neg (by decide)]
 split
 ·rename_i h
  have:(a - b - 1) / (- -1)=a - b - 1:=by rw [show (- -1:Int)=1 by decide,Int.ediv_one]
  omega
 ·rfl
theorem qk {a b:Int} (ha:-(2 ^ 62)≤a) (ha':a<2 ^ 62) (hb:-(2 ^ 62)≤b) (hb':b<2 ^ 62):Builtin.Range.small a b (-1)=true:=by
 unfold Builtin.Range.small
 rw [xA]
 simp only [Builtin.Range.rangeFitsLong,Bool.and_eq_true,Bool.or_eq_true,decide_eq_true_eq,beq_iff_eq,show ¬ (-1:Int)>0 by decide,if_false]
 split <;> omega
section
variable {X:Cx} {tg:Expr}
def Xl (ta:TA):TI:=fun σ H R=>ta σ H fun vs H1=>∃ i j:Int,vs=[.int i,.int j,.int (-1)]∧(-(2 ^ 30)≤i∧i<2 ^ 30∧-(2 ^ 30)≤j∧j<2 ^ 30)∧R (Itd i (i - j).toNat) H1
theorem jH {a b c:Expr} {ta:TA} {p pos:Pos} (hg:Gl X "range") (hm:X.mg "range"=none) (ha:PA X [a,b,c] ta) (hs:starEach [a,b,c] X.env=(false,eval a X.env)::starEach [b,c] X.env:=by rfl)
  (hpl:(backTo pos (starEach [b,c] X.env)).any (·.1)=false:=by rfl):PI X tg (.Call (.Name "range" p) [a,b,c] [] pos) (Xl ta):=by
 intro pins s σ H R I h
 refine Call_ (vp I hg hm boot_range (PyProof.Rows.callWith_type1 (thn (ha pos pins s σ H _ I h) fun us s1 ⟨vs,H1,I1,r1,q1⟩=>?_) hs hpl))
 obtain ⟨i,j,e,⟨q1,q2,q3,q4⟩,q⟩:=q1
 subst e
 cases r1 with
 | cons r rr=>
 cases rr with
 | cons r' rr=>
 cases rr with
 | cons r'' rr=>
  cases rr
  obtain ⟨t,rfl⟩:=r
  obtain ⟨t',rfl⟩:=r'
  obtain ⟨t'',rfl⟩:=r''
  refine call_range_3 (by decide) ?_ (Or.inl (PyProof.noPylong_small (by omega)))
  refine wpAny_pyIter_range (IsRange.new ..) (qk (by omega) (by omega) (by omega) (by omega)) ?_
  have I2:Inv X pins σ H1 { s1 with heap:=s1.heap.push { cls:=.type "range",data:=.fields #[.int i t,.int j t',.int (-1) t''] },toks:=s1.toks }:=I1.kept fun b o e=>Heap.get?_push_of_some _ e
  refine ⟨(s1.heap.push { cls:=.type "range",data:=.fields #[.int i t,.int j t',.int (-1) t''] }).objs.size,[(s1.heap.push { cls:=.type "range",data:=.fields #[.int i t,.int j t',.int (-1) t''] }).objs.size],_,_,H1,rfl,
   I2.kept (t':=s1.toks) fun b o e=>Heap.get?_push_of_some _ e,oj _ i (i - j).toNat,?_,fun b hb=>?_,q⟩
  ·have e1:i+((0:Nat):Int)*(-1)=i:=by simp
   have e2:(((i - j).toNat:Nat):Int) - ((0:Nat):Int)=Builtin.Range.rangeSize i j (-1):=by rw [xA]; split <;> omega
   show IsRangeIter _ _ (i+((0:Nat):Int)*(-1)) ((((i - j).toNat:Nat):Int) - ((0:Nat):Int)) (-1)
   rw [e1,e2]
   exact Heap.get?_push_size _ rfl
  ·have e:b=(s1.heap.push { cls:=.type "range",data:=.fields #[.int i t,.int j t',.int (-1) t''] }).objs.size:=by simpa using hb
   subst e
   exact I2.fpOk (Nat.le_refl _) (I2.hok.fresh (Nat.le_refl _))
theorem kq {lo:Int} {n:Nat} {g:TG} {tb:TS} {D:Ends} {σ:St} {H:Hp} (Pv:Nat→St→Hp→Prop) (h0:Pv 0 σ H)
  (hs:∀ i σ H,i<n→Pv i σ H→g (.int (lo - i)) σ H fun σ2 H2=>tb { D with nx:=Pv (i+1),ct:=Pv (i+1),bk:=D.nx } σ2 H2) (hd:∀ σ H,Pv n σ H→D.nx σ H):
  ∃ W:Nat→Nat→St→Hp→Prop,(∃ m,W 0 m σ H)∧∀ i m σ H,W i m σ H→
   ((Itd lo n).stop i H∧D.nx σ H)∨((Itd lo n).go i H∧∃ N:St→Hp→Prop,(∀ σ' H',N σ' H'→∃ m',m'<m∧W (i+1) m' σ' H')∧∀ x H',(Itd lo n).yld i H x H'→g x σ H' fun σ2 H2=>tb { D with nx:=N,ct:=N,bk:=D.nx } σ2 H2):=by
 refine ⟨fun i m σ H=>m=n - i∧i≤n∧Pv i σ H,⟨n,by simp,Nat.zero_le _,h0⟩,?_⟩
 rintro i m σ H ⟨rfl,hi,p⟩
 by_cases hlt:i<n
 ·refine .inr ⟨hlt,Pv (i+1),fun σ' H' p'=>⟨n - (i+1),by omega,rfl,hlt,p'⟩,fun x H' y=>?_⟩
  obtain ⟨e,y⟩:=y
  subst e y
  exact hs i σ _ hlt p
 ·have e:i=n:=by omega
  subst e
  exact .inl ⟨Nat.le_refl _,hd σ H p⟩
variable {fr:Fr} {ta:DTA} {tb:DTS} {te:DTE} {pos p0 p1 p2:Pos}
def XR (j:Nat) (ta:DTA) (tb:DTS):DTS:=fun D ρ=>ta ρ fun ds=>∃ (m n:Int) (Pv:Nat→DS→Prop),ds=[.int m,.int n,.int (-1)]∧-(2 ^ 30)≤m∧m<2 ^ 30∧-(2 ^ 30)≤n∧n<2 ^ 30∧Pv 0 ρ∧
 (∀ (i:Nat) ρ',i<(m - n).toNat→Pv i ρ'→tb { D with nx:=Pv (i+1),ct:=Pv (i+1),bk:=D.nx } (ρ'.set j (.some (.int (m - i)))))∧∀ ρ',Pv (m - n).toNat ρ'→D.nx ρ'
theorem AllIs.three {K:PySem.W.Frag} {H:Hp} {d e f:Dt} {xs:List V} (h:AllIs K H [d,e,f] xs):∃ v u w,xs=[v,u,w]∧Is K H d v∧Is K H e u∧Is K H f w:=by
 obtain ⟨x,r,rfl,h1,h2⟩:=allIs_cons.mp h
 obtain ⟨u,w,rfl,h3,h4⟩:=h2.two
 exact ⟨x,u,w,rfl,h1,h3,h4⟩
theorem eX {j:Nat} {x:Str} {a b c:Expr} {body:List Stmt} {px p0 pos1:Pos} (hc:X.calm=true) (hN:X.N.Nodup) (hi:X.N[j]? = some x) (hx:Loc X.env.scope x) (hp:PassesOwn (model X.prog X.w) X.A X.env X.xe)
  (hg:Gl X "range") (hm:X.mg "range"=none) (h:DA X [a,b,c] ta) (hb:DSs X fr body tb) (hs:∀ x,foldedSetIterable (.Call (.Name "range" p0) [a,b,c] [] pos1) X.env x=pure x:=by intro _; rfl)
  (hst:starEach [a,b,c] X.env=(false,eval a X.env)::starEach [b,c] X.env:=by rfl) (hpl:(backTo pos1 (starEach [b,c] X.env)).any (·.1)=false:=by rfl)
  (hf:X.fn x=true∨X.env.scope.names.lookup x=some .local:=by first | exact .inl rfl | exact .inr rfl | assumption):DSt X fr (.For (.Name x px) (.Call (.Name "range" p0) [a,b,c] [] pos1) body [] pos) (XR j ta tb):=by
 obtain ⟨tt,p,l⟩:=h
 obtain ⟨tbs,p2,l2⟩:=hb
 refine ⟨_,qv hp hc (jH hg hm p hst hpl) (yR hN hi hx hf) p2 hs,fun W0 G ρ σ W D D' at_ s h=>l ρ σ W _ at_.rl h _ fun ds vs W1 s1 i1 ⟨m,n,Pv,ed,m1,m2,n1,n2,h0,ht,hd⟩=>?_⟩
 subst ed
 obtain ⟨v1,v2,v3,rfl,j1,j2,j3⟩:=i1.three
 have hg1:Same G W1.g:=at_.gs.trans s1.g
 refine ⟨m,n,by rw [is_int.mp j1,is_int.mp j2,is_int.mp j3],⟨m1,m2,n1,n2⟩,kq (lo:=m) (n:=(m - n).toNat) (fun i=>InL X.K (Zx X) W0 W1 (Pv i)) ⟨ρ,W1,rfl,(at_.step s1).now,h0⟩ ?_ ?_⟩
 ·rintro i σ' _ hi ⟨ρ',W2,rfl,a2,hp2⟩
  exact l2 W0 W1.g _ _ W2 { D with nx:=Pv (i+1),ct:=Pv (i+1),bk:=D.nx } _ (a2.set j (is_int.mpr rfl)) (wv s hg1) (ht i ρ' hi hp2)
 ·rintro σ' _ ⟨ρ',W2,rfl,a2,hp2⟩
  exact s.nx ρ' σ' W2 (a2.weak hg1) (hd ρ' hp2)
def rK:Dt→Bool
 | .non=>true
 | _=>false
theorem tW {K:PySem.W.Frag} {H:Hp} {d:Dt} {v:V} (h:Is K H d v):decide (v=.non)=rK d:=by
 cases d with
 | non=>rw [is_non.mp h]; rfl
 | bl b=>rw [is_bl.mp h]; rfl
 | int b=>rw [is_int.mp h]; rfl
 | str b=>rw [is_str.mp h]; rfl
 | tup b=>obtain ⟨a,xs,rfl,_⟩:=is_tup.mp h; rfl
 | lst b=>obtain ⟨a,xs,rfl,_⟩:=is_lst.mp h; rfl
 | scr b=>obtain ⟨a,rfl,_⟩:=is_scr.mp h; rfl
 | way b _ _=>obtain ⟨a,xs,rfl,_⟩:=is_way.mp h; rfl
 | exc b=>obtain ⟨a,rfl,_⟩:=is_exc.mp h; rfl
 | opq φ=>obtain ⟨a,rfl⟩:=φ.ref (is_opq.mp h); rfl
def dZ (ta:DTE):DTE:=fun ρ Q=>ta ρ fun d=>Q (.bl (rK d))
def ZS (ta:DTE):DTE:=fun ρ Q=>ta ρ fun d=>Q (.bl (!rK d))
theorem df {a:Expr} {j pos'} (ha:DE X a te):DE X (.Compare a [.IsNot] [.Constant .none j pos'] pos) (ZS te):=by
 obtain ⟨t1,p1,l1⟩:=ha
 exact ⟨_,cF (jM p1),fun ρ σ H Q r h R k=>l1 ρ σ H _ r h _ fun d v H1 s1 i1 q=>k (.bl (!rK d)) (.bl (!decide (v=.non))) H1 s1 (is_bl.mpr (by rw [tW i1])) q⟩
theorem ZD {a:Expr} {j pos'} (ha:DE X a te):DT X (.Compare a [.Is] [.Constant .none j pos'] pos) (rV (dZ te)):=by
 obtain ⟨t1,p1,l1⟩:=ha
 refine ⟨_,nv (cJ p1),qG (te:=Yh t1) (t:=dZ te) fun ρ σ H Q r h R k=>l1 ρ σ H _ r h _ fun d v H1 s1 i1 q=>k (.bl (rK d)) (.bl (decide (v=.non))) H1 s1 (is_bl.mpr (by rw [tW i1])) q⟩
end
end OD
namespace OD
variable {Z:Hp}
open PySem PySem.Spec PyProof.Rows L2
section
variable {X:Cx} {a:Expr} {te:TE} {tl th ts:TO} {lo hi:Option Expr} {st:Expr} {pos p2:Pos} {ta:DTE} {dl dh dt:DTO}
variable {fr:Fr} {tA:DTA} {tb:DTS} {p0 p1:Pos}
def Xx (t u:DTS):DTS:=fun D ρ=>∃ P:DS→Prop,t { D with nx:=P } ρ∧∀ ρ',P ρ'→u D ρ'
theorem kB {sst:Stmt} {zW:List Stmt} {t u:DTS} (h1:DSt X fr sst t) (h2:DSs X fr zW u):DSs X fr (sst::zW) (Xx t u):=by
 obtain ⟨ts,p1,l1⟩:=h1
 obtain ⟨us,p2,l2⟩:=h2
 refine ⟨_,zT p1 p2,fun W0 G ρ σ W D D' a s h=>?_⟩
 obtain ⟨P,h,k⟩:=h
 exact l1 W0 G ρ σ W { D with nx:=P } { D' with nx:=us D' } a ⟨fun ρ' σ' W' a' q=>l2 W0 G ρ' σ' W' D D' a' s (k ρ' q),s.tl,s.bk,s.ct⟩ h
end
end OD
namespace OD
open PySem PySem.Spec PyProof.Rows L2
section
variable {X:Cx} {ta:DTE} {pos p0:Pos}
end
end OD
namespace OD
variable {Z:Hp}
open PySem PySem.Spec PyProof.Rows L2
section
variable {X:Cx} {K:PySem.W.Frag} {H:Hp}
def gS (f:Str→Str→Dt):Dt→Dt→(Dt→Prop)→Prop:=fun d e Q=>∃ x y,d=.str x∧e=.str y∧Q (f x y)
theorem rQ {x y:Str}:decide (V.str x=V.str y)=(x == y):=by
 rw [Bool.eq_iff_iff]
 simp
theorem xr:DOp X (compareOp .Eq) (gS fun x y=>.bl (x == y)):=by
 refine ⟨_,YA,fun H x y d e Q i1 i2 ⟨a,b,ed,ee,q⟩ R k=>?_⟩
 subst ed
 subst ee
 obtain rfl:=is_str.mp i1
 obtain rfl:=is_str.mp i2
 refine ⟨rfl,?_⟩
 rw [rQ]
 exact k _ _ H (Le.refl H) (is_bl.mpr rfl) q
theorem YG:DOp X (compareOp .NotEq) (gS fun x y=>.bl (!(x == y))):=by
 refine ⟨_,Yw,fun H x y d e Q i1 i2 ⟨a,b,ed,ee,q⟩ R k=>?_⟩
 subst ed
 subst ee
 obtain rfl:=is_str.mp i1
 obtain rfl:=is_str.mp i2
 refine ⟨rfl,?_⟩
 rw [rQ]
 exact k _ _ H (Le.refl H) (is_bl.mpr rfl) q
end
section
variable {X:Cx} {fr:Fr} {te:DTE} {tb:DTS} {pos p0 p1 p2:Pos}
end
end OD
namespace OD
variable {Z:Hp}
open PySem PySem.Spec PyProof.Rows L2
def vB (σ:St) (js:List Nat):St:=js.map fun j=>(σ[j]?).getD none
section
variable {X:Cx} {pins:List (Addr × Obj)} {σ:St} {H:Hp} {s:Shared} {scope:Scope} {cl:List (Str × Addr)} {x:Str} {caps:List Str} {js:List Nat} {fp:List Addr}
end
def xv (cells:List (Str × Addr)) (names:List (Str × NameKind)):List (Str × Addr):=(names.filterMap fun y=>if y.2 == .free then (cells.lookup y.1).map (y.1,·) else none).reverse
theorem uF {α:Type} {y:Str} {c:α}:∀ {l:List (Str × α)},(y,c)∈l→∃ c',l.lookup y=some c'
 | [],h=>nomatch h
 | (z,d)::r,h=>by
  rw [List.lookup_cons]
  cases q:y == z with
  | true=>exact ⟨d,rfl⟩
  | false=>
   rcases List.mem_cons.mp h with e | e
   ·cases e
    rw [beq_self_eq_true] at q
    cases q
   ·exact uF e
theorem mem_clOf {cells:List (Str × Addr)} {names:List (Str × NameKind)} {y:Str} {c:Addr}:(y,c)∈xv cells names↔(y,NameKind.free)∈names∧cells.lookup y=some c:=by
 unfold xv
 rw [List.mem_reverse,List.mem_filterMap]
 constructor
 ·rintro ⟨⟨z,k⟩,hz,e⟩
  split at e
  ·rename_i hk
   obtain rfl:=eq_of_beq hk
   obtain ⟨d,hd,e⟩:=Option.map_eq_some_iff.mp e
   cases e
   exact ⟨hz,hd⟩
  ·cases e
 ·rintro ⟨h1,h2⟩
  exact ⟨(y,.free),h1,by show Option.map _ (List.lookup y cells)=_; rw [h2]; rfl⟩
theorem dD {scope:Scope} {env:Env} (h:∀ y,(y,NameKind.free)∈scope.names→∃ c,env.cells.lookup y=some c):closureFor scope env=pure (xv env.cells scope.names):=by
 have key:∀ (names:List (Str × NameKind)) (acc:List (Str × Addr)),(∀ y,(y,NameKind.free)∈names→∃ c,env.cells.lookup y=some c)→
   (forIn names acc fun x r=>(if x.2 == NameKind.free then do let c ← cellOf env x.1; pure (ForInStep.yield ((x.1,c)::r)) else pure (ForInStep.yield r):Sem (ForInStep (List (Str × Addr)))))=(pure (xv env.cells names++acc):Sem (List (Str × Addr))):=by
  intro names
  induction names with
  | nil=>intro acc _; rfl
  | cons a r ih=>
   intro acc ha
   obtain ⟨n,k⟩:=a
   rw [List.forIn_cons]
   cases hk:k == NameKind.free with
   | true=>
    obtain rfl:=eq_of_beq hk
    obtain ⟨c,hc⟩:=ha n List.mem_cons_self
    have e1:cellOf env n=pure c:=by unfold cellOf; rw [hc]
    have e2:xv env.cells ((n,NameKind.free)::r)=xv env.cells r++[(n,c)]:=by
     unfold xv
     rw [List.filterMap_cons_some (b:=(n,c)) (by show Option.map _ (List.lookup n env.cells)=_; rw [hc]; rfl),List.reverse_cons]
    show (do let c ← cellOf env n; pure (ForInStep.yield ((n,c)::acc)):Sem _) >>= _=_
    rw [e1,pure_bind,pure_bind,e2,List.append_assoc]
    exact ih ((n,c)::acc) fun y hy=>ha y (List.mem_cons_of_mem _ hy)
   | false=>
    have e2:xv env.cells ((n,k)::r)=xv env.cells r:=by
     unfold xv
     rw [List.filterMap_cons_none (by show (if (k == NameKind.free)=true then _ else none)=none; rw [hk]; rfl)]
    show (pure (ForInStep.yield acc):Sem _) >>= _=_
    rw [pure_bind,e2]
    exact ih acc fun y hy=>ha y (List.mem_cons_of_mem _ hy)
 have:=key scope.names [] h
 rw [List.append_nil] at this
 unfold closureFor
 rw [← this]
 exact (bind_pure _).trans rfl
theorem yt {env:Env} (hk:env.scope.kind=.function):∀ {names:List (Str × NameKind)} {x:Str},names.lookup x=some .free→env.scope.names.lookup x=some .cell→
  (names.map fun (n,k)=>if (k == NameKind.free && env.scope.kind == .function && env.kindOf n == some .cell) then (n,NameKind.cell) else (n,k)).lookup x=some .cell
 | [],_,h,_=>by simp at h
 | (n,k)::r,x,h,he=>by
  have ih:=@yt env hk r x
  show List.lookup x ((if (k == NameKind.free && env.scope.kind == .function && env.kindOf n == some .cell)=true then (n,NameKind.cell) else (n,k))::_)=_
  cases hx:x == n with
  | true=>
   obtain rfl:=eq_of_beq hx
   simp only [List.lookup_cons,hx] at h
   cases h
   have e:env.kindOf x=some .cell:=he
   rw [hk,e]
   simp [List.lookup_cons]
  | false=>
   simp only [List.lookup_cons,hx] at h
   by_cases hc:(k == NameKind.free && env.scope.kind == .function && env.kindOf n == some .cell)=true
   ·rw [if_pos hc]; simp only [List.lookup_cons,hx]; exact ih h he
   ·rw [if_neg hc]; simp only [List.lookup_cons,hx]; exact ih h he
def wU (ρ:DS) (js:List Nat):DS:=js.map fun j=>match (ρ[j]?:Option Sl) with
 | Option.some (Sl.some d)=>Sl.some d
 | _=>Sl.none
section
variable {X:Cx} {fr:Fr} {osc scope:Scope} {x:Str} {caps:List Str} {js:List Nat} {N0:List Str} {L:Addr} {a elt:Expr} {ta te:DTE} {px p0 pos pos1:Pos}
end
section
variable {X:Cx} {a:Expr} {p0 pos:Pos}
end
end OD
namespace OD
variable {Z:Hp}
open PySem PySem.Spec PyProof.Rows L2
def pU (js:List Nat) (ta te:DTE):DTE:=fun ρ Q=>ta ρ fun d=>∃ (ds:List Dt) (Pv:Nat→List Dt→Prop),vn d=some ds∧ds.length≤100000∧Pv 0 []∧
 (∀ (i:Nat) e es,ds[i]? = some e→Pv i es→te (.some e::wU ρ js) fun y=>Pv (i+1) (es++[y]))∧∀ es,Pv ds.length es→Q (.lst es)
section
variable {X:Cx} {fr:Fr} {osc scope:Scope} {x:Str} {caps:List Str} {js:List Nat} {N0:List Str} {L:Addr} {iter elt:Expr} {ta te:DTE} {px pos:Pos}
end
end OD
namespace L2
open PySem PySem.Spec PyProof.Rows
def K2 (h h':Heap):Prop:=∀ a o vs,h.get? a=some o→o.data=.fields vs→∃ o' vs',h'.get? a=some o'∧o'.data=.fields vs'∧vs'[2]? = vs[2]?
theorem K2.refl (h:Heap):K2 h h:=fun _ o vs x y=>⟨o,vs,x,y,rfl⟩
theorem K2.trans {h1 h2 h3:Heap} (x:K2 h1 h2) (y:K2 h2 h3):K2 h1 h3:=fun a o vs p q=>
 let ⟨o',vs',p',q',r'⟩:=x a o vs p q
 let ⟨o2,vs2,p2,q2,r2⟩:=y a o' vs' p' q'
 ⟨o2,vs2,p2,q2,r2.trans r'⟩
theorem K2.keeps {h h':Heap} (k:∀ b o,h.get? b=some o→h'.get? b=some o):K2 h h':=fun a o vs p q=>⟨o,vs,k a o p,q,rfl⟩
theorem K2.update {h:Heap} {a:Addr} {o:Obj} {f:Obj→Obj} (ho:h.get? a=some o) (hf:∀ vs,o.data=.fields vs→∃ vs',(f o).data=.fields vs'∧vs'[2]? = vs[2]?):K2 h (h.update a f):=fun b o' vs p q=>by
 by_cases e:a=b
 ·subst e
  rw [ho] at p
  cases p
  obtain ⟨vs',z1,z2⟩:=hf vs q
  exact ⟨_,vs',Heap.get?_update_self f ho (Obj.isFreed_of_fields z1),z1,z2⟩
 ·exact ⟨o',vs,(Heap.get?_update_other _ _ e).trans p,q,rfl⟩
def Kp2 {α:Type} (t:Sem α):Prop:=∀ (M:Model) (Γ:PySem.Ctx) (Q:α→Pos→Shared→Prop) (E:Value→Pos→Shared→Prop) (p:Pos) (s:Shared),Sem.wp M Γ t Q E p s→
 Sem.wp M Γ t (fun a p' s'=>Q a p' s'∧K2 s.heap s'.heap) (fun e p' s'=>E e p' s'∧K2 s.heap s'.heap) p s
theorem zG {α:Type} (a:α):Kp2 (pure a:Sem α):=fun _ _ _ _ _ s h=>⟨h,K2.refl _⟩
theorem y6 {α:Type} (z:String):Kp2 (unsupported z:Sem α):=fun _ _ _ _ _ s h=>False.elim h
theorem zC {α β:Type} {m:Sem α} {f:α→Sem β} (hm:Kp2 m) (hf:∀ a,Kp2 (f a)):Kp2 (m >>= f):=fun M Γ Q E p s h=>by
 rw [Sem.wp_bind'] at h ⊢
 exact Sem.wp_mono M Γ m (fun a p' s' ⟨x,y⟩=>Sem.wp_mono M Γ (f a) (fun _ _ _ ⟨u,v⟩=>⟨u,y.trans v⟩) (fun _ _ _ ⟨u,v⟩=>⟨u,y.trans v⟩) p' s' (hf a M Γ Q E p' s' x)) (fun _ _ _ x=>x) p s (hm M Γ _ _ p s h)
theorem xn {α:Type} {c:Prop} [Decidable c] {a b:Sem α} (ha:Kp2 a) (hb:Kp2 b):Kp2 (if c then a else b):=by split; exact ha; exact hb
theorem sO (a:Addr):Kp2 (load a):=fun M Γ Q E p s ⟨o,x,y⟩=>⟨o,x,y,K2.refl _⟩
theorem uI:Kp2 PySem.stack:=fun M Γ Q E p s h=>⟨h,K2.refl _⟩
theorem l9 (o:Obj):Kp2 (alloc o):=fun M Γ Q E p s h=>⟨h,K2.keeps fun _ _=>Heap.get?_push_of_some _⟩
theorem tT {a:Addr} {f:Obj→Obj} (hf:∀ o vs,o.data=.fields vs→∃ vs',(f o).data=.fields vs'∧vs'[2]? = vs[2]?):Kp2 (update a f):=fun M Γ Q E p s ⟨x,y⟩=>by
 obtain ⟨o,ho⟩:=Option.isSome_iff_exists.mp x
 exact ⟨x,y,K2.update ho (hf o)⟩
theorem rH (v:Value):Kp2 (fieldsOf v):=by
 unfold fieldsOf
 split
 ·refine zC (sO _) fun o=>?_
  split
  ·exact zG _
  ·exact y6 _
 ·exact y6 _
theorem wM (v:Value) (i:Nat):Kp2 (field v i):=by
 unfold field
 refine zC (rH v) fun vs=>?_
 split
 ·exact zG _
 ·exact y6 _
theorem xE (v:Value) (i:Nat) (x:Value) (hi:i≠2):Kp2 (setField v i x):=by
 unfold setField
 split
 ·unfold updateField
  refine zC (sO _) fun o=>?_
  split
  ·refine xn (tT fun o vs hd=>⟨_,Obj.data_mapFields hd _,Array.getElem?_setIfInBounds_ne hi⟩) (y6 _)
  ·exact y6 _
 ·exact y6 _
theorem sN (e:Value) (f:Option Addr):Kp2 (setFlight e f):=by
 unfold setFlight
 refine zC (wM _ _) fun tb=>xn (xE _ _ _ (by decide)) (zG _)
theorem oV (env:Env) (outer:List Env):Kp2 (behindIsImport env outer):=by
 unfold behindIsImport
 refine xn (zG _) (xn (zG _) (zC (wM _ _) fun _=>zG _))
theorem eB (env:Env) (b:Bool) (l:List Env):Kp2 (keptBack env b l):=by
 unfold keptBack
 split
 ·refine xn (zG _) ?_
  unfold underTheClaimsCaller
  exact zC (zC uI fun _=>zG _) fun _=>zG _
 ·exact zG _
theorem rF:∀ l:List Env,Kp2 (readyFrames l)
 | []=>zG _
 | env::outer=>by
  unfold readyFrames
  split
  ·refine zC (sO _) fun o=>xn (zG _) ?_
   refine zC (oV _ _) fun _=>zC (eB _ _ _) fun _=>zC (tT fun o vs hd=>⟨vs,hd,rfl⟩) fun _=>rF outer
  ·exact y6 _
theorem qH (env:Env):Kp2 (PySem.frameOf env):=by
 unfold PySem.frameOf
 refine zC (by unfold frameEnvs; exact zC uI fun _=>zG _) fun l=>zC ?_ fun r=>?_
 ·unfold frameObject
  split
  ·exact zG _
  ·exact zC (rF _) fun _=>zG _
 ·split
  ·exact zG _
  ·exact y6 _
theorem l8 (f:Addr) (b:Bool):Kp2 (entryPlaceOf f b):=by
 unfold entryPlaceOf
 refine zC uI fun _=>?_
 split
 ·exact zG _
 ·exact zG _
theorem rG (a b c d e:Value) (l:List Value):Kp2 (EntryCells.newEntry a b c d e l):=by
 unfold EntryCells.newEntry newFields newObj newObjAsIs
 have z:∀ d:Data,Kp2 (do let a ← alloc { cls:=.type "traceback",data:=d }; pure (Value.ref a):Sem Value):=fun d=>zC (l9 _) fun _=>zG _
 generalize ([a,b,c,d,e]++(if l.isEmpty then List.replicate 6 Value.none else l))=q
 simp only []
 exact xn (zC (y6 _) fun _=>z _) (z _)
theorem eu (e:Value) (env:Env):Kp2 (noteFrame e env):=by
 unfold noteFrame
 split
 ·refine zC (wM _ _) fun hd=>?_
  have z:∀ f,Kp2 (do setField e 1 (← EntryCells.newEntry hd (← PySem.frameOf env) .none (rawInt f) .none (← entryPlaceOf f (hd != .none)))):=fun f=>zC (qH _) fun _=>zC (l8 _ _) fun _=>zC (rG _ _ _ _ _ _) fun _=>xE _ _ _ (by decide)
  refine xn ?_ (z _)
  exact zC (wM _ _) fun _=>xn (zG _) (zC (xE _ _ _ (by decide)) fun _=>z _)
 ·exact y6 _
theorem uJ (env:Env) (e:Value):Kp2 (leaving env e):=zC (eu _ _) fun _=>sN _ _
theorem dI {α:Type} {M:Model} {A:Around} {t:Sem α} {Q:α→Shared→Prop} {E:Value→Shared→Prop} {s:Shared} (k:Kp2 t) (h:wpAny M A t (fun a s'=>K2 s.heap s'.heap→Q a s') (fun e s'=>K2 s.heap s'.heap→E e s') s):wpAny M A t Q E s:=fun Γ p hΓ=>
 Sem.wp_mono M Γ t (fun _ _ _ ⟨x,y⟩=>x y) (fun _ _ _ ⟨x,y⟩=>x y) p s (k M Γ _ _ p s (h Γ p hΓ))
def Chn (h:Heap):Nat→Value→Prop
 | 0,v=>v=.none
 | n+1,v=>∃ a o vs x,v=.ref a∧h.get? a=some o∧o.data=.fields vs∧vs[2]? = some x∧Chn h n x
theorem Chn.k2 {h h':Heap} (k:K2 h h'):∀ {n:Nat} {v:Value},Chn h n v→Chn h' n v
 | 0,_,e=>e
 | _+1,_,⟨a,o,vs,x,e,ho,hd,hx,c⟩=>
  let ⟨o',vs',ho',hd',hx'⟩:=k a o vs ho hd
  ⟨a,o',vs',x,e,ho',hd',hx'.trans hx,Chn.k2 k c⟩
end L2
namespace L2
open PySem PySem.Spec PyProof.Rows
section
variable {P:Program} {w:World} {H H':Hp} {h B:Heap}
theorem HOk.part (x:HOk P w H h) (k:∀ b u,H b≠none→h.get? b=some u→B.get? b=some u):HOk P w H B:=fun a o e=>
 (x a o e).stay (fun b u hb q=>k b u (fun z=>by rcases hb with rfl | y; (rw [e] at z; cases z); (rw [y] at z; cases z)) q) (fun _ q=>q) fun _ _ q=>q
theorem ObjOk.there {a:Addr} {o:HO} (x:ObjOk P w H h a o):∃ u,h.get? a=some u:=by
 cases o with
 | lst xs=>obtain ⟨_,_,_,_,e⟩:=x; exact ⟨_,e⟩
 | tup xs=>obtain ⟨_,_,_,o,e,_⟩:=x; exact ⟨_,e⟩
 | dK kvs=>obtain ⟨_,_,_,_,o,_,_,e,_⟩:=x; exact ⟨_,e⟩
 | dT kvs=>obtain ⟨_,_,_,_,o,_,_,e,_⟩:=x; exact ⟨_,e⟩
 | set S n=>obtain ⟨o,_,_,_,e,_⟩:=x; exact ⟨_,e⟩
 | ins C dx fs=>obtain ⟨_,_,_,e,_⟩:=x; exact ⟨_,e⟩
 | own y=>exact x
 | xd fs=>obtain ⟨_,⟨_,_,_,e,_⟩,_⟩:=x; exact ⟨_,e⟩
 | rng lo hi=>obtain ⟨_,_,_,e⟩:=x; exact ⟨_,e⟩
 | frz ob u=>obtain ⟨e,_⟩:=x; exact ⟨_,e⟩
 | tbl ps=>exact ⟨_,(show h.get? a=some _ from x)⟩
 | met f y=>exact ⟨_,(show h.get? a=some _ from x)⟩
 | ext φ=>obtain ⟨_,e,_⟩:=x; exact e
end
structure FliesB (P:Program) (w:World) (stack:List Env) (H:Hp) (h0:Heap) (H':Hp) (e:Addr) (cls:Value) (h:Heap):Prop where
 ex:∃ B a0,Heap.FlyingW B stack e cls a0 h∧(∀ b o,h0.get? b=some o→H b=none→b∉frs stack→B.get? b=some o)∧(∀ b o,h0.get? b=some o→b∉frs stack→∃ o',B.get? b=some o')∧HOk P w H' B
 slot:∀ b o,h0.get? b=some o→b∈frs stack→∃ sl,h.get? b=some { o with slots:=sl }
 free:∀ b o,h0.get? b=some o→H b=none→H' b=none
 tups:∀ b xs,H b=some (.tup xs)→H' b=some (.tup xs)
 frzs:∀ b o u,H b=some (.frz o u)→H' b=some (.frz o u)
 tbls:∀ b ps,H b=some (.tbl ps)→∃ more,H' b=some (.tbl (ps++more))
 new:h0.get? e=none
section
variable {P:Program} {w:World} {stack:List Env} {H H':Hp} {h0 h:Heap} {e:Addr} {cls:Value}
theorem FliesB.un (f:FliesB P w stack H h0 H' e cls h):Un (frs stack) [] H H' h0 h:=by
 obtain ⟨B,a0,⟨st,_,_,_⟩,k1,k2,_⟩:=f.ex
 refine ⟨fun b o q n hb _=>st b o (k1 b o q n hb),fun b o q _ hb _=>f.slot b o q hb,fun b o q n _=>f.free b o q n,fun b o q _=>?_,f.tups,f.frzs,f.tbls⟩
 by_cases hb:b∈frs stack
 ·obtain ⟨sl,z⟩:=f.slot b o q hb
  exact ⟨_,z⟩
 ·obtain ⟨o',z⟩:=k2 b o q hb
  exact ⟨o',st b o' z⟩
theorem FliesB.hok (f:FliesB P w stack H h0 H' e cls h):HOk P w H' h:=by
 obtain ⟨B,a0,⟨st,_,_,_⟩,_,_,k3⟩:=f.ex
 exact k3.kept st
theorem FliesB.out (f:FliesB P w stack H h0 H' e cls h):H' e=none:=by
 obtain ⟨B,a0,⟨st,n,_,_⟩,_,_,k3⟩:=f.ex
 cases q:H' e with
 | none=>rfl
 | some o=>
  obtain ⟨u,z⟩:=(k3 e o q).there
  rw [n] at z; cases z
theorem FliesB.go (f:FliesB P w stack H h0 H' e cls h):∃ B a0,Heap.FlyingW B stack e cls a0 h∧∀ h',Heap.FlyingW B stack e cls a0 h'→h.UpToSlots h'→FliesB P w stack H h0 H' e cls h':=by
 obtain ⟨B,a0,fl,k1,k2,k3⟩:=f.ex
 refine ⟨B,a0,fl,fun h' fl' up=>⟨⟨B,a0,fl',k1,k2,k3⟩,fun b o q hb=>?_,f.free,f.tups,f.frzs,f.tbls,f.new⟩⟩
 obtain ⟨sl,z⟩:=f.slot b o q hb
 obtain ⟨_,ob,ho,hd⟩:=fl.2.2.1.mem hb
 rw [z] at ho
 cases ho
 obtain ⟨sl',z'⟩:=up b _ z hd
 exact ⟨sl',z'⟩
end
structure sr (P:Program) (w:World) (stack:List Env) (H:Hp) (h0:Heap) (H':Hp) (e:Addr) (cls:Value) (h:Heap):Prop extends FliesB P w stack H h0 H' e cls h where
 chn:∃ n,Chn h n (.ref e)
section
variable {X:Cx} {pins:List (Addr × Obj)} {σ:St} {H H':Hp} {s s':Shared} {M:Model} {E:Value→Shared→Prop} {e:Addr} {cls:Value}
theorem Inv.neL (I:Inv X pins σ H s) {b:Addr} {o:Obj} (q:X.s₀.heap.get? b=some o):b≠X.env.locals:=Nat.ne_of_lt (Nat.lt_of_lt_of_le (Heap.lt_size q) I.ok.above)
theorem kr {vs:List Value} {h1:Heap} {Q:Unit→Shared→Prop} (I:Inv X pins σ H s) (hstk:X.stack=X.env::X.outer) (hf:X.env.frame=some X.env.locals) (hex:X.ex=[]) (hx:Heap.MadeExcOf s.heap h1 e cls vs)
  (hQ:∀ h',sr X.prog X.w X.outer X.H₀ X.s₀.heap H e cls h'→Q () { s with heap:=h' }):wpAny M X.A (leaving X.env (.ref e)) Q E { s with heap:=h1 }:=by
 have hfr:X.A.frames=some (X.env::X.outer):=by rw [← hstk]; exact I.ok.frames
 have hfs:frs X.stack=X.env.locals::frs X.outer:=by rw [hstk]; unfold frs; rw [List.filterMap_cons,hf]
 have hl:s.heap.FunFrames (PySem.W.hideAll s.heap (frs X.stack)) (X.env::X.outer):=by
  have z:=I.stack
  rw [hstk] at z
  refine PySem.W.funFrames_hide z fun env he a ha=>?_
  rw [hstk]
  exact List.mem_filterMap.mpr ⟨env,he,ha⟩
 have nx:∀ b,b∉X.ex:=fun b z=>by rw [hex] at z; cases z
 have nst:∀ b o,X.s₀.heap.get? b=some o→b∉frs X.outer→b∉frs X.stack:=fun b o q nb z=>by
  rw [hfs] at z
  rcases List.mem_cons.mp z with z | z
  ·exact I.neL q z
  ·exact nb z
 have c1:Chn h1 1 (.ref e):=by
  obtain ⟨t,he,_⟩:=hx.there
  exact ⟨e,_,_,.none,rfl,he,rfl,rfl,rfl⟩
 refine dI (uJ _ _) ?_
 refine PySem.wpAny_leaves_madeW (s:={ s with heap:=h1 }) (h:=s.heap) (base:=PySem.W.hideAll s.heap (frs X.stack)) hfr hf (fun b o q=>PySem.W.of_hideAll _ q) hl hx fun h' t x1 x2 x3 x4 k2=>hQ h' ⟨⟨⟨_,_,x1,fun b o q n nb=>?_,fun b o q nb=>?_,?_⟩,fun b o q hb=>?_,fun b o q n=>I.base.free b o q n (nx b),I.base.tups,I.base.frzs,I.base.tbls,?_⟩,1,c1.k2 k2⟩
 ·exact PySem.W.hideAll_get _ (I.base.keep b o q n nb (nx b)) (nst b o q nb)
 ·obtain ⟨o',z⟩:=I.base.there b o q (nx b)
  exact ⟨o',PySem.W.hideAll_get _ z (nst b o q nb)⟩
 ·exact I.hok.part fun b u hb q=>PySem.W.hideAll_get _ q fun z=>hb (I.stkFree b z)
 ·obtain ⟨sl,z⟩:=I.base.slot b o q (I.ok.frf b hb) hb (nx b)
  obtain ⟨_,ob,ho,hd⟩:=I.funs.mem hb
  rw [z] at ho
  cases ho
  obtain ⟨sl',z'⟩:=x4 b _ (hx.keeps b _ z) hd
  exact ⟨sl',z'⟩
 ·cases q:X.s₀.heap.get? e with
  | none=>rfl
  | some o=>
   obtain ⟨o',z⟩:=I.base.there e o q (nx e)
   rw [hx.new] at z; cases z
theorem ZA {Q:Unit→Shared→Prop} (I:Inv X pins σ H s) (hstk:X.stack=X.env::X.outer) (hf:X.env.frame=some X.env.locals) (hex:X.ex=[]) (f:sr X.prog X.w X.stack H s.heap H' e cls s'.heap)
  (hQ:∀ h',sr X.prog X.w X.outer X.H₀ X.s₀.heap H' e cls h'→Q () { s' with heap:=h' }):wpAny M X.A (leaving X.env (.ref e)) Q E s':=by
 have hfr:X.A.frames=some (X.env::X.outer):=by rw [← hstk]; exact I.ok.frames
 have hfs:frs X.stack=X.env.locals::frs X.outer:=by rw [hstk]; unfold frs; rw [List.filterMap_cons,hf]
 have nx:∀ b,b∉X.ex:=fun b z=>by rw [hex] at z; cases z
 have nst:∀ b o,X.s₀.heap.get? b=some o→b∉frs X.outer→b∉frs X.stack:=fun b o q nb z=>by
  rw [hfs] at z
  rcases List.mem_cons.mp z with z | z
  ·exact I.neL q z
  ·exact nb z
 obtain ⟨B,a0,fl,k1,k2,k3⟩:=f.ex
 have fl':=fl
 rw [hstk] at fl'
 obtain ⟨cn,ch⟩:=f.chn
 refine dI (uJ _ _) ?_
 refine PySem.wpAny_leaves_onW hfr hf fl' fun h' x1 x2 k2'=>hQ h' ⟨⟨⟨B,a0,x1,fun b o q n nb=>?_,fun b o q nb=>?_,k3⟩,fun b o q hb=>?_,fun b o q n=>?_,fun b xs q=>f.tups b xs (I.base.tups b xs q),fun b o u q=>f.frzs b o u (I.base.frzs b o u q),fun b ps q=>?_,?_⟩,cn,ch.k2 k2'⟩
 ·exact k1 b o (I.base.keep b o q n nb (nx b)) (I.base.free b o q n (nx b)) (nst b o q nb)
 ·obtain ⟨o',z⟩:=I.base.there b o q (nx b)
  exact k2 b o' z (nst b o q nb)
 ·obtain ⟨sl,z⟩:=I.base.slot b o q (I.ok.frf b hb) hb (nx b)
  have hb':b∈frs X.stack:=by rw [hfs]; exact List.mem_cons_of_mem _ hb
  obtain ⟨sl',z'⟩:=f.slot b _ z hb'
  obtain ⟨_,ob,ho,hd⟩:=fl.2.2.1.mem hb'
  rw [z'] at ho
  cases ho
  obtain ⟨sl2,z2⟩:=x2 b _ z' hd
  exact ⟨sl2,z2⟩
 ·obtain ⟨o',z⟩:=I.base.there b o q (nx b)
  exact f.free b o' z (I.base.free b o q n (nx b))
 ·obtain ⟨m1,e1⟩:=I.base.tbls b ps q
  obtain ⟨m2,e2⟩:=f.tbls b _ e1
  exact ⟨m1++m2,by rw [e2,Array.append_assoc]⟩
 ·cases q:X.s₀.heap.get? e with
  | none=>rfl
  | some o=>
   obtain ⟨o',z⟩:=I.base.there e o q (nx e)
   rw [f.new] at z; cases z
end
def ExcK (K:PySem.W.Frag) (C:Addr):Prop:=PySem.W.excIn K C [.type "ValueError",.type "Exception",.type "BaseException",.type "object"] "ValueError.__new__"=true
theorem eK {K:PySem.W.Frag} {h:Heap} {C:Addr} (X:K.In h) (q:ExcK K C):∃ bm N nm qn bs hdct sn sub ab col dd k0 k1 k2 k3 k5 mN,h.get? C=some (excClassObj nm qn C N bs bm hdct sn sub ab col dd k0 k1 k2 k3 k5 "ValueError.__new__")∧h.Ns N mN∧mN "__init__"=none∧OwnTail h [.type "ValueError",.type "Exception",.type "BaseException",.type "object"] bm:=by
 unfold ExcK PySem.W.excIn at q
 split at q
 ·rename_i d1 cl s1 look
  split at q
  ·rename_i C1 tl w0 w1 w2 w3 nid w5 em es
   simp only [Bool.and_eq_true,Bool.not_eq_true',beq_iff_eq] at q
   obtain ⟨⟨⟨⟨⟨rfl,rfl⟩,q1⟩,q2⟩,q3⟩,q4⟩:=q
   obtain ⟨a1,a2,a3,a4,a5,a6,a7,a8,a9,b1,b2⟩:=cl
   dsimp only at em q1 q3 q4
   subst em q1
   obtain rfl:s1=#[w0,w1,w2,w3,some (.builtin "ValueError.__new__"),w5]:=by
    obtain ⟨l⟩:=s1
    simp only at es; rw [es]
   exact ⟨tl,a4,a1,a5,a2,a6,a7,a8,a9,b1,d1,w0,w1,w2,w3,w5,_,X _ _ look,.of_isNs (PySem.W.isNs_of_in X q3),PySem.W.nsMap_none_of_in X q3 q4,PySem.W.tail_of_in X q2⟩
  ·cases q
 ·cases q
def XOk (X:Cx) (C:Addr) (H:Hp):Prop:=∀ (pins:List (Addr × Obj)) (σ:St) (s:Shared) (h1:Heap) (e:Addr) (vs:List Value),Inv X pins σ H s→Heap.MadeExcOf s.heap h1 e (.ref C) vs→X.xe (.ref e) { s with heap:=h1 }
def cq (X:Cx) (C:Addr) (te:TE):TS:=fun _ σ H=>te σ H fun _ H1=>XOk X C H1
theorem nA {X:Cx} {C:Addr} {x:Str} {a:Expr} {te:TE} {np cpos pos:Pos} (hc:X.calm=true) (hg:Gl X x) (hm:X.mg x=some (.ref C)) (hC:ExcK X.K C) (ha:PE X a te)
  (hdb:(x == ("__debug__":Str))=false:=by decide) (he:starEach [a] X.env=(false,eval a X.env)::starEach [] X.env:=by rfl):PS X (.Raise (some (.Call (.Name x np) [a] [] cpos)) none pos) (cq X C te):=by
 intro pins s σ H D I h
 obtain ⟨bm,N,nm,qn,bs,hdct,sn,sub,ab,col,dd,k0,k1,k2,k3,k5,mN,hO,hN,hni,T⟩:=eK I.ok.mod.kin hC
 refine PySem.wpAny_Raise_call_subU (C:=C) (nm:=nm) (q:=qn) (N:=N) (bs:=bs) (bm:=bm) (hdct:=hdct) (sn:=sn) (sub:=sub) (ab:=ab) (col:=col) (dd:=dd) (k0:=k0) (k1:=k1) (k2:=k2) (k3:=k3) (k5:=k5)
  PySem.F.excBase_ValueError (by decide) PySem.F.excBase_ValueError (mN:=mN) (T.hasType PySem.F.excBase_ValueError.hasBase) (I.ok.hd hc) (by rw [he]; rfl) hni (xS I hg hm ⟨rfl,?_⟩ hdb)
 have z:=zx ha zP he cpos pins s σ H (fun us H1=>us.length=1∧XOk X C H1) I (show te σ H (fun x H1=>[x].length=1∧XOk X C H1) from by
  have h:te σ H (fun _ H1=>XOk X C H1):=h
  simpa using h)
 rw [he] at z ⊢
 refine Calls.evalArgs_plain (thn z fun vs s1 ⟨us,H1,I1,r,hl,q⟩=>⟨rfl,?_,I1.bk _ _ hO,hN.keeps I1.bk,T.keeps I1.bk,fun h' e hx=>q pins σ s1 h' e vs I1 hx⟩)
 show vs.length≤_
 rw [← r.length,hl]
 decide
def CX1 (P:Program) (w:World):CXT:=fun outer H s E e s'=>∃ a C H',e=.ref a∧s'.os=s.os∧AllBare s'.gens∧sr P w outer H s.heap H' a (.ref C) s'.heap∧E (.ref C) none H'
section
variable {P:Program} {w:World} {K:PySem.W.Frag} {mg:Str→Option Value} {base:Heap} {N:List Str} {qual:Str} {scope:Scope} {f C:Addr} {cd:Value} {A:Around} {outer:List Env} {s:Shared} {H H1:Hp} {E:XK}
theorem cc (h:E (.ref C) none H1):XOk (yb (CX1 P w) P w K mg base N qual scope f cd A outer s H E) C H1:=fun pins σ s' h1 e vs I hx=>
 kr (X:=yb (CX1 P w) P w K mg base N qual scope f cd A outer s H E) I rfl rfl rfl hx fun h' fl=>⟨e,C,H1,rfl,I.os,I.bare,fl,h⟩
theorem Ws:PassesOwn (model P w) (A.deeper (envOfC qual scope s.heap.objs.size f cd)) (envOfC qual scope s.heap.objs.size f cd) (yb (CX1 P w) P w K mg base N qual scope f cd A outer s H E).xe:=PassesOwn.leaving
end
section
variable {X:Cx} {CX:CXT} {k:Nat} {f C:Addr} {fd:FuncData} {ps:List Str} {sp:Sp} {dvs:List V} {ds:List Value} {x y:Str} {p pos:Pos} {e:Expr} {es:List Expr} {t:TA}
def XPx (X:Cx) (pins:List (Addr × Obj)) (σ:St) (E:XK) (e:Value) (s':Shared):Prop:=∃ a C H' H1 s1,e=.ref a∧Inv X pins σ H1 s1∧s'.os=s1.os∧AllBare s'.gens∧sr X.prog X.w X.stack H1 s1.heap H' a (.ref C) s'.heap∧E (.ref C) none H'
end
abbrev TB:=(St→Hp→Prop)→XK→St→Hp→Prop
def PB (X:Cx) (body:List Stmt) (t:TB):Prop:=∀ (pins:List (Addr × Obj)) (s:Shared) (σ:St) (H:Hp) (nx:St→Hp→Prop) (E:XK),Inv X pins σ H s→t nx E σ H→
 wpAny (model X.prog X.w) X.A (execs body X.env) (fun f s'=>f=.next∧∃ σ' H',Inv X pins σ' H' s'∧nx σ' H') (XPx X pins σ E) s
def Cx.inH (X:Cx) (a:Addr):Cx:={ X with A:=X.A.mark (some (.ref a)),calm:=false,xe:=fun _ _=>False }
section
variable {X:Cx} {pins:List (Addr × Obj)} {σ:St} {H:Hp} {s:Shared} {a:Addr}
theorem Inv.inH (I:Inv X pins σ H s) (a:Addr):Inv (X.inH a) pins σ H s:=
 ⟨⟨I.ok.mod,I.ok.kind,I.ok.glob,I.ok.blt,I.ok.above,I.ok.inj,I.ok.has,I.ok.cab,fun z=>Bool.noConfusion z,I.ok.frames,I.ok.stk,I.ok.exf,I.ok.bs,I.ok.bsz,I.ok.noex,I.ok.exfs,I.ok.funs,I.ok.frf⟩,I.os,I.bare,I.base,I.loc,I.cell,I.free,I.freeC,I.pin,I.hok,I.len⟩
theorem Inv.outH (ok:X.Ok) (I:Inv (X.inH a) pins σ H s):Inv X pins σ H s:=⟨ok,I.os,I.bare,I.base,I.loc,I.cell,I.free,I.freeC,I.pin,I.hok,I.len⟩
theorem SP.outH {D:Ends} {f:Flow} {s':Shared} (ok:X.Ok) (h:SP (X.inH a) pins D f s'):SP X pins D f s':=by
 cases f with
 | next=>obtain ⟨σ',H',I,q⟩:=h; exact ⟨σ',H',I.outH ok,q⟩
 | brk=>obtain ⟨σ',H',I,q⟩:=h; exact ⟨σ',H',I.outH ok,q⟩
 | cont=>obtain ⟨σ',H',I,q⟩:=h; exact ⟨σ',H',I.outH ok,q⟩
 | ret u=>obtain ⟨v,σ',H',I,r,q⟩:=h; exact ⟨v,σ',H',I.outH ok,r,q⟩
end
section
variable {X:Cx} {t:TB} {th:TS} {y:Str} {c:Value} {py hpos pos:Pos} {body:List Stmt} {b₀:Stmt} {suite:List Stmt}
def Wn (K:PySem.W.Frag) (c:Value) (t:TB) (th:TS):TS:=fun D σ H=>t D.nx (fun cls _ H'=>PySem.W.exmOne K cls c=some true∧th D σ H') σ H
theorem Wr (hstk:X.stack=X.env::X.outer) (hf:X.env.frame=some X.env.locals) (hb:PB X body t) (hh:∀ a,PSs (X.inH a) (b₀::suite) th) (hg:Gl X y) (hm:X.mg y=some c) (hd:(y == ("__debug__":Str))=false:=by decide):
  PS X (.Try body [.ExceptHandler (some (.Name y py)) none (b₀::suite) hpos] [] [] pos) (Wn X.K c t th):=by
 intro pins s σ H D I h
 have hfr:X.A.frames=some (X.env::X.outer):=by rw [← hstk]; exact I.ok.frames
 refine wpAny_Try_except (wpAny_mono (hb pins s σ H _ _ I h) (fun f s1 ⟨ef,σ',H',I',q⟩=>?_) fun e s1 hx=>?_)
 ·subst ef
  exact wpAny_execs_nil ⟨σ',H',I',q⟩
 ·obtain ⟨a,C,H',H1,s2,rfl,I1,os,bare,fl,hex,hth⟩:=hx
  obtain ⟨B,a0,fl0,go⟩:=fl.go
  have inv:∀ h',Heap.FlyingW B X.stack a (.ref C) a0 h'→s1.heap.UpToSlots h'→Inv X pins σ H' { s1 with heap:=h' }:=fun h' x1 x2=>
   have f':=go h' x1 x2
   I1.call' (s':={ s1 with heap:=h' }) os f'.un f'.hok bare (fun _ z=>nomatch z)
  rw [hstk] at fl0
  refine wpAny_looks_onW hfr hf fl0 fun h4 held4 up4=>?_
  refine wpAny_landsW held4 fun h5 fl5 up5=>?_
  have I5:=inv h5 (by rw [hstk]; exact fl5) (up4.trans up5)
  obtain ⟨ob,hob,hoc⟩:=fl5.there
  have ty:PySem.W.Looks (model X.prog X.w) h5 (typeOf (.ref a)) (.ref C):=by rw [← hoc]; exact (PySem.W.Looks.ld hob).andThen .now
  refine wpAny_handleBy_cons (codeAny_handlers_test (xS (X:=X.inH a) (I5.inH a) hg hm ((PySem.W.exm_one I5.kIn ty hex).here ?_) hd)) (by intro q; cases q)
  refine codeAny_handlers_suite ?_
  refine lands_againW fl5 fun h6 fl6 up6=>?_
  have I6:=inv h6 (by rw [hstk]; exact fl6) ((up4.trans up5).trans up6)
  exact wpAny_mono (hh a pins _ σ H' D (I6.inH a) hth) (fun f s3 q=>SP.outH I.ok q) fun _ _ z=>z.elim
end
section
variable {X:Cx} {pins:List (Addr × Obj)} {σ:St} {H:Hp} {s:Shared}
theorem xO {M:Model} {A:Around} {E:Value→Shared→Prop} {i:Nat} {x:Str} {pos:Pos} {Q:Unit→Shared→Prop} (I:Inv X pins σ H s) (hN:X.N.Nodup) (hi:X.N[i]? = some x) (hx:X.env.scope.names.lookup x=some .local)
  (h:∀ s',Inv X pins (σ.set i none) H s'→Q () s'):wpAny M A (do bindName X.env x .none; unbindBehindTheSuite X.env x pos) Q E s:=by
 have hcls:(X.env.scope.kind == .class || (X.env.scope.kind == .module && X.env.locals != X.env.globals))=false:=by rw [I.ok.kind]; rfl
 have hiσ:i<σ.length:=by rw [I.len]; exact (List.getElem?_eq_some_iff.mp hi).1
 refine wpAny_bind (wpAny_bindName (xw I hN hi (.inl hx) (v:=V.non) (u:=Value.none) rfl (fun s1 I1=>?_) (.inr hx)))
 obtain ⟨m,hn,hl⟩:=id I1.loc
 have hv:∃ v,m x=some v:=by
  obtain ⟨u,_,q⟩:=hl i x V.non hi (List.getElem?_set_self hiσ) (.inl hx)
  rcases q with ⟨_,z⟩ | ⟨k,_⟩
  ·exact ⟨u,z⟩
  ·have k:X.env.scope.names.lookup x=some .cell∨X.env.scope.names.lookup x=some .free:=k
   rw [hx] at k
   rcases k with k | k <;> cases k
 obtain ⟨v,hv⟩:=hv
 unfold unbindBehindTheSuite
 refine wpAny_onRaise (wpAny_unbindName_local hx hn hv hcls fun h' u hn' hs=>h _ ?_)
 obtain ⟨oL,_,_,hoL,_⟩:=id hn
 have cne:=I1.cne
 refine ⟨I1.ok,I1.os,I1.bare,⟨fun b o e n hb hx=>?_,fun b o e n hb hx=>?_,I1.base.free,fun b o e hx=>?_,I1.base.tups,I1.base.frzs,I1.base.tbls⟩,⟨_,hn',fun j y v' e1 e2 e3=>?_⟩,fun y c e=>?_,I1.free,I1.freeC,fun p hp=>?_,fun b ob e=>?_,by rw [List.length_set]; exact I.len⟩
 ·exact (hs.2 b (Nat.ne_of_lt (Nat.lt_of_lt_of_le (Heap.lt_size e) I1.ok.above))).trans (I1.base.keep b o e n hb hx)
 ·obtain ⟨sl,e1⟩:=I1.base.slot b o e n hb hx
  exact ⟨sl,(hs.2 b (Nat.ne_of_lt (Nat.lt_of_lt_of_le (Heap.lt_size e) I1.ok.above))).trans e1⟩
 ·obtain ⟨o',e1⟩:=I1.base.there b o e hx
  exact ⟨o',(hs.2 b (Nat.ne_of_lt (Nat.lt_of_lt_of_le (Heap.lt_size e) I1.ok.above))).trans e1⟩
 ·by_cases hj:j=i
  ·subst hj
   rw [List.getElem?_set_self hiσ] at e2
   cases e2
  ·rw [List.getElem?_set_ne (Ne.symm hj)] at e2
   obtain ⟨u',r',q⟩:=hl j y v' e1 (by rw [List.getElem?_set_ne (Ne.symm hj)]; exact e2) e3
   refine ⟨u',r',?_⟩
   rcases q with ⟨k,e⟩ | ⟨k,c,e,z⟩
   ·refine .inl ⟨k,?_⟩
    have:y≠x:=fun e=>hj (uA hN e1 (e ▸ hi))
    simp [this,e]
   ·exact .inr ⟨k,c,e,z.sameBut hs (cne y c e)⟩
 ·obtain ⟨w',z⟩:=I1.cell y c e
  exact ⟨w',z.sameBut hs (cne y c e)⟩
 ·obtain ⟨e,n,ne,nf,d⟩:=I1.pin p hp
  exact ⟨(hs.2 p.1 ne).trans e,n,ne,nf,d⟩
 ·refine (I1.hok b ob e).stay (fun c w' hc q=>(hs.2 c ?_).trans q) (fun _ q=>q) fun _ _ q=>q
  rintro rfl
  have fr:=I1.free
  rcases hc with rfl | hc
  ·rw [fr] at e; cases e
  ·rw [fr] at hc; cases hc
theorem FliesB.track {P:Program} {w:World} {stack:List Env} {H':Hp} {h0 h:Heap} {e C:Addr} (f:FliesB P w stack H h0 H' e (.ref C) h):Un (frs stack) [] H (upd H' e (.ext (OD.excAt e C))) h0 h∧HOk P w (upd H' e (.ext (OD.excAt e C))) h:=by
 have u:=f.un
 have out:=f.out
 obtain ⟨B,a0,fl,_⟩:=f.ex
 obtain ⟨ob,hob,hoc⟩:=fl.there
 have ne0:∀ b o,h0.get? b=some o→b≠e:=fun b o q z=>by rw [z,f.new] at q; cases q
 have ne1:∀ b o,H' b=some o→b≠e:=fun b o q z=>by rw [z,out] at q; cases q
 refine ⟨⟨u.keep,u.slot,fun b o q n hx=>by rw [zl (ne0 b o q)]; exact u.free b o q n hx,u.there,fun b xs q=>by rw [zl (ne1 b _ (u.tups b xs q))]; exact u.tups b xs q,fun b o v q=>by rw [zl (ne1 b _ (u.frzs b o v q))]; exact u.frzs b o v q,fun b ps q=>?_⟩,fun b o q=>?_⟩
 ·obtain ⟨m,z⟩:=u.tbls b ps q
  exact ⟨m,by rw [zl (ne1 b _ z)]; exact z⟩
 ·by_cases hb:b=e
  ·subst hb
   rw [zh] at q
   cases q
   exact ⟨⟨ob,hob,hoc⟩,⟨ob,hob⟩,fun h1 h2 ⟨o,ho,hc⟩ k=>⟨o,k o ho,hc⟩⟩
  ·rw [zl hb] at q
   exact (f.hok b o q).stay (fun _ _ _ z=>z) (fun c z=>by rw [zl (ne1 c _ z)]; exact z) fun c xs z=>by rw [zl (ne1 c _ z)]; exact z
end
section
variable {X:Cx} {t:TB} {th:TS} {y n:Str} {j:Nat} {c:Value} {py hpos pos:Pos} {body:List Stmt} {b₀:Stmt} {suite:List Stmt}
def Ends.off (D:Ends) (j:Nat):Ends:=⟨fun σ H=>D.nx (σ.set j none) H,D.rt,fun σ H=>D.bk (σ.set j none) H,fun σ H=>D.ct (σ.set j none) H⟩
def cm (K:PySem.W.Frag) (c:Value) (j:Nat) (t:TB) (th:TS):TS:=fun D σ H=>t D.nx (fun cls _ H'=>PySem.W.exmOne K cls c=some true∧∀ a C,cls=.ref C→H' a=none→th (D.off j) (σ.set j (some (.ref a))) (upd H' a (.ext (OD.excAt a C)))) σ H
theorem nz (hstk:X.stack=X.env::X.outer) (hf:X.env.frame=some X.env.locals) (hN:X.N.Nodup) (hj:X.N[j]? = some n) (hn:X.env.scope.names.lookup n=some .local) (hb:PB X body t) (hh:∀ a,PSs (X.inH a) (b₀::suite) th) (hg:Gl X y) (hm:X.mg y=some c)
  (hd:(y == ("__debug__":Str))=false:=by decide):PS X (.Try body [.ExceptHandler (some (.Name y py)) (some n) (b₀::suite) hpos] [] [] pos) (cm X.K c j t th):=by
 intro pins s σ H D I h
 have hfr:X.A.frames=some (X.env::X.outer):=by rw [← hstk]; exact I.ok.frames
 refine wpAny_Try_except (wpAny_mono (hb pins s σ H _ _ I h) (fun f s1 ⟨ef,σ',H',I',q⟩=>?_) fun e s1 hx=>?_)
 ·subst ef
  exact wpAny_execs_nil ⟨σ',H',I',q⟩
 ·obtain ⟨a,C,H',H1,s2,rfl,I1,os,bare,fl,hex,hth⟩:=hx
  obtain ⟨B,a0,fl0,go⟩:=fl.go
  have inv:∀ h',Heap.FlyingW B X.stack a (.ref C) a0 h'→s1.heap.UpToSlots h'→Inv X pins σ H' { s1 with heap:=h' }:=fun h' x1 x2=>
   have f':=go h' x1 x2
   I1.call' (s':={ s1 with heap:=h' }) os f'.un f'.hok bare (fun _ z=>nomatch z)
  rw [hstk] at fl0
  refine wpAny_looks_onW hfr hf fl0 fun h4 held4 up4=>?_
  refine wpAny_landsW held4 fun h5 fl5 up5=>?_
  have I5:=inv h5 (by rw [hstk]; exact fl5) (up4.trans up5)
  obtain ⟨ob,hob,hoc⟩:=fl5.there
  have ty:PySem.W.Looks (model X.prog X.w) h5 (typeOf (.ref a)) (.ref C):=by rw [← hoc]; exact (PySem.W.Looks.ld hob).andThen .now
  refine wpAny_handleBy_cons (codeAny_handlers_test (xS (X:=X.inH a) (I5.inH a) hg hm ((PySem.W.exm_one I5.kIn ty hex).here ?_) hd)) (by intro q; cases q)
  refine codeAny_handlers_suite_as ?_
  refine lands_againW fl5 fun h6 fl6 up6=>?_
  have f6:=go h6 (by rw [hstk]; exact fl6) ((up4.trans up5).trans up6)
  have I6:Inv X pins σ (upd H' a (.ext (OD.excAt a C))) { s1 with heap:=h6 }:=I1.call' (s':={ s1 with heap:=h6 }) os f6.track.1 f6.track.2 bare (fun _ z=>nomatch z)
  refine xw (X:=X.inH a) (v:=V.ref a) (I6.inH a) hN hj (.inl hn) rfl (fun s7 I7=>?_) (.inr hn)
  refine wpAny_mono (hh a pins s7 _ _ (D.off j) I7 (hth a C rfl f6.out)) (fun f s3 q=>?_) fun _ _ z=>z.elim
  have q:=SP.outH I.ok q
  cases f with
  | next=>obtain ⟨σ',H',I',q⟩:=q; exact xO I' hN hj hn fun s' I''=>⟨_,H',I'',q⟩
  | brk=>obtain ⟨σ',H',I',q⟩:=q; exact xO I' hN hj hn fun s' I''=>⟨_,H',I'',q⟩
  | cont=>obtain ⟨σ',H',I',q⟩:=q; exact xO I' hN hj hn fun s' I''=>⟨_,H',I'',q⟩
  | ret u=>obtain ⟨v,σ',H',I',r,q⟩:=q; exact xO I' hN hj hn fun s' I''=>⟨v,_,H',I'',r,q⟩
end
end L2
namespace L2
open PySem PySem.Spec PyProof.Rows PySem.W PySem.Builtin PySem.Builtin.ObjectAttr PySem.Builtin.Getset_descriptor
structure x8 (K:PySem.W.Frag) (C:Addr):Prop where
 ga:PySem.W.findIn K (.ref C) "__getattribute__"=some (some (.builtin "BaseException.__getattribute__"))
 gn:PySem.W.findIn K (.ref C) "__getattr__"=some none
 ha:PySem.W.findIn K (.ref C) "__class__"=some (some (.builtin "object.__class__"))
 hn:PySem.W.specialIn K (.builtin "object.__class__") "__get__"=some (some (.builtin "getset_descriptor.__get__"))
 htk:PySem.W.takesIn K (.builtin "object.__class__")=some true
 hm:PySem.W.mroIn K C (.type "object")=some true
 hb:PySem.W.mroIn K C (.type "BaseException")=some true
section
variable {prog:Program} {w:World} {A:Around} {E:Value→Shared→Prop} {s:Shared} {K:PySem.W.Frag} {a C:Addr} {oa:Obj}
theorem eM {R:Result→Shared→Prop} {tp:Value} (X:K.In s.heap) (e1:s.heap.get? a=some oa) (e2:oa.cls=.ref C) (hm:mroIn K C (.type "object")=some true) (h:R (.ok (.ret (.ref C))) s):
  codeAny (model prog w) A (.call (.builtin "getset_descriptor.__get__") ⟨[.builtin "object.__class__",.ref a,tp],[]⟩) R s:=by
 obtain ⟨h0,gs,dn,tn,oo⟩:=s
 have e1:h0.get? a=some oa:=e1
 have Lt:Looks (model prog w) h0 (typeOf (.ref a)) (.ref C):=e2 ▸ (Looks.ld e1).andThen .now
 have Lm:=looks_mroIn (M:=model prog w) X hm
 refine codeAny_call_builtin KF.slot_gs.plain KF.entry_gs (KF.slot_gs.check (model prog w) _ _ _ _ _ _ _ KF.type_class (KF.args_gs _ _ _) ?_)
 unfold Builtin.«getset_descriptor.__get__» descrGet; rw [dga_obj]
 refine wpAny_bind (wpAny_pure ?_); unfold descrGetter descrCheckInstance descrNameAndClass isInstance
 simp only [KF.owner_class]
 repeat lk
 refine ⟨Code.quiet_builtin _ (by decide +kernel),codeAny_builtin KF.entry_class (by
  unfold Builtin.«object.__class__» shownTypeOf
  repeat lk
  exact h)⟩
theorem o6 {Q:Option Value→Shared→Prop} (O:x8 K C) (X:K.In s.heap) (e1:s.heap.get? a=some oa) (e2:oa.cls=.ref C)
  (h:Q (some (.ref C)) { s with toks:=s.toks+1 }):wpAny (model prog w) A (getAttr? (.ref a) "__class__") Q E s:=by
 obtain ⟨h0,gs,dn,tn,oo⟩:=s
 have Lt:Looks (model prog w) h0 (typeOf (.ref a)) (.ref C):=e2 ▸ (Looks.ld e1).andThen .now
 have La:=looks_findIn (M:=model prog w) X O.ga
 have Ln:=looks_findIn (M:=model prog w) X O.gn
 have Lf:Looks (model prog w) h0 (Builtin.ObjectAttr.find (.ref a) (.ref C) "__class__") (.bind (.builtin "getset_descriptor.__get__") (.builtin "object.__class__")):=
  (looks_findIn X O.ha).andThen ((looks_specialIn X O.hn).andThen ((show Looks _ h0 (Builtin.ObjectAttr.dataDescriptor? (some (.builtin "object.__class__")) (some (.builtin "getset_descriptor.__get__"))) (some (.builtin "getset_descriptor.__get__",.builtin "object.__class__")) from (looks_takesIn X O.htk).andThen .now).andThen (Looks.tag .now)))
 unfold getAttr? getAttrBy? getAttrBy
 refine wpAny_bind (wpAny_mkText (wpAny_bind (wpAny_attempt (wpAny_holding (wpAny_bind (Lt.at (wpAny_bind (La.at ?_))))))))
 show wpAny _ _ (getAttrByItsOwn _ _ _ _ _ _) _ _ _
 unfold getAttrByItsOwn hookBefore
 refine wpAny_bind (show wpAny _ _ (typeLookup _ _) _ _ _ from Ln.at (wpAny_bind (wpAny_attempt (wpAny_holding (show wpAny _ _ (boundAndCalled _ _ _) _ _ _ from ?_)))))
 unfold boundAndCalled
 refine wpAny_bind (wpAny_of_eq (PySem.F.attrBase_ValueError.ga.bind (.ref a)) ?_)
 have Lb:=looks_mroIn (M:=model prog w) X O.hb
 refine wpAny_call (codeAny_call_builtin PySem.F.attrBase_ValueError.ga.plain PySem.F.entry_bexc_ga ?_)
 have hk1:builtinKind "BaseException.__getattribute__"=some .slot:=by decide +kernel
 have hk2:splitId "BaseException.__getattribute__"=some ("BaseException","__getattribute__"):=by decide +kernel
 have hk3:=PySem.F.args_bexc_ga (.ref a) (.str "__class__" tn)
 simp only [checkBuiltinCall,hk1,hk2]
 unfold isInstance
 refine wpAny_bind (wpAny_bind (Lt.at (Lb.at ?_)))
 have hid:∃ z,z=oa∧h0.get? a=some z:=⟨oa,rfl,e1⟩
 clear e1
 repeat (any_goals (first | assumption | wp_step))
 obtain ⟨z,rfl,e1⟩:=hid
 refine wpAny_loadPart_at e1 ?_
 refine wpAny_pure ?_
 rw [e2]
 refine wpAny_bind (Lf.at ?_)
 show wpAny _ _ (holding [Value.builtin "object.__class__"] (call (Value.builtin "getset_descriptor.__get__") [Value.builtin "object.__class__",Value.ref a,Value.ref C]) >>= ret) _ _ _
 exact wpAny_bind (wpAny_holding (wpAny_call (eM (s:=⟨h0,gs,dn,tn+1,oo⟩) X e1 e2 O.hm (wpAny_pure (handed_on rfl (wpAny_pure h))))))
end
theorem tZ {K:PySem.W.Frag} {C:Addr} {b:Value} {r:Bool} (e:mroIn K C b=some r):∃ c d cd sl,K.lookup C=some ⟨c,d,.cls cd,sl⟩:=by
 unfold mroIn clsIn at e
 revert e
 cases q:K.lookup C with
 | none=>intro e; simp at e
 | some o=>
  obtain ⟨c,d,dt,sl⟩:=o
  cases dt <;> intro e <;> first | exact ⟨_,_,_,_,rfl⟩ | simp at e
theorem l_ {K:PySem.W.Frag} {a C:Addr} (O:x8 K C):KitX K (.ref a) (.ref C) (OD.excAt a C) where
 ty:=fun _ _ _ ⟨_,e1,e2⟩=>e2 ▸ (Looks.ld e1).andThen .now
 it:=fun _ _ X _=>by
  obtain ⟨c,d,cd,sl,hl⟩:=tZ O.hm
  intro A1 Q1 E1 s1 k1 q1
  unfold isType loadHead
  exact wpAny_bind (wpAny_loadPart (k1 _ _ (X _ _ hl)) (wpAny_pure q1))
 ne:=fun h tp dd its n sl X htp=>by
  obtain ⟨c,d,cd,sl1,hl⟩:=tZ O.hm
  refine Bool.eq_false_iff.mpr fun q=>?_
  have e:C=tp:=Value.ref.inj (eq_of_beq q)
  rw [e] at hl
  have z:=(X _ _ hl).symm.trans htp; cases z
 ca:=fun X ⟨_,e1,e2⟩ k=>o6 O X e1 e2 k
end L2
namespace OD
open PySem PySem.Spec PyProof.Rows L2
variable {Z:Hp}
def XOn (X:Cx) (C:Addr) (H':Hp):Prop:=∀ (pins:List (Addr × Obj)) (σ:L2.St) (H:Hp) (s:Shared) (a:Addr) (s':Shared),Inv X pins σ H s→s'.os=s.os→AllBare s'.gens→sr X.prog X.w X.stack H s.heap H' a (.ref C) s'.heap→X.xe (.ref a) s'
def Ecan (X:Cx):XK:=fun cls _ H'=>∃ C,cls=.ref C∧XOn X C H'
theorem pass_can {X:Cx}:vE (CX1 X.prog X.w) X (Ecan X):=fun pins σ H s e s' I ⟨a,C,H',ee,os,bare,fl,C',ec,h⟩=>by
 cases ec
 subst ee
 exact h pins σ H s a s' I os bare fl
def Rz (X:Cx) (C:Addr):Prop:=∀ H',Same (Zx X) H'→XOk X C H'∧XOn X C H'
section
variable {P:Program} {w:World} {K:PySem.W.Frag} {mg:Str→Option Value} {base:Heap} {N:List Str} {qual:Str} {scope:Scope} {f C:Addr} {cd:Value} {A:Around} {outer:List Env} {s:Shared} {H H1:Hp} {E:XK}
theorem nq (h:∀ H',Same H H'→E (.ref C) none H'):Rz (yb (CX1 P w) P w K mg base N qual scope f cd A outer s H E) C:=fun H' z=>by
 rw [qg] at z
 refine ⟨cc (h H' z),fun pins σ H2 s2 a s' I os bare fl=>?_⟩
 exact ZA (X:=yb (CX1 P w) P w K mg base N qual scope f cd A outer s H E) I rfl rfl rfl fl fun h' fl'=>⟨a,C,H',rfl,os.trans I.os,bare,fl',h H' z⟩
end
abbrev z5:=List Dt→(Dt→Prop)→(Addr→Prop)→Prop
def xY (K:PySem.W.Frag) (S:z5):Sp:=fun vs H Q E=>∃ (W:Vw) (ds:List Dt) (Qd:Dt→Prop) (Ed:Addr→Prop),W.h=H∧AllIs K W.g ds vs∧S ds Qd Ed∧(∀ d v W',Le W W'→Is K W'.g d v→Qd d→Q v W'.h)∧∀ C H',Same W.h H'→Ed C→E (.ref C) none H'
def qe (K:PySem.W.Frag) (S:z5):Sp:=fun vs H Q E=>∃ (W:Vw) (ds:List Dt) (Qd:Dt→Prop) (Ed:Addr→Prop),W.h=H∧AllIs K W.g ds vs∧S ds Qd Ed∧
 (∀ es p xs W',Le W W'→W.h p=none→W'.h p=some (.lst xs)→W'.g p=none→AllIs K W'.g es xs→Qd (.lst es)→Q (.ref p) W'.h)∧∀ C H',Same W.h H'→Ed C→E (.ref C) none H'
structure DOkX (P:Program) (w:World) (K:PySem.W.Frag) (mg:Str→Option Value) (base:Heap) (n:Nat) (x:Str) (S:z5):Prop where
 ex:∃ f fd ps,mg x=some (.ref f)∧PySem.W.keepIn K (.ref f)=true∧Binds K fd ps []∧FnOk P w K mg base (CX1 P w) n f fd ps (xY K S)
structure FOkX (P:Program) (w:World) (K:PySem.W.Frag) (mg:Str→Option Value) (base:Heap) (n:Nat) (x:Str) (S:z5):Prop where
 ex:∃ f fd ps,mg x=some (.ref f)∧PySem.W.keepIn K (.ref f)=true∧Binds K fd ps []∧FnOk P w K mg base (CX1 P w) n f fd ps (qe K S)
section
variable {P:Program} {w:World} {K:PySem.W.Frag} {mg:Str→Option Value} {base:Heap}
theorem Fun.okX {CX:CXT} {x qual:Str} {st:Stmt} {f:Addr} {fd:FuncData} {N ps:List Str} {k:Nat} {sp:Sp} (F:Fun K x qual st f fd) (S:zi N ps (defScope st)) (len:∀ vs H Q E,sp vs H Q E→vs.length=ps.length)
  (hbody:∀ (cdv:Value) (A:Around) (outer:List Env) (s:Shared) (H:Hp) (vs:List V) (Q:VK) (E:XK),Room k (A.deeper (envOfC qual (defScope st) s.heap.objs.size f cdv))→sp vs H Q E→
   ∃ t,PSs (yb CX P w K mg base N qual (defScope st) f cdv A outer s H E) (defBody st) t∧t { nx:=fun _ H'=>Q .non H',rt:=Q } (start N vs) H):FnOk P w K mg base CX (k+1) f fd ps sp:=by
 obtain ⟨oc,od,kV,doc,pm,an,cdv,ct,osl,rfl,lk,hcd⟩:=F.ex
 exact dW lk hcd S len fun A outer s H vs Q E hr h=>hbody cdv A outer s H vs Q E hr h
theorem YD {x qual:Str} {st:Stmt} {f:Addr} {fd:FuncData} {N ps:List Str} {k:Nat} {S:z5} (F:Fun K x qual st f fd) (sc:zi N ps (defScope st)) (len:∀ ds Q R,S ds Q R→ds.length=ps.length)
  (hbody:∀ (cdv:Value) (A:Around) (outer:List Env) (s:Shared) (H:Hp) (E:XK),Room k (A.deeper (envOfC qual (defScope st) s.heap.objs.size f cdv))→∀ (ds:List Dt) (Q:Dt→Prop) (R:Addr→Prop),S ds Q R→
   (∀ C,R C→Rz (yb (CX1 P w) P w K mg base N qual (defScope st) f cdv A outer s H E) C)→
   ∃ t,DSs (yb (CX1 P w) P w K mg base N qual (defScope st) f cdv A outer s H E) .d (defBody st) t∧t { nx:=fun _=>Q .non,rt:=Q } (zZ N.length ds)):FnOk P w K mg base (CX1 P w) (k+1) f fd ps (xY K S):=by
 refine Fun.okX F sc (fun vs H Q E h=>?_) (fun cdv A outer s H vs Q E hr h=>?_)
 ·obtain ⟨W,ds,Qd,Ed,_,ia,hS,_⟩:=h
  rw [← ia.length]
  exact len ds Qd Ed hS
 obtain ⟨W,ds,Qd,Ed,rfl,ia,hS,kk,ke⟩:=h
 obtain ⟨t,⟨ts,p,l⟩,ht⟩:=hbody cdv A outer s W.h E hr ds Qd Ed hS fun C hC=>nq fun H' z=>ke C H' z hC
 refine ⟨ts,p,l W W.g (zZ N.length ds) (start N vs) W { nx:=fun _=>Qd .non,rt:=Qd } _ (xM ia (uh (Nat.succ_ne_self _))) ⟨fun ρ σ W' a q=>kk .non .non W' a.le (is_non.mpr rfl) q,fun d v W' s' i' q=>kk d v W' s' i' q,fun _ _ _ _ q=>q.elim,fun _ _ _ _ q=>q.elim⟩ ht⟩
theorem DOkX.mk' {x qual:Str} {st:Stmt} {f:Addr} {fd:FuncData} {ps:List Str} {n:Nat} {S:z5} (F:Fun K x qual st f fd) (hm:mg x=some (.ref f)) (hb:Binds K fd ps []) (h:FnOk P w K mg base (CX1 P w) n f fd ps (xY K S)):DOkX P w K mg base n x S:=
 ⟨f,fd,ps,hm,F.kp,hb,h⟩
theorem FOkX.mk' {x qual:Str} {st:Stmt} {f:Addr} {fd:FuncData} {ps:List Str} {n:Nat} {S:z5} (F:Fun K x qual st f fd) (hm:mg x=some (.ref f)) (hb:Binds K fd ps []) (h:FnOk P w K mg base (CX1 P w) n f fd ps (qe K S)):FOkX P w K mg base n x S:=
 ⟨f,fd,ps,hm,F.kp,hb,h⟩
theorem DOkX.mono {x:Str} {m n:Nat} {S:z5} (h:DOkX P w K mg base m x S) (hl:m≤n):DOkX P w K mg base n x S:=
 let ⟨f,fd,ps,h1,h2,h3,h4⟩:=h.ex; ⟨f,fd,ps,h1,h2,h3,h4.mono hl⟩
theorem FOkX.mono {x:Str} {m n:Nat} {S:z5} (h:FOkX P w K mg base m x S) (hl:m≤n):FOkX P w K mg base n x S:=
 let ⟨f,fd,ps,h1,h2,h3,h4⟩:=h.ex; ⟨f,fd,ps,h1,h2,h3,h4.mono hl⟩
end
section
variable {X:Cx} {e a:Expr} {es:List Expr} {t:DTA} {ta:DTE} {n:Nat} {x y:Str} {S:z5} {p pos np cpos:Pos} {fr:Fr} {C:Addr}
theorem ph {F:Hp} {W:Vw} {ρ:DS} {σ:L2.St} {K:PySem.W.Frag} (r:Rl K Z F W ρ σ):Same Z W.h:=r.z.trans r.fr
def ZZ (X:Cx) (S:z5) (t:DTA):DTE:=fun ρ Q=>t ρ fun ds=>S ds Q (Rz X)
theorem rT (G:DOkX X.prog X.w X.K X.mg X.base n x S) (hr:Room n X.A) (hg:Gl X x) (ha:DA X (e::es) t) (hdb:(x == ("__debug__":Str))=false:=by decide)
  (he:starEach (e::es) X.env=(false,eval e X.env)::starEach es X.env:=by rfl) (hpl:(backTo pos (starEach es X.env)).any (·.1)=false:=by rfl):DE X (.Call (.Name x p) (e::es) [] pos) (ZZ X S t):=by
 obtain ⟨f,fd,ps,hm,hk,hb,F⟩:=G.ex
 obtain ⟨te,p1,l1⟩:=ha
 refine ⟨_,sB F hr hg hm hk hb .nil pass_can p1 hdb he hpl,fun ρ σ H Q r h R k=>l1 ρ σ H _ r h _ fun ds vs H1 s1 i1 q1=>?_⟩
 rw [List.append_nil]
 exact ⟨H1,ds,Q,Rz X,rfl,i1,q1,fun d v H2 s2 i2 q2=>k d v H2 (s1.trans s2) i2 q2,fun C H' s' hC=>⟨C,rfl,(hC H' (((ph r).trans s1.h).trans s')).2⟩⟩
def ZR (X:Cx) (C:Addr) (ta:DTE):DTS:=fun _ ρ=>ta ρ fun _=>Rz X C
theorem uO (hc:X.calm=true) (hg:Gl X x) (hm:X.mg x=some (.ref C)) (hC:ExcK X.K C) (ha:DE X a ta) (hdb:(x == ("__debug__":Str))=false:=by decide)
  (he:starEach [a] X.env=(false,eval a X.env)::starEach [] X.env:=by rfl):DSt X fr (.Raise (some (.Call (.Name x np) [a] [] cpos)) none pos) (ZR X C ta):=by
 obtain ⟨te,p1,l1⟩:=ha
 exact ⟨_,nA hc hg hm hC p1 hdb he,fun W0 G ρ σ W D D' at_ s h=>l1 ρ σ W _ at_.rl h _ fun d v W1 s1 i1 q1=>(q1 W1.h ((ph at_.rl).trans s1.h)).1⟩
def dQ (K:PySem.W.Frag) (Z:Hp) (fr:Fr) (t:DTS):TS:=fun D' σ H=>∃ (W0:Vw) (G:Hp) (ρ:DS) (W:Vw) (D:DEnds),W.h=H∧At K Z W0 G W ρ σ∧Sim K Z fr W0 G D D'∧t D ρ
theorem DSs.up {sts:List Stmt} {t:DTS} (h:DSs X fr sts t):PSs X sts (dQ X.K (Zx X) fr t):=by
 obtain ⟨ts,p,l⟩:=h
 intro pins s σ H D' I q
 obtain ⟨W0,G,ρ,W,D,rfl,a,sm,ht⟩:=q
 exact p pins s σ W.h D' I (l W0 G ρ σ W D D' a sm ht)
def Vw.at (W:Vw) (H':Hp) (s:Same W.h H'):Vw:=⟨W.g,H',W.sub.trans s⟩
theorem Xf {W:Vw} {H':Hp} (s:Same W.h H'):Le W (W.at H' s):=⟨Same.refl _,s,fun _ _ h=>h⟩
variable {b₀:Stmt} {suite:List Stmt} {th:DTS} {c:Value} {py hpos epos tpos:Pos}
end
theorem Rl.unset {K:PySem.W.Frag} {F:Hp} {W:Vw} {ρ:DS} {σ:L2.St} (r:Rl K Z F W ρ σ) (j:Nat):Rl K Z F W (ρ.set j .none) (σ.set j none):=by
 refine ⟨by rw [List.length_set,List.length_set]; exact r.len,fun i d q=>?_,fun i ds q=>?_,fun i k ds es hik q1 q2=>?_,r.fr,r.z,fun i c ds q=>?_,r.ob.set j _ (fun φ z=>by cases z)⟩
 ·rcases zj q with ⟨_,_,e1⟩ | ⟨hij,q⟩
  ·cases e1
  ·rw [List.getElem?_set_ne hij]; exact r.at_ i d q
 ·rcases zj q with ⟨_,_,e1⟩ | ⟨hij,q⟩
  ·cases e1
  ·rw [List.getElem?_set_ne hij]; exact r.ow i ds q
 ·rcases zj q1 with ⟨_,_,e1⟩ | ⟨h1,q1⟩
  ·cases e1
  rcases zj q2 with ⟨_,_,e1⟩ | ⟨h2,q2⟩
  ·cases e1
  rw [List.getElem?_set_ne h1,List.getElem?_set_ne h2]; exact r.ne i k ds es hik q1 q2
 ·rcases zj q with ⟨_,_,e1⟩ | ⟨hij,q⟩
  ·cases e1
  obtain ⟨⟨ys',g1,g2⟩,k1,k2⟩:=r.ar i c ds q
  refine ⟨⟨ys',by rw [List.getElem?_set_ne hij]; exact g1,g2⟩,fun k es' q'=>?_,fun k c' es' q'=>?_⟩
  ·rcases zj q' with ⟨_,_,e1⟩ | ⟨hik,q'⟩
   ·cases e1
   ·rw [List.getElem?_set_ne hik]; exact k1 k es' q'
  ·rcases zj q' with ⟨_,_,e1⟩ | ⟨hik,q'⟩
   ·cases e1
   exact k2 k c' es' q'
theorem At.unset {K:PySem.W.Frag} {W0 W:Vw} {G:Hp} {ρ:DS} {σ:L2.St} (a:At K Z W0 G W ρ σ) (j:Nat):At K Z W0 G W (ρ.set j .none) (σ.set j none):=⟨a.le,a.gs,a.rl.unset j⟩
abbrev DEnds.off (D:DEnds) (j:Nat):DEnds:=⟨fun ρ=>D.nx (ρ.set j .none),D.rt,fun ρ=>D.bk (ρ.set j .none),fun ρ=>D.ct (ρ.set j .none)⟩
theorem Sim.off {K:PySem.W.Frag} {fr:Fr} {W0:Vw} {G:Hp} {D:DEnds} {D':Ends} (s:Sim K Z fr W0 G D D') (j:Nat):Sim K Z fr W0 G (D.off j) (D'.off j):=
 ⟨fun ρ σ W' a q=>s.nx _ _ W' (a.unset j) q,s.tl,fun ρ σ W' a q=>s.bk _ _ W' (a.unset j) q,fun ρ σ W' a q=>s.ct _ _ W' (a.unset j) q⟩
section
variable {X:Cx} {e:Expr} {es:List Expr} {t:DTA} {n:Nat} {x y m:Str} {i j:Nat} {S:z5} {p pos py hpos epos tpos:Pos} {fr:Fr} {b₀:Stmt} {suite:List Stmt} {th:DTS} {c:Value}
theorem Z1 {K:PySem.W.Frag} {W0 W1:Vw} {G H':Hp} {ρ:DS} {σ:L2.St} {C a:Addr} (at_:At K Z W0 G W1 ρ σ) (s':Same W1.h H') (hn:H' a=none) (j:Nat):
  At K Z W0 G ((W1.at H' s').new a (.ext (excAt a C))) (ρ.set j (.some (.exc C))) (σ.set j (some (.ref a))):=
 ((at_.step (Xf s')).step (y4 (W:=W1.at H' s') hn _)).set j (is_exc.mpr ⟨a,rfl,zh⟩)
theorem t_:CallR X (.builtin "isinstance") (fun xs H Q=>∃ a C vc c b,xs=[.ref a,vc]∧(∀ u,RelV vc u→u=c)∧H a=some (.ext (excAt a C))∧x8 X.K C∧PySem.W.kitOne X.K (.ref C) c=some b∧Q (.bl b) H):=by
 intro pins s σ H xs us Q I r h
 obtain ⟨a,C,vc,c,b,rfl,hvc,ha,O,hk,q⟩:=h
 cases r with
 | cons r1 r2=>
  cases r2 with
  | cons r3 r4=>
   cases r4
   cases r1
   cases hvc _ r3
   exact PySem.W.kia_one (l_ O) I.kIn (I.hok a _ ha).1 hk (fun z=>nomatch z) fun tk=>⟨.bl b,H,I.tok _,rfl,q⟩
def dY (K:PySem.W.Frag) (c:Value) (ta:DTE):DTE:=fun ρ Q=>ta ρ fun d=>∃ C b,d=.exc C∧x8 K C∧PySem.W.kitOne K (.ref C) c=some b∧Q (.bl b)
theorem z_ {a:Expr} {ta:DTE} {p0 p':Pos} {D:Addr} (hm:X.mg "isinstance"=none) (hmc:X.mg y=some (.ref D)) (ha:DE X a ta)
  (hg:Gl X "isinstance":=by rfl) (hgc:Gl X y:=by rfl) (hdy:(y == ("__debug__":Str))=false:=by decide)
  (hs:starEach [a,.Name y p'] X.env=(false,eval a X.env)::starEach [.Name y p'] X.env:=by rfl) (hs2:starEach [.Name y p'] X.env=(false,eval (.Name y p') X.env)::starEach [] X.env:=by rfl)
  (hpl:(backTo pos (starEach [.Name y p'] X.env)).any (·.1)=false:=by rfl):
  DE X (.Call (.Name "isinstance" p0) [a,.Name y p'] [] pos) (dY X.K (.ref D) ta):=by
 obtain ⟨te,p1,l1⟩:=ha
 have pc:PE X (.Name y p') (tC (.ref D)):=vZ hgc hmc rfl hdy
 refine ⟨_,yj t_ hg hm boot_isinstance (zx p1 (zx pc zP hs2) hs) (by decide) (by decide) hs hpl,fun ρ σ H Q r h R k=>l1 ρ σ H _ r h _ fun d v H1 s1 i1 ⟨C,b,ed,ok,e,q⟩=>?_⟩
 subst ed
 obtain ⟨z,rfl,hz⟩:=is_exc.mp i1
 exact ⟨z,C,_,_,b,rfl,fun u hu=>hu,H1.sub _ _ hz,ok,e,k _ _ H1 s1 (is_bl.mpr rfl) q⟩
theorem kS {a:Expr} {ta:DTE} {p0 p':Pos} (hm:X.mg "isinstance"=none) (hmc:X.mg "ValueError"=none) (ha:DE X a ta)
  (hg:Gl X "isinstance":=by rfl) (hgc:Gl X "ValueError":=by rfl)
  (hs:starEach [a,.Name "ValueError" p'] X.env=(false,eval a X.env)::starEach [.Name "ValueError" p'] X.env:=by rfl) (hs2:starEach [.Name "ValueError" p'] X.env=(false,eval (.Name "ValueError" p') X.env)::starEach [] X.env:=by rfl)
  (hpl:(backTo pos (starEach [.Name "ValueError" p'] X.env)).any (·.1)=false:=by rfl):
  DE X (.Call (.Name "isinstance" p0) [a,.Name "ValueError" p'] [] pos) (dY X.K (.type "ValueError") ta):=by
 obtain ⟨te,p1,l1⟩:=ha
 have pc:PE X (.Name "ValueError" p') (tC (.ty "ValueError")):=fun pins s σ H Q I h=>vp I hgc hmc (by decide +kernel) ⟨.ty "ValueError",H,I,rfl,h⟩
 refine ⟨_,yj t_ hg hm boot_isinstance (zx p1 (zx pc zP hs2) hs) (by decide) (by decide) hs hpl,fun ρ σ H Q r h R k=>l1 ρ σ H _ r h _ fun d v H1 s1 i1 ⟨C,b,ed,ok,e,q⟩=>?_⟩
 subst ed
 obtain ⟨z,rfl,hz⟩:=is_exc.mp i1
 exact ⟨z,C,_,_,b,rfl,fun u hu=>hu,H1.sub _ _ hz,ok,e,k _ _ H1 s1 (is_bl.mpr rfl) q⟩
end
end OD
namespace OD
variable {Z:Hp}
open PySem PySem.Spec PyProof.Rows L2
def zw (X:Cx) (scope:Scope) (cl:List (Str × Addr)) (bs caps:List Str) (C:Addr) (s:Shared) (H:Hp) (fp:List Addr) (pins:List (Addr × Obj)):Cx where
 prog:=X.prog
 w:=X.w
 K:=X.K
 mg:=X.mg
 base:=X.base
 A:=X.A
 N:=bs++caps
 s₀:=s
 H₀:=H
 env:=compEnvC scope cl C X.env
 outer:=X.stack
 stack:=X.stack
 ex:=fp
 fn:=fun y=>bs.contains y
 calm:=X.calm
 pn:=X.pn++pins
 xe:=fun _ _=>False
structure wY (X:Cx) (scope:Scope) (cl:List (Str × Addr)) (bs caps:List Str) (js:List Nat):Prop where
 clos:closureFor scope X.env=pure cl
 sub:∀ y c,cl.lookup y=some c→X.env.cells.lookup y=some c
 has:∀ y,((relabel scope X.env).names.lookup y=some .cell∨(relabel scope X.env).names.lookup y=some .free)→∃ c,cl.lookup y=some c
 nox:∀ x∈bs,cl.lookup x=none
 cell:∀ y∈scope.names,y.2≠.cell
 kind:scope.kind=.function
 names:∀ y∈scope.names,y.2=.local→scope.names.lookup y.1=some .local
 loc:∀ x∈bs,scope.names.lookup x=some .local
 nd:(bs++caps).Nodup
 len:js.length=caps.length
 at_:∀ (k:Nat) y,caps[k]? = some y→∃ j,js[k]? = some j∧X.N[j]? = some y
 cap:∀ y∈caps,(relabel scope X.env).names.lookup y=some .cell∧X.env.scope.names.lookup y=some .cell
theorem xL {prog:Program} {w:World} {A:Around} {s:Shared} {elt target iter:Expr} {ifs:List Expr} {scope:Scope} {pos:Pos} {it acc:Value} {env:Env} {R:Result→Shared→Prop} (I:Nat→Shared→Prop)
  (turn:∀ n s,I n s→wpAny (model prog w) A (pyNext it) (fun r s₁=>match r with
   | none=>R (.ok .next) s₁
   | some v=>wpAny (model prog w) A (letOwnedTupleGo target it v) (fun _ s₁'=>wpAny (model prog w) A (assign target env v) (fun _ s₂=>
     wpAny (model prog w) A (forIn ifs true fun c r=>if r=true then do let ok ← isTrue c env (eval c env); pure (ForInStep.yield ok) else pure (ForInStep.yield r)) (fun ok s₃=>
      if ok=true then wpAny (model prog w) A (eval elt env) (fun x s₄=>
       wpAny (model prog w) A (call (.builtin "list.append") [acc,x]) (fun _ s₅=>∃ m,m<n∧I m s₅) (notedBy (model prog w) A env fun e s'=>R (.error e) s') s₄) (notedBy (model prog w) A env fun e s'=>R (.error e) s') s₃
      else ∃ m,m<n∧I m s₃) (notedBy (model prog w) A env fun e s'=>R (.error e) s') s₂)
     (notedBy (model prog w) A env fun e s'=>R (.error e) s') s₁') (notedBy (model prog w) A env fun e s'=>R (.error e) s') s₁) (notedBy (model prog w) A env fun e s'=>R (.error e) s') s)
  (n:Nat) (h:I n s):codeAny (model prog w) A (.compLoop (.ListComp elt [⟨target,iter,ifs,0⟩] scope pos) 0 it acc env) R s:=by
 refine codeAny_loop rfl I (fun n s hI=>?_) n h
 show wpAny _ A ((compTurn (.ListComp elt [⟨target,iter,ifs,0⟩] scope pos) 0 it acc env).onRaise (fun x=>do noteFrame x env; theTreesLotGoes x)) _ _ s
 refine wpAny_noted ?_
 rw [compTurn_list]
 refine wpAny_bind (wpAny_standAt (wpAny_bind (wpAny_mono (turn n s hI) (fun r s₁ h₁=>?_) fun _ _ h'=>h')))
 cases r with
 | none=>exact wpAny_pure h₁
 | some v=>
  refine wpAny_bind (wpAny_mono h₁ (fun _ s₁' h₁'=>?_) fun _ _ h'=>h')
  refine wpAny_bind (wpAny_mono h₁' (fun _ s₂ h₂=>wpAny_bind (wpAny_mono h₂ (fun ok s₃ h₃=>?_) fun _ _ h'=>h')) fun _ _ h'=>h')
  cases ok with
  | false=>exact wpAny_pure ⟨rfl,h₃⟩
  | true=>
   exact wpAny_bind (wpAny_bind (wpAny_mono h₃ (fun x s₄ h₄=>wpAny_bind (wpAny_mono h₄ (fun _ s₅ h₅=>wpAny_pure (wpAny_pure ⟨rfl,h₅⟩)) fun _ _ h'=>h')) fun _ _ h'=>h'))
def PC (X:Cx) (ifs:List Expr) (t:TT):Prop:=
 ∀ (pins:List (Addr × Obj)) (s:Shared) (σ:St) (H:Hp) (Q:Bool→Hp→Prop) (E:Value→Shared→Prop),(∀ v s,X.xe v s→E v s)→Inv X pins σ H s→t σ H Q→
  wpAny (model X.prog X.w) X.A (forIn ifs true fun c r=>if r=true then do let ok ← isTrue c X.env (eval c X.env); pure (ForInStep.yield ok) else pure (ForInStep.yield r)) (TP X pins σ Q) E s
theorem cI {X:Cx}:PC X [] (fun _ H Q=>Q true H):=fun _ _ _ H _ _ _ I h=>wpAny_tests_nil ⟨H,I,h⟩
theorem cH {X:Cx} {c:Expr} {t:TT} (p:PT X c t):PC X [c] t:=fun pins s σ H Q _ hE I h=>wpAny_tests_one (wpAny_mono (p pins s σ H Q I h) (fun _ _ z=>z) hE)
section
variable {X:Cx} {pins:List (Addr × Obj)} {σ:St} {H:Hp} {s:Shared} {scope:Scope} {cl:List (Str × Addr)} {bs caps:List Str} {js:List Nat} {fp:List Addr}
theorem oX {h₁:Heap} {t:Nat} {m:Str→Option Value} (I:Inv X pins σ H s) (S:wY X scope cl bs caps js) (hfp:∀ b∈fp,vF X pins H b) (hob:∀ b∈fp,∃ o,s.heap.get? b=some o)
  (hn:h₁.Ns s.heap.objs.size m) (hk:∀ b o,s.heap.get? b=some o→h₁.get? b=some o):Inv (zw X scope cl bs caps s.heap.objs.size s H fp pins) [] (bs.map (fun _=>none)++vB σ js) H { s with heap:=h₁,toks:=t }:=by
 refine ⟨⟨I.ok.mod,S.kind,I.ok.glob,I.ok.blt,Nat.le_refl _,fun y z c h1 h2=>?_,fun y hy=>?_,fun y c hf h=>?_,I.ok.hd,I.ok.frames,.inl rfl,fun b hb=>⟨?_,fun y c h=>?_⟩,I.bs,Nat.le_trans I.ok.bsz I.sz,fun b o e hb=>?_,fun b hb z=>?_,I.stack,I.stkFree⟩,
  rfl,I.bare,Un.kept hk,⟨_,hn,fun i y v h1 h2 h3=>?_⟩,fun y c h=>?_,I.hok.fresh (Nat.le_refl _),fun y c h=>?_,fun p hp=>?_,I.hok.kept hk,?_⟩
 ·exact I.ok.inj y z c (S.sub y c h1) (S.sub z c h2)
 ·exact S.has y hy
 ·have hf:y∈bs:=List.contains_iff_mem.mp hf
  have h:cl.lookup y=some c:=h
  rw [S.nox y hf] at h
  cases h
 ·obtain ⟨o,e⟩:=hob b hb
  exact Nat.ne_of_lt (Heap.lt_size e)
 ·exact (hfp b hb).2.2.2.2.1 y c (S.sub y c h)
 ·obtain ⟨_,_,_,h4,_⟩:=hfp b hb
  rcases h4 with h4 | h4
  ·exact I.ok.noex b o e h4
  ·exact absurd (Nat.lt_of_lt_of_le (Heap.lt_size e) (Nat.le_trans I.ok.bsz h4)) (Nat.lt_irrefl _)
 ·obtain ⟨_,h2,h3,_⟩:=hfp b hb
  rcases List.mem_cons.mp (I.stkSub b z) with q | q
  ·exact h2 q
  ·exact h3 q
 ·by_cases hi:i<bs.length
  ·rw [List.getElem?_append_left (by rw [List.length_map]; exact hi),List.getElem?_map] at h2
   obtain ⟨_,_,e⟩:=Option.map_eq_some_iff.mp h2
   cases e
  ·have hi:bs.length≤i:=Nat.le_of_not_lt hi
   have h1:(bs++caps)[i]? = some y:=h1
   rw [List.getElem?_append_right hi] at h1
   rw [List.getElem?_append_right (by rw [List.length_map]; exact hi),List.length_map] at h2
   obtain ⟨j,hj,hN⟩:=S.at_ _ y h1
   have hv:σ[j]? = some (some v):=by
    unfold vB at h2
    rw [List.getElem?_map,hj] at h2
    have h2:(σ[j]?).getD none=some v:=Option.some.inj h2
    cases q:σ[j]? with
    | none=>rw [q] at h2; cases h2
    | some w=>rw [q] at h2; exact congrArg some h2
   obtain ⟨c1,c2⟩:=S.cap y (List.mem_of_getElem? h1)
   obtain ⟨m0,_,hl⟩:=I.loc
   obtain ⟨u,ru,lk⟩:=hl j y v hN hv (.inr (.inl c2))
   refine ⟨u,ru,.inr ⟨.inl c1,?_⟩⟩
   obtain ⟨c,hc⟩:=S.has y (.inl c1)
   rcases lk with ⟨lk,_⟩ | ⟨_,c',hc',hcell⟩
   ·have lk:X.env.scope.names.lookup y=some .local:=lk
    rw [c2] at lk
    cases lk
   ·have e:=S.sub y c hc
    rw [hc'] at e
    cases e
    obtain ⟨o,ho,hd⟩:=hcell
    exact ⟨_,hc,o,hk _ _ ho,hd⟩
 ·obtain ⟨v,o,ho,hd⟩:=I.cell y c (S.sub y c h)
  exact ⟨v,o,hk _ _ ho,hd⟩
 ·exact I.freeC y c (S.sub y c h)
 ·have hp:p∈X.pn++pins:=by
   rcases List.mem_append.mp hp with q | q
   ·exact q
   ·cases q
  obtain ⟨h1,h2,h3,h4,h5⟩:=I.pin p hp
  refine ⟨hk _ _ h1,h2,Nat.ne_of_lt (Heap.lt_size h1),fun z=>?_,h5⟩
  rcases List.mem_cons.mp (I.stkSub _ z) with q | q
  ·exact h3 q
  ·exact h4 q
 ·show (bs.map (fun _=>none)++vB σ js).length=(bs++caps).length
  unfold vB
  rw [List.length_append,List.length_append,List.length_map,List.length_map,S.len]
theorem oY {C:Addr} {σ':St} {H':Hp} {s':Shared} (I:Inv X pins σ H s) (hfp:∀ b∈fp,vF X pins H b) (I':Inv (zw X scope cl bs caps C s H fp pins) [] σ' H' s'):Inv X pins σ H' s':=
 I.call' (ch:=fp) I'.os I'.base I'.hok I'.bare fun b hb=>by
  obtain ⟨_,h2,_,h4,h5,h6⟩:=hfp b hb
  exact ⟨h4,h2,h5,h6⟩
def sA (gt:TG) (tt:TT) (te:TE) (k:Nat) (τ:St) (Q:V→Hp→Prop):It→Hp→Prop:=fun J H1=>∃ n:Nat,n<sizeLine∧∀ D,H1 D=none→∃ (Pv:Nat→List V→Hp→Prop) (Nx:Nat→V→List V→Hp→Prop),
 Pv 0 [] (upd H1 D (.lst []))∧(∀ i ys H2,i≤n→Pv i ys H2→H2 D=some (.lst ys)∧ys.length≤i)∧
 (∀ i ys H2,i<n→Pv i ys H2→J.go i H2∧∀ v H3,J.yld i H2 v H3→Nx i v ys H3)∧(∀ ys H2,Pv n ys H2→J.stop n H2)∧
 (∀ i v ys H2 (σ0:St),i<n→Nx i v ys H2→σ0.length=k→gt v (σ0++τ) H2 fun σ1 H3=>(∃ σ2:St,σ1=σ2++τ∧σ2.length=k)∧tt σ1 H3 fun b H4=>
  if b=true then te σ1 H4 fun y H5=>H5 D=some (.lst ys)∧Pv (i+1) (ys++[y]) (upd H5 D (.lst (ys++[y]))) else Pv (i+1) ys H4)∧∀ ys H2,Pv n ys H2→Q (.ref D) H2
def qi (wi:TI) (gt:TG) (tt:TT) (te:TE) (k:Nat) (js:List Nat):TE:=fun σ H Q=>wi σ H (sA gt tt te k (vB σ js) Q)
theorem qa {elt tg iter:Expr} {ifs:List Expr} {pos:Pos} {it D:Addr} {n:Nat} {J:It} {Nx:Nat→V→List V→Hp→Prop} {τ:St} {tn:Nat→Heap→Prop} {gt:TG} {tt:TT} {te:TE} {R:Result→Shared→Prop} {s₄:Shared} {Pv:Nat→List V→Hp→Prop} {C:Addr} (hc:X.calm=true)
  (hg:PG (zw X scope cl bs caps C s H fp pins) tg gt) (ht':PC (zw X scope cl bs caps C s H fp pins) ifs tt)
  (he:PE (zw X scope cl bs caps C s H fp pins) elt te) {σ0:St} (hσ0:σ0.length=bs.length) (I:Inv (zw X scope cl bs caps C s H fp pins) [] (σ0++τ) H s₄) (T:ng X.prog X.w X.K tg J fp it tn) (t0:tn 0 s₄.heap)
  (hfp:∀ b∈fp,vF (zw X scope cl bs caps C s H fp pins) [] H b) (hn:n<sizeLine)
  (h0:Pv 0 [] H) (hl:∀ i ys H2,i≤n→Pv i ys H2→H2 D=some (.lst ys)∧ys.length≤i)
  (hgo:∀ i ys H2,i<n→Pv i ys H2→J.go i H2∧∀ v H3,J.yld i H2 v H3→Nx i v ys H3) (hst:∀ ys H2,Pv n ys H2→J.stop n H2)
  (ht:∀ i v ys H2 (σ0:St),i<n→Nx i v ys H2→σ0.length=bs.length→gt v (σ0++τ) H2 fun σ1 H3=>(∃ σ2:St,σ1=σ2++τ∧σ2.length=bs.length)∧tt σ1 H3 fun b H4=>
   if b=true then te σ1 H4 fun y H5=>H5 D=some (.lst ys)∧Pv (i+1) (ys++[y]) (upd H5 D (.lst (ys++[y]))) else Pv (i+1) ys H4)
  (hR:∀ σ' H' ys s',Inv (zw X scope cl bs caps C s H fp pins) [] σ' H' s'→Pv n ys H'→R (.ok .next) s'):
  codeAny (model X.prog X.w) X.A (.compStart (.ListComp elt [⟨tg,iter,ifs,0⟩] scope pos) 0 (.ref it) (.ref D) (compEnvC scope cl C X.env)) R s₄:=by
 have loop:codeAny (model X.prog X.w) X.A (.compLoop (.ListComp elt [⟨tg,iter,ifs,0⟩] scope pos) 0 (.ref it) (.ref D) (compEnvC scope cl C X.env)) R s₄:=by
  refine xL (fun k s'=>∃ i ys,∃ σ1:St,∃ H',k=n+1 - i∧i≤n∧σ1.length=bs.length∧Inv (zw X scope cl bs caps C s H fp pins) [] (σ1++τ) H' s'∧tn i s'.heap∧(∀ b∈fp,vF (zw X scope cl bs caps C s H fp pins) [] H' b)∧Pv i ys H') ?_ (n+1) ⟨0,[],σ0,H,rfl,Nat.zero_le _,hσ0,I,t0,hfp,h0⟩
  rintro k s' ⟨i,ys,σ1,H',rfl,hi,hσ1,I',tn',hfp',hp⟩
  obtain ⟨q2,q3⟩:=hl i ys H' hi hp
  by_cases hlt:i<n
  ·obtain ⟨g,gy⟩:=hgo i ys H' hlt hp
   refine wpAny_mono (T.item (zw X scope cl bs caps C s H fp pins) rfl rfl rfl hc i [] s' (σ1++τ) H' (notedBy (model X.prog X.w) X.A (compEnvC scope cl C X.env) fun e s'=>R (.error e) s') I' hfp' tn' g) (fun r s1 ⟨u,er,hq⟩=>?_) fun _ _ z=>z
   subst er
   refine wpAny_mono hq (fun _ s1' hq'=>?_) fun _ _ z=>z
   obtain ⟨v,H1,I1,rv,yv,tn1,fn1⟩:=hq'
   have hv:=gy v H1 yv
   have hfp1:∀ b∈fp,vF (zw X scope cl bs caps C s H fp pins) [] H1 b:=fun b hb=>⟨fn1 b hb,(hfp' b hb).2⟩
   have hpin:∀ b∈fp,∃ o,s1'.heap.get? b=some o∧∀ v,o.data≠.cell v:=T.obj (i+1) s1'.heap tn1
   have IP:Inv (zw X scope cl bs caps C s H fp pins) (y0 fp s1'.heap) (σ1++τ) H1 s1':=by
    have:=I1.pinned hfp1 hpin
    rw [List.nil_append] at this
    exact this
   refine wpAny_mono (hg (y0 fp s1'.heap) s1' (σ1++τ) H1 v u _ IP rv (ht i v ys H1 σ1 hlt hv hσ1)) (fun _ s2 h2=>?_) fun _ _ z=>z.elim
   obtain ⟨σ2',H2,I2,⟨σ2,e2,l2⟩,w2⟩:=h2
   subst e2
   refine wpAny_mono (ht' (y0 fp s1'.heap) s2 (σ2++τ) H2 _ (fun _ _=>False) (fun _ _ z=>z) I2 w2) (fun b s3 h3=>?_) fun _ _ z=>z.elim
   obtain ⟨H3,I3,w3⟩:=h3
   have pinned:∀ {s4:Shared} {H4:Hp} {σ4:St},Inv (zw X scope cl bs caps C s H fp pins) (y0 fp s1'.heap) σ4 H4 s4→∀ b∈fp,∀ o,s1'.heap.get? b=some o→s4.heap.get? b=some o∧H4 b=none:=fun I4 b hb o e=>
    have z:=I4.pin (b,o) (List.mem_append_right _ (wk hb e))
    ⟨z.1,z.2.1⟩
   cases b with
   | false=>
    have w3:Pv (i+1) ys H3:=w3
    show ∃ m,m<n+1 - i∧_
    refine ⟨n+1 - (i+1),by omega,i+1,ys,σ2,H3,rfl,hlt,l2,I3.pins_of (fun p z=>nomatch z),T.keep _ _ _ tn1 fun b hb o e=>(pinned I3 b hb o e).1,fun b hb=>⟨?_,(hfp' b hb).2⟩,w3⟩
    obtain ⟨o,e,_⟩:=hpin b hb
    exact (pinned I3 b hb o e).2
   | true=>
    show wpAny _ _ _ _ _ _
    refine wpAny_mono (he (y0 fp s1'.heap) s3 (σ2++τ) H3 _ I3 w3) (fun y s4 h4=>?_) fun _ _ z=>z.elim
    obtain ⟨y',H4,I4,ry,hD,hp4⟩:=h4
    refine wpAny_mono (xR (X:=zw X scope cl bs caps C s H fp pins) (y0 fp s1'.heap) s4 (σ2++τ) H4 (.ref D) [y'] (.ref D) [y] (fun _ H5=>H5=upd H4 D (.lst (ys++[y']))) I4 rfl (.cons ry .nil) ⟨D,ys,y',rfl,rfl,hD,by omega,rfl⟩) (fun _ s5 h5=>?_) fun _ _ z=>z.elim
    obtain ⟨_,H5,I5,_,e5⟩:=h5
    subst e5
    refine ⟨n+1 - (i+1),by omega,i+1,ys++[y'],σ2,_,rfl,hlt,l2,I5.pins_of (fun p z=>nomatch z),T.keep _ _ _ tn1 fun b hb o e=>(pinned I5 b hb o e).1,fun b hb=>⟨?_,(hfp' b hb).2⟩,hp4⟩
    obtain ⟨o,e,_⟩:=hpin b hb
    exact (pinned I5 b hb o e).2
  ·have e:i=n:=by omega
   subst e
   refine wpAny_mono (T.done (zw X scope cl bs caps C s H fp pins) rfl rfl rfl hc i [] s' (σ1++τ) H' (fun _ _=>False) I' hfp' tn' (hst ys H' hp)) (fun r s1 ⟨er,I1⟩=>?_) fun _ _ z=>z.elim
   subst er
   exact hR _ H' ys s1 I1 hp
 exact codeAny_compStart_list loop (T.self X.A 0 s₄ _ _ t0 loop)
theorem uU {elt tg iter:Expr} {ifs:List Expr} {pos:Pos} {gt:TG} {tt:TT} {te:TE} {Q:V→Hp→Prop} {s2:Shared} {it:Addr} {tn:Nat→Heap→Prop} {J:It} {H':Hp} {RR:Value→Addr→Result→Shared→Prop} {E:Value→Shared→Prop} (hc:X.calm=true) (S:wY X scope cl bs caps js)
  (hg:∀ C s H fp pins,PG (zw X scope cl bs caps C s H fp pins) tg gt) (ht':∀ C s H fp pins,PC (zw X scope cl bs caps C s H fp pins) ifs tt)
  (he:∀ C s H fp pins,PE (zw X scope cl bs caps C s H fp pins) elt te) (I2:Inv X pins σ H' s2) (T:ng X.prog X.w X.K tg J fp it tn) (t0:tn 0 s2.heap) (hfp:∀ b∈fp,vF X pins H' b) (hr:sA gt tt te bs.length (vB σ js) Q J H')
  (hRR:∀ D C H3 s',Inv X pins σ H3 s'→(∃ m,s'.heap.Ns C m)→H3 C=none→C≠X.env.locals→X.s₀.heap.objs.size≤C→(∀ y c,X.env.cells.lookup y=some c→c≠C)→(∀ p∈X.pn++pins,p.1≠C)→Q (.ref D) H3→
   RR (.ref D) C (.ok .next) s'):
  wpAny (model X.prog X.w) X.A (newList []) (fun acc s₃=>wpAny (model X.prog X.w) X.A (newFunctionEnv scope X.env.globals cl [] X.env.qual none .none (some X.env)) (fun cenv s₄=>
   codeAny (model X.prog X.w) X.A (.compStart (.ListComp elt [⟨tg,iter,ifs,0⟩] scope pos) 0 (.ref it) acc { cenv with scope:=relabel scope X.env }) (RR acc cenv.locals) s₄) E s₃) E s2:=by
 obtain ⟨n,hn,hD⟩:=hr
 obtain ⟨Pv,Nx,h0,hl,hgo,hst,ht,hd⟩:=hD s2.heap.objs.size I2.fresh
 refine wpAny_newObj_type (wpAny_newFunctionEnv S.cell (by intro y hy; simp at hy) (fun h₁ hns₁ hsb₁=>?_) S.kind)
 dsimp only at hns₁ hsb₁ ⊢
 have I3:Inv X pins σ (upd H' s2.heap.objs.size (.lst [])) { s2 with heap:=s2.heap.push { cls:=.type "list",data:=.seq ([]:List Value).toArray } }:=I2.lnew (its:=[]) (t':=s2.toks) .nil (by show 0≤sizeLine; omega)
 have hob:=T.obj 0 s2.heap t0
 have keep:∀ b o,(s2.heap.push { cls:=.type "list",data:=.seq ([]:List Value).toArray }).get? b=some o→h₁.get? b=some o:=fun b o e=>
  hsb₁.extBut b o (Nat.ne_of_lt (Heap.lt_size e)) (Heap.get?_push_of_some _ e)
 have fp3:∀ b∈fp,vF X pins (upd H' s2.heap.objs.size (.lst [])) b:=fun b hb=>by
  obtain ⟨o,e,_⟩:=hob b hb
  exact ⟨(zl (Nat.ne_of_lt (Heap.lt_size e))).trans (hfp b hb).1,(hfp b hb).2⟩
 have IY:=oX (t:=s2.toks+([]:List (Str × Value)).length) I3 S fp3 (fun b hb=>by
  obtain ⟨o,e,_⟩:=hob b hb
  exact ⟨o,Heap.get?_push_of_some _ e⟩) hns₁ keep
 refine qa (D:=s2.heap.objs.size) (n:=n) (Nx:=Nx) (Pv:=Pv) hc (hg _ _ _ _ _) (ht' _ _ _ _ _) (he _ _ _ _ _) (List.length_map _) IY T (T.keep _ _ _ t0 fun b hb o e=>keep b o (Heap.get?_push_of_some _ e)) (fun b hb=>?_) hn h0 hl hgo hst ht (fun σ' H3 ys s' I' hp=>?_)
 ·obtain ⟨f1,f2,f3,f4,f5,f6⟩:=fp3 b hb
  obtain ⟨o,e,_⟩:=hob b hb
  refine ⟨f1,Nat.ne_of_lt (Heap.lt_size (Heap.get?_push_of_some _ e)),fun z=>?_,.inl hb,fun y c h=>f5 y c (S.sub y c h),fun p hp=>?_⟩
  ·rcases List.mem_cons.mp (I3.stkSub b z) with q | q
   ·exact f2 q
   ·exact f3 q
  ·rcases List.mem_append.mp hp with q | q
   ·exact f6 p q
   ·cases q
 ·obtain ⟨m,hn,_⟩:=I'.loc
  refine hRR _ _ H3 s' (oY I3 fp3 I') ⟨m,hn⟩ I'.free (Nat.ne_of_gt I3.lt) I3.sz (fun y c h z=>?_) (fun p hp z=>?_) (hd ys H3 hp)
  ·obtain ⟨v,q⟩:=I3.cell y c h
   exact absurd q.lt (by rw [z]; exact Nat.lt_irrefl _)
  ·exact absurd (Heap.lt_size (I3.pin p hp).1) (by rw [z]; exact Nat.lt_irrefl _)
theorem nI {elt tg iter:Expr} {ifs:List Expr} {pos:Pos} {wi:TI} {gt:TG} {tt:TT} {te:TE} (hc:X.calm=true) (S:wY X scope cl bs caps js) (hl:PI X tg iter wi) (hg:∀ C s H fp pins,PG (zw X scope cl bs caps C s H fp pins) tg gt)
  (ht':∀ C s H fp pins,PC (zw X scope cl bs caps C s H fp pins) ifs tt) (he:∀ C s H fp pins,PE (zw X scope cl bs caps C s H fp pins) elt te)
  (hs:∀ y,foldedSetIterable iter X.env y=pure y:=by intro _; rfl):PE X (.ListComp elt [⟨tg,iter,ifs,0⟩] scope pos) (qi wi gt tt te bs.length js):=by
 intro pins s σ H Q I h
 rw [eval_ListComp]
 refine wpAny_comprehension_free (use:=none) rfl hs S.clos S.kind S.names (thn (hl pins s σ H (sA gt tt te bs.length (vB σ js) Q) I h) fun v s1 h1=>thn h1 fun itv s2 h2=>?_)
 obtain ⟨it,fp,tn,J,H',rfl,I2,T,t0,hfp,hr⟩:=h2
 refine uU (RR:=fun acc C=>compPost (model X.prog X.w) X.A X.xe none (EP X pins σ Q) acc C) hc S hg ht' he I2 T t0 hfp hr ?_
 intro D C H3 s' I' ⟨m,hn⟩ hC h1 h2 h3 h4 q
 exact ⟨m,hn,fun h' hs'=>⟨.ref D,H3,I'.turned (it:=C) (fun b o hb e=>hs'.extBut b o hb e) hC h1 (.inr h2) h3 h4,rfl,q⟩⟩
theorem ri {elt tg iter:Expr} {ifs:List Expr} {y:Str} {i:Nat} {py pos spos:Pos} {wi:TI} {gt:TG} {tt:TT} {te:TE} (hc:X.calm=true) (S:wY X scope cl bs caps js) (hN:X.N.Nodup) (hi:X.N[i]? = some y) (hy:Loc X.env.scope y) (hl:PI X tg iter wi) (hg:∀ C s H fp pins,PG (zw X scope cl bs caps C s H fp pins) tg gt)
  (ht':∀ C s H fp pins,PC (zw X scope cl bs caps C s H fp pins) ifs tt) (he:∀ C s H fp pins,PE (zw X scope cl bs caps C s H fp pins) elt te)
  (hsw:swapsWith (.ListComp elt [⟨tg,iter,ifs,0⟩] scope pos) (some (.Name y py)) spos.line X.env=pure true) (hs:∀ y,foldedSetIterable iter X.env y=pure y:=by intro _; rfl)
  (hf:X.fn y=true∨X.env.scope.names.lookup y=some .local:=by first | exact .inl rfl | exact .inr rfl | assumption):
  PS X (.Assign [.Name y py] (.ListComp elt [⟨tg,iter,ifs,0⟩] scope pos) spos) (ck (qi wi gt tt te bs.length js) (uK i)):=by
 intro pins s σ H D I h
 rw [exec_Assign_Name_used _ _ _ _ hsw]
 refine wpAny_bind (wpAny_standAt (wpAny_bind ?_))
 show wpAny _ X.A (do let _ ← comprehension (.ListComp elt [⟨tg,iter,ifs,0⟩] scope pos) scope X.env _ (newList []) false (eval iter X.env) (some (assign (.Name y py) X.env))) _ _ s
 refine wpAny_bind (wpAny_mono (wpAny_comprehension_free (use:=some (assign (.Name y py) X.env)) (Q:=fun _ s'=>SP X pins D .next s') rfl hs S.clos S.kind S.names (thn (hl pins s σ H (sA gt tt te bs.length (vB σ js) fun v H1=>uK i v σ H1 D.nx) I h) fun v s1 h1=>thn h1 fun itv s2 h2=>?_))
  (fun _ s' hq=>wpAny_pure (wpAny_pure hq)) fun _ _ e=>e)
 obtain ⟨it,fp,tn,J,H',rfl,I2,T,t0,hfp,hr⟩:=h2
 refine uU (RR:=fun acc C=>compPost (model X.prog X.w) X.A X.xe (some (assign (.Name y py) X.env)) (fun _ s'=>SP X pins D .next s') acc C) hc S hg ht' he I2 T t0 hfp hr ?_
 intro A C H3 s' I' ⟨m,hn⟩ hC h1 h2 h3 h4 q
 refine wpAny_assign_Name (tO I' hN hi hy (v:=.ref A) rfl (fun s3 I3 ⟨b,hb,hbb⟩=>?_) hf)
 have hCb:C≠b:=by
  rcases hbb with e | e
  ·rw [e]; exact h1
  ·exact fun z=>h3 y b e z.symm
 exact ⟨m,hn.sameBut hb hCb,fun h' hs'=>⟨_,H3,I3.turned (it:=C) (fun b o hb e=>hs'.extBut b o hb e) hC h1 (.inr h2) h3 h4,q⟩⟩
end
end OD
namespace OD
variable {Z:Hp}
open PySem PySem.Spec PyProof.Rows L2
def ue (osc scope:Scope) (bs caps:List Str) (js:List Nat) (N:List Str):Bool:=
 scope.names.all (fun y=>y.2 != .cell && (y.2 != .local || scope.names.lookup y.1 == some .local) && (y.2 != .free || (osc.names.lookup y.1 == some .cell && !bs.contains y.1))) && (scope.kind == .function) && (osc.kind == .function) && bs.all (fun x=>scope.names.lookup x == some .local) &&
 decide (bs++caps).Nodup && (js.map (fun j=>N[j]?) == caps.map some) && caps.all (fun y=>scope.names.lookup y == some .free && osc.names.lookup y == some .cell)
theorem pV {X:Cx} {osc scope:Scope} {bs:List Str} {caps:List Str} {js:List Nat} {L:Addr} (h:ue osc scope bs caps js X.N=true) (he:X.env.scope=osc) (hc:X.env.cells=cellsFrom (L+1) osc.names []):wY X scope (xv X.env.cells scope.names) bs caps js:=by
 unfold ue at h
 simp only [Bool.and_eq_true] at h
 obtain ⟨⟨⟨⟨⟨⟨h1,h2⟩,h3⟩,h4⟩,h5⟩,h6⟩,h7⟩:=h
 rw [List.all_eq_true] at h1 h4 h7
 have hfree:∀ y,(y,NameKind.free)∈scope.names→osc.names.lookup y=some .cell∧bs.contains y=false:=fun y hy=>by
  have q:=h1 _ hy
  rw [Bool.and_eq_true,Bool.and_eq_true] at q
  have q:(osc.names.lookup y == some .cell && !bs.contains y)=true:=q.2
  rw [Bool.and_eq_true] at q
  exact ⟨eq_of_beq q.1,by cases z:bs.contains y with | false=>rfl | true=>rw [z] at q; cases q.2⟩
 have hcell:∀ y,osc.names.lookup y=some .cell→∃ c,X.env.cells.lookup y=some c:=fun y hy=>by rw [hc]; exact uV hy
 have hfc:∀ y,(y,NameKind.free)∈scope.names→∃ c,X.env.cells.lookup y=some c:=fun y hy=>hcell y (hfree y hy).1
 have hk:X.env.scope.kind=.function:=by rw [he]; exact eq_of_beq h3
 have hj:js.map (fun j=>X.N[j]?)=caps.map some:=eq_of_beq h6
 refine ⟨dD hfc,fun y c q=>(mem_clOf.mp (PySem.mem_of_lookup q)).2,fun y q=>?_,fun x hx=>?_,fun y hy e=>?_,eq_of_beq h2,fun y hy e=>?_,fun x hx=>eq_of_beq (h4 x hx),of_decide_eq_true h5,?_,fun k y q=>?_,fun y hy=>?_⟩
 ·have:(y,NameKind.free)∈scope.names:=by
   have mem:∃ k,(y,k)∈(relabel scope X.env).names∧(k=.cell∨k=.free):=by
    rcases q with q | q
    ·exact ⟨_,PySem.mem_of_lookup q,.inl rfl⟩
    ·exact ⟨_,PySem.mem_of_lookup q,.inr rfl⟩
   obtain ⟨k,hm,hk'⟩:=mem
   obtain ⟨⟨n,k0⟩,hn,e⟩:=List.mem_map.mp hm
   have ncell:k0≠.cell:=fun z=>by
    have q:=h1 _ hn
    rw [Bool.and_eq_true,Bool.and_eq_true] at q
    exact absurd z (bne_iff_ne.mp q.1.1)
   dsimp only at e
   split at e
   ·rename_i hz
    rw [Bool.and_eq_true,Bool.and_eq_true] at hz
    obtain rfl:=eq_of_beq hz.1.1
    cases e
    exact hn
   ·cases e
    rcases hk' with z | z
    ·exact absurd z ncell
    ·rw [z] at hn; exact hn
  obtain ⟨c,hc'⟩:=hfc y this
  exact uF (mem_clOf.mpr ⟨this,hc'⟩)
 ·cases q:(xv X.env.cells scope.names).lookup x with
  | none=>rfl
  | some c=>
   have z:=(hfree x (mem_clOf.mp (PySem.mem_of_lookup q)).1).2
   rw [List.contains_iff_mem.mpr hx] at z
   cases z
 ·have q:=h1 y hy
  rw [Bool.and_eq_true,Bool.and_eq_true] at q
  exact absurd e (bne_iff_ne.mp q.1.1)
 ·have q:=h1 y hy
  rw [Bool.and_eq_true,Bool.and_eq_true,e] at q
  exact eq_of_beq (show (scope.names.lookup y.1 == some .local)=true from q.1.2)
 ·have:=congrArg List.length hj
  rwa [List.length_map,List.length_map] at this
 ·have e:(js.map fun j=>X.N[j]?)[k]? = (caps.map some)[k]?:=by rw [hj]
  rw [List.getElem?_map,List.getElem?_map,q] at e
  obtain ⟨j,hj1,hj2⟩:=Option.map_eq_some_iff.mp e
  exact ⟨j,hj1,hj2⟩
 ·have q:=h7 y hy
  rw [Bool.and_eq_true] at q
  have q2:X.env.scope.names.lookup y=some .cell:=by rw [he]; exact eq_of_beq q.2
  exact ⟨yt hk (eq_of_beq q.1) q2,q2⟩
theorem pi {K:PySem.W.Frag} {F:Hp} {W W2:Vw} {ρ:DS} {σ:St} {js:List Nat} {ds:List Dt} {vs:List V} (r:Rl K Z F W ρ σ) (s2:Same W.g W2.g) (i:AllIs K W2.g ds vs):Rl K (fun _=>none) W2.h W2 (ds.map Sl.some++wU ρ js) (vs.map some++vB σ js):=by
 have no:∀ (j:Nat) (es:List Dt),(ds.map Sl.some++wU ρ js)[j]? = some (.own es)→False:=fun j es q=>by
  have q:=List.mem_of_getElem? q
  rcases List.mem_append.mp q with q | q
  ·obtain ⟨_,_,e⟩:=List.mem_map.mp q
   cases e
  ·unfold wU at q
   obtain ⟨j,_,e⟩:=List.mem_map.mp q
   split at e <;> cases e
 have noO:∀ (j:Nat) (φ:ObP),(ds.map Sl.some++wU ρ js)[j]? = some (.obj φ)→False:=fun j φ q=>by
  have q:=List.mem_of_getElem? q
  rcases List.mem_append.mp q with q | q
  ·obtain ⟨_,_,e⟩:=List.mem_map.mp q
   cases e
  ·unfold wU at q
   obtain ⟨j,_,e⟩:=List.mem_map.mp q
   split at e <;> cases e
 have noA:∀ (j:Nat) (a:Addr) (es:List Dt),(ds.map Sl.some++wU ρ js)[j]? = some (.arg a es)→False:=fun j a es q=>by
  have q:=List.mem_of_getElem? q
  rcases List.mem_append.mp q with q | q
  ·obtain ⟨_,_,e⟩:=List.mem_map.mp q
   cases e
  ·unfold wU at q
   obtain ⟨j,_,e⟩:=List.mem_map.mp q
   split at e <;> cases e
 refine ⟨by unfold wU vB; rw [List.length_append,List.length_append,List.length_map,List.length_map,List.length_map,List.length_map,i.length],fun j e q=>?_,fun j ds q=>(no j ds q).elim,fun j j' ds ds' _ q _=>(no j ds q).elim,Same.refl _,(fun _ _ q=>nomatch q),fun j a ds q=>(noA j a ds q).elim,fun j φ q=>(noO j φ q).elim⟩
 by_cases hj:j<ds.length
 ·rw [List.getElem?_append_left (by rw [List.length_map]; exact hj),List.getElem?_map] at q
  obtain ⟨d,hd,e1⟩:=Option.map_eq_some_iff.mp q
  cases e1
  obtain ⟨v,hv,iv⟩:=i.get hd
  exact ⟨v,by rw [List.getElem?_append_left (by rw [List.length_map,← i.length]; exact hj),List.getElem?_map,hv]; rfl,iv⟩
 ·have hj:ds.length≤j:=Nat.le_of_not_lt hj
  rw [List.getElem?_append_right (by rw [List.length_map]; exact hj),List.length_map] at q
  rw [List.getElem?_append_right (by rw [List.length_map,← i.length]; exact hj),List.length_map,← i.length]
  unfold wU at q
  rw [List.getElem?_map] at q
  obtain ⟨k,hk,e2⟩:=Option.map_eq_some_iff.mp q
  split at e2
  ·rename_i d' hd
   cases e2
   obtain ⟨u,hu,iu⟩:=r.at_ k e hd
   refine ⟨u,?_,Is.mono0 s2 iu⟩
   unfold vB
   rw [List.getElem?_map,hk]
   show some ((σ[k]?).getD none)=_
   rw [hu]
   rfl
  ·cases e2
abbrev DTI:=DS→(Nat→(Nat→Dt→Prop)→Prop)→Prop
def LiI (K:PySem.W.Frag) (Z:Hp) (wi:TI) (di:DTI):Prop:=∀ {F:Hp} (ρ:DS) (σ:St) (W:Vw) (Q:Nat→(Nat→Dt→Prop)→Prop),Rl K Z F W ρ σ→di ρ Q→∀ R:It→Hp→Prop,
 (∀ (J:It) (n:Nat) (vals:Nat→Dt→Prop) (W1:Vw),Le W W1→n≤100000→(∀ W2:Vw,Same W1.g W2.g→(∀ i,i<n→J.go i W2.h∧∀ v H3,J.yld i W2.h v H3→∃ W3:Vw,Le W2 W3∧W3.h=H3∧∃ e,vals i e∧Is K W3.g e v)∧J.stop n W2.h)→Q n vals→R J W1.h)→wi σ W.h R
def DI (X:Cx) (tg iter:Expr) (di:DTI):Prop:=∃ wi,PI X tg iter wi∧LiI X.K (Zx X) wi di
def LiG (K:PySem.W.Frag) (k:Nat) (gt:TG) (dg:Dt→List Dt→Prop):Prop:=∀ (e:Dt) (v:V) (σ0 τ:St) (W:Vw) (as:List Dt),σ0.length=k→Is K W.g e v→dg e as→∀ Q:St→Hp→Prop,
 (∀ vs,AllIs K W.g as vs→vs.length=k→Q (vs.map some++τ) W.h)→gt v (σ0++τ) W.h Q
def dz:Dt→List Dt→Prop:=fun e as=>as=[e]
def Xs:Dt→List Dt→Prop:=fun e as=>∃ a b,e=.tup [a,b]∧as=[a,b]
theorem eg {K:PySem.W.Frag}:LiG K 1 (uK 0) dz:=by
 rintro e v σ0 τ W as hl i rfl Q q
 match σ0,hl with
 | [a],_=>exact q [v] (allIs_cons.mpr ⟨v,[],rfl,i,allIs_nil.mpr rfl⟩) rfl
theorem f_ {K:PySem.W.Frag}:LiG K 2 (Xm K 2 (km (uK 0) (km (uK 1) Xn))) Xs:=by
 rintro e v σ0 τ W as hl i ⟨a,b,rfl,rfl⟩ Q q
 obtain ⟨T,us,rfl,hT,hu⟩:=is_tup.mp i
 obtain ⟨v1,v2,rfl,k1,k2⟩:=hu.two
 match σ0,hl with
 | [x,y],_=>exact ⟨T,_,rfl,.of (W.sub _ _ hT),rfl,v1,[v2],rfl,v2,[],rfl,rfl,q [v1,v2] hu rfl⟩
def DC (X:Cx) (ifs:List Expr) (t:DTT):Prop:=∃ tt,PC X ifs tt∧LiT X.K (Zx X) tt t
def rW:DTT:=fun _ Q=>Q true
theorem ZO {X:Cx}:DC X [] rW:=⟨_,cI,fun _ _ W _ _ h _ k=>k true W (Le.refl W) h⟩
theorem ZN {X:Cx} {c:Expr} {t:DTT} (h:DT X c t):DC X [c] t:=let ⟨_,p,l⟩:=h; ⟨_,cH p,l⟩
def l5 (K:PySem.W.Frag) (t:DTT):TT:=fun σ H R=>∃ (F:Hp) (ρ:DS) (W:Vw) (Q:Bool→Prop),W.h=H∧Rl K (fun _=>none) F W ρ σ∧t ρ Q∧∀ d W',Le W W'→Q d→R d W'.h
theorem DC.up {X:Cx} {ifs:List Expr} {t:DTT} (h:DC X ifs t) (hz:X.stack.length=X.outer.length:=by rfl):PC X ifs (l5 X.K t):=by
 obtain ⟨te,p,l⟩:=h
 intro pins s σ H R E hE I q
 obtain ⟨F,ρ,W,Q,rfl,r,h,k⟩:=q
 have r':Rl X.K (Zx X) F W ρ σ:=by unfold Zx; rw [if_pos (Or.inl hz)]; exact r
 exact p pins s σ W.h R E hE I (l ρ σ W Q r' h R k)
theorem rC {K:PySem.W.Frag} {t:DTT}:LiT K (fun _=>none) (l5 K t) t:=fun ρ σ H Q r h R k=>⟨_,ρ,H,Q,rfl,r,h,k⟩
def vA (js:List Nat) (di:DTI) (dg:Dt→List Dt→Prop) (tt:DTT) (te:DTE):DTE:=fun ρ Q=>di ρ fun n vals=>∃ Pv:Nat→List Dt→Prop,Pv 0 []∧
 (∀ (i:Nat) e es,i<n→vals i e→Pv i es→∃ as,dg e as∧tt (as.map Sl.some++wU ρ js) fun b=>if b=true then te (as.map Sl.some++wU ρ js) fun y=>Pv (i+1) (es++[y]) else Pv (i+1) es)∧∀ es,Pv n es→Q (.lst es)
theorem rD {K:PySem.W.Frag} {wi:TI} {gt:TG} {tt:TT} {te:TE} {di:DTI} {dg:Dt→List Dt→Prop} {dt:DTT} {u:DTE} {k:Nat} {js:List Nat} (h1:LiI K Z wi di) (hg:LiG K k gt dg) (ht':LiT K (fun _=>none) tt dt) (h2:LiE K (fun _=>none) te u):LiF K Z (qi wi gt tt te k js) (vA js di dg dt u):=by
 intro F ρ σ H Q r h R kk
 refine h1 ρ σ H _ r h _ fun J n vals W1 s1 hn hJ ⟨Pv,h0,ht,hd⟩=>?_
 have r1:=r.mono s1
 refine ⟨n,Nat.lt_of_le_of_lt hn (by decide),fun D hD=>?_⟩
 have gD:W1.g D=none:=W1.sub.free hD
 have stp:∀ {W2 W3:Vw} {ys:List V} {es:List Dt},Same W1.g W2.g∧Same W1.h (fun b=>if b=D then none else W2.h b)∧(∀ b,W1.h b≠none→W1.g b=none→W2.g b=none)∧W2.h D=some (.lst ys)∧W2.g D=none∧AllIs K W2.g es ys→Le W2 W3→
   Same W1.g W3.g∧Same W1.h (fun b=>if b=D then none else W3.h b)∧(∀ b,W1.h b≠none→W1.g b=none→W3.g b=none)∧W3.h D=some (.lst ys)∧W3.g D=none∧AllIs K W3.g es ys:=by
  rintro W2 W3 ys es ⟨s2,sh,sn,q1,q2,q3⟩ s3
  refine ⟨s2.trans s3.g,fun b o q=>?_,fun b z1 z2=>?_,s3.h _ _ q1,s3.n D (by rw [q1]; intro z; cases z) q2,q3.mono s3⟩
  ·have q':(if b=D then none else W2.h b)=some o:=sh b o q
   have hb:b≠D:=fun e=>by rw [e,hD] at q; cases q
   rw [if_neg hb] at q'
   show (if b=D then none else W3.h b)=some o
   rw [if_neg hb]
   exact s3.h _ _ q'
  ·have hb:b≠D:=fun e=>z1 (e ▸ hD)
   have z3:=sn b z1 z2
   refine s3.n b ?_ z3
   cases q:W1.h b with
   | none=>exact absurd q z1
   | some o=>
    have q':(if b=D then none else W2.h b)=some o:=sh b o q
    rw [if_neg hb] at q'
    rw [q']
    intro z; cases z
 refine ⟨fun i ys H2=>∃ (W2:Vw) (es:List Dt),W2.h=H2∧(Same W1.g W2.g∧Same W1.h (fun b=>if b=D then none else W2.h b)∧(∀ b,W1.h b≠none→W1.g b=none→W2.g b=none)∧W2.h D=some (.lst ys)∧W2.g D=none∧AllIs K W2.g es ys)∧ys.length≤i∧Pv i es,fun i v ys H2=>∃ (W2:Vw) (es:List Dt) (e:Dt),W2.h=H2∧(Same W1.g W2.g∧Same W1.h (fun b=>if b=D then none else W2.h b)∧(∀ b,W1.h b≠none→W1.g b=none→W2.g b=none)∧W2.h D=some (.lst ys)∧W2.g D=none∧AllIs K W2.g es ys)∧ys.length≤i∧Pv i es∧vals i e∧Is K W2.g e v,?_,?_,?_,?_,?_,?_⟩
 ·refine ⟨W1.mine D (.lst []) gD,[],rfl,⟨Same.refl _,fun b o q=>?_,fun b _ q=>q,zh,gD,allIs_nil.mpr rfl⟩,Nat.le_refl _,h0⟩
  have hb:b≠D:=fun e=>by rw [e,hD] at q; cases q
  show (if b=D then none else upd W1.h D (.lst []) b)=some o
  rw [if_neg hb,zl hb]
  exact q
 ·rintro i ys _ _ ⟨W2,es,rfl,⟨s2,_,_,q1,q2,_⟩,q4,_⟩
  exact ⟨q1,q4⟩
 ·rintro i ys _ hi ⟨W2,es,rfl,hW2,q4,q5⟩
  obtain ⟨g1,g2⟩:=(hJ W2 hW2.1).1 i hi
  refine ⟨g1,fun v H3 y=>?_⟩
  obtain ⟨W3,s3,e3,e,he,ie⟩:=g2 v H3 y
  exact ⟨W3,es,e,e3,stp hW2 s3,q4,q5,he,ie⟩
 ·rintro ys _ ⟨W2,es,rfl,⟨s2,_⟩,_⟩
  exact (hJ W2 s2).2
 ·rintro i v ys _ σ0 hi ⟨W2,es,e,rfl,hW2,q4,q5,he,ie⟩ hσ0
  obtain ⟨as,da,w⟩:=ht i e es hi he q5
  refine hg e v σ0 _ W2 as hσ0 ie da _ fun vs ivs lvs=>⟨⟨vs.map some,rfl,by rw [List.length_map]; exact lvs⟩,?_⟩
  refine ht' (F:=W2.h) (as.map Sl.some++wU ρ js) (vs.map some++vB σ js) W2 _ (pi r1 hW2.1 ivs) w _ fun b W3 s3 w3=>?_
  have hW3:=stp hW2 s3
  cases b with
  | false=>exact ⟨W3,es,rfl,hW3,Nat.le_succ_of_le q4,w3⟩
  | true=>
   show te _ _ _
   refine h2 (F:=W3.h) (as.map Sl.some++wU ρ js) (vs.map some++vB σ js) W3 _ (pi r1 hW3.1 (ivs.mono s3)) w3 _ fun y w W4 s4 i4 q6=>?_
   obtain ⟨a1,a2,a3,a4,a5,a6⟩:=stp hW3 s4
   refine ⟨a4,W4.mine D (.lst (ys++[w])) a5,es++[y],rfl,⟨a1,fun b o q=>?_,a3,zh,a5,a6.append (allIs_cons.mpr ⟨w,[],rfl,i4,allIs_nil.mpr rfl⟩)⟩,by rw [List.length_append]; exact Nat.succ_le_succ q4,q6⟩
   have q':(if b=D then none else W4.h b)=some o:=a2 b o q
   have hb:b≠D:=fun e=>by rw [e,hD] at q; cases q
   rw [if_neg hb] at q'
   show (if b=D then none else upd W4.h D (.lst (ys++[w])) b)=some o
   rw [if_neg hb,zl hb]
   exact q'
 ·rintro ys _ ⟨W2,es,rfl,⟨s2,sh,sn,q1,q2,q3⟩,_,q5⟩
  refine kk es D ys W2 (s1.trans ⟨s2,fun b o q=>?_,sn⟩) (s1.h.free hD) q1 q2 q3 (hd es q5)
  have q':(if b=D then none else W2.h b)=some o:=sh b o q
  have hb:b≠D:=fun e=>by rw [e,hD] at q; cases q
  rwa [if_neg hb] at q'
def kU (ta:DTE):DTI:=fun ρ Q=>ta ρ fun d=>∃ ds,vn d=some ds∧ds.length≤100000∧Q ds.length fun i e=>ds[i]? = some e
section
variable {X:Cx} {fr:Fr} {osc scope:Scope} {bs caps:List Str} {js:List Nat} {N0:List Str} {L:Addr} {tg iter elt a:Expr} {ifs:List Expr} {ta te:DTE} {di:DTI} {tt:DTT} {dg:Dt→List Dt→Prop} {gt:TG} {px p0 pos pos1:Pos}
theorem pQ (h:DE X iter ta):DI X tg iter (kU ta):=by
 obtain ⟨te,p,l⟩:=h
 refine ⟨_,pq p,fun ρ σ W Q r h R k=>l ρ σ W _ r h _ fun d v W1 s1 i1 ⟨ds,el,hl,q⟩=>?_⟩
 obtain ⟨a,xs,rfl,hq,ha⟩:=Zo i1 el
 refine ⟨a,rfl,⟨xs,hq W1 (Same.refl _)⟩,k _ _ _ W1 s1 hl (fun W2 s2=>⟨fun i hi=>?_,?_⟩) q⟩
 ·rw [ha.length] at hi
  have hv:=List.getElem?_eq_getElem hi
  refine ⟨⟨xs,_,hq W2 s2,hv⟩,fun v' H3 ⟨e1,e2⟩=>⟨W2,Le.refl _,e1.symm,?_⟩⟩
  obtain ⟨e,he,ie⟩:=ha.get' (e2 xs (hq W2 s2))
  exact ⟨e,he,Is.mono0 s2 ie⟩
 ·exact ⟨xs,hq W2 s2,by rw [ha.length]; exact Nat.le_refl _⟩
theorem kO (hc:X.calm=true) (S:ue osc scope bs caps js N0=true) (hN0:X.N=N0) (he':X.env.scope=osc) (hcs:X.env.cells=cellsFrom (L+1) osc.names []) (hl:DI X tg iter di)
  (hg:∀ C s H fp pins,PG (zw X scope (xv X.env.cells scope.names) bs caps C s H fp pins) tg gt) (lg:LiG X.K bs.length gt dg)
  (ht:∀ C s H fp pins,DC (zw X scope (xv X.env.cells scope.names) bs caps C s H fp pins) ifs tt)
  (he:∀ C s H fp pins,DE (zw X scope (xv X.env.cells scope.names) bs caps C s H fp pins) elt te) (hs:∀ y,foldedSetIterable iter X.env y=pure y:=by intro _; rfl):
  DF X (.ListComp elt [⟨tg,iter,ifs,0⟩] scope pos) (vA js di dg tt te):=by
 obtain ⟨wi,p,l⟩:=hl
 exact ⟨_,nI hc (pV (hN0 ▸ S) he' hcs) p hg (fun C s H fp pins=>(ht C s H fp pins).up) (fun C s H fp pins=>(he C s H fp pins).up) hs,rD l lg rC pF⟩
theorem sR {y:Str} {i:Nat} {py spos:Pos} (hc:X.calm=true) (S:ue osc scope bs caps js N0=true) (hN0:X.N=N0) (he':X.env.scope=osc) (hcs:X.env.cells=cellsFrom (L+1) osc.names []) (hN:X.N.Nodup) (hi:X.N[i]? = some y) (hy:Loc X.env.scope y) (hl:DI X tg iter di)
  (hg:∀ C s H fp pins,PG (zw X scope (xv X.env.cells scope.names) bs caps C s H fp pins) tg gt) (lg:LiG X.K bs.length gt dg)
  (ht:∀ C s H fp pins,DC (zw X scope (xv X.env.cells scope.names) bs caps C s H fp pins) ifs tt)
  (he:∀ C s H fp pins,DE (zw X scope (xv X.env.cells scope.names) bs caps C s H fp pins) elt te)
  (hsw:swapsWith (.ListComp elt [⟨tg,iter,ifs,0⟩] scope pos) (some (.Name y py)) spos.line X.env=pure true:=by rfl) (hs:∀ y,foldedSetIterable iter X.env y=pure y:=by intro _; rfl)
  (hf:X.fn y=true∨X.env.scope.names.lookup y=some .local:=by first | exact .inl rfl | exact .inr rfl | assumption):
  DSt X fr (.Assign [.Name y py] (.ListComp elt [⟨tg,iter,ifs,0⟩] scope pos) spos) (du i (vA js di dg tt te)):=by
 obtain ⟨wi,p,l⟩:=hl
 exact ⟨_,ri (te:=l6 X.K te) (tt:=l5 X.K tt) hc (pV (hN0 ▸ S) he' hcs) hN hi hy p hg (fun C s H fp pins=>(ht C s H fp pins).up) (fun C s H fp pins=>(he C s H fp pins).up) hsw hs hf,fun W0 G ρ σ W D D' a s h=>LiF.le (rD l lg (rC (t:=tt)) (pF (t:=te))) ρ σ W _ a.rl h _ fun d v W1 s1 i1 q1=>s.nx _ _ W1 ((a.step s1).set i i1) q1⟩
end
end OD
namespace OD
variable {Z:Hp}
open PySem PySem.Spec PyProof.Rows L2
section
variable {K:PySem.W.Frag} {F:Hp} {W W' W0:Vw}
theorem NewL.mono {d:Dt} {v:V} (h:NewL K F W d v) (s:Le W W'):NewL K F W' d v:=by
 obtain ⟨es,p,xs,h1,h2,h3,h4,h5,h6⟩:=h
 exact ⟨es,p,xs,h1,h2,h3,s.h _ _ h4,s.n p (by rw [h4]; intro z; cases z) h5,h6.mono s⟩
theorem Prt.mono {b:Bool} {d:Dt} {v:V} (h:Prt K F W b d v) (s:Le W W'):Prt K F W' b d v:=by
 cases b with
 | false=>exact Is.mono h s
 | true=>
  rcases h with h | ⟨h1,h2⟩
  ·exact .inl (h.mono s)
  ·exact .inr ⟨h1,Is.mono h2 s⟩
theorem Prt.frz {b:Bool} {d:Dt} {u:V} (le:Le W0 W) (h:Prt K W0.h W b d u):∃ W1:Vw,W1.h=W.h∧Same W.g W1.g∧Le W0 W1∧Is K W1.g d u∧
  ∀ b2 d2 u2,Prt K W0.h W b2 d2 u2→(∀ es fs,b=true→b2=true→d=.lst es→d2=.lst fs→u≠u2)→Prt K W0.h W1 b2 d2 u2:=by
 cases b with
 | false=>exact ⟨W,rfl,Same.refl _,le,h,fun _ _ _ k _=>k⟩
 | true=>
  rcases h with ⟨es,p,xs,rfl,rfl,h3,h4,h5,h6⟩ | ⟨_,h2⟩
  ·refine ⟨W.frz p _ h4,rfl,zA h5 _,xD le h3 h4 h5,is_lst.mpr ⟨p,xs,rfl,zh,AllIs.mono0 (zA h5 _) h6⟩,fun b2 d2 u2 k ne=>?_⟩
   cases b2 with
   | false=>exact Is.mono0 (zA h5 _) k
   | true=>
    rcases k with ⟨fs,q,ys,rfl,rfl,k3,k4,k5,k6⟩ | ⟨k1,k2⟩
    ·have hq:q≠p:=fun z=>ne es fs rfl rfl rfl rfl (by rw [z])
     exact .inl ⟨fs,q,ys,rfl,rfl,k3,k4,(zl hq).trans k5,AllIs.mono0 (zA h5 _) k6⟩
    ·exact .inr ⟨k1,Is.mono0 (zA h5 _) k2⟩
  ·exact ⟨W,rfl,Same.refl _,le,h2,fun _ _ _ k _=>k⟩
theorem Tld.frz {fr:Fr} {d:Dt} {v:V} (le:Le W0 W) (h:Tld K W0.h W fr d v):∃ W1:Vw,W1.h=W.h∧Le W0 W1∧Is K W1.g d v:=by
 match fr,h with
 | .d,h=>exact ⟨W,rfl,le,h⟩
 | .l,⟨es,p,xs,e1,e2,h3,h4,h5,h6⟩=>
  subst e1; subst e2
  exact ⟨W.frz p _ h4,rfl,xD le h3 h4 h5,is_lst.mpr ⟨p,xs,rfl,zh,AllIs.mono0 (zA h5 _) h6⟩⟩
 | .t a b,⟨d1,d2,q,u1,u2,e1,e2,hq,p1,p2,ne⟩=>
  subst e1; subst e2
  obtain ⟨W1,e1,s1,le1,i1,k1⟩:=p1.frz le
  obtain ⟨W2,e2,s2,le2,i2,_⟩:=(k1 b d2 u2 p2 ne).frz le1
  exact ⟨W2,e2.trans e1,le2,is_tup.mpr ⟨q,_,rfl,s2 _ _ (s1 _ _ hq),allIs_cons.mpr ⟨u1,_,rfl,Is.mono0 s2 i1,allIs_cons.mpr ⟨u2,_,rfl,i2,allIs_nil.mpr rfl⟩⟩⟩⟩
end
def pW (K:PySem.W.Frag) (fr:Fr) (S:DSp):Sp:=fun vs H Q _=>∃ (W:Vw) (ds:List Dt) (Qd:Dt→Prop),W.h=H∧AllIs K W.g ds vs∧S ds Qd∧∀ d v W',Le W W'→Tld K W.h W' fr d v→Qd d→Q v W'.h
def vC (K:PySem.W.Frag) (fr:Fr) (S:z5):Sp:=fun vs H Q E=>∃ (W:Vw) (ds:List Dt) (Qd:Dt→Prop) (Ed:Addr→Prop),W.h=H∧AllIs K W.g ds vs∧S ds Qd Ed∧
 (∀ d v W',Le W W'→Tld K W.h W' fr d v→Qd d→Q v W'.h)∧∀ C H',Same W.h H'→Ed C→E (.ref C) none H'
structure TOk (P:Program) (w:World) (K:PySem.W.Frag) (mg:Str→Option Value) (base:Heap) (n:Nat) (x:Str) (fr:Fr) (S:DSp):Prop where
 ex:∃ f fd ps,mg x=some (.ref f)∧PySem.W.keepIn K (.ref f)=true∧Binds K fd ps []∧FnOk P w K mg base CX0 n f fd ps (pW K fr S)
structure TOkX (P:Program) (w:World) (K:PySem.W.Frag) (mg:Str→Option Value) (base:Heap) (n:Nat) (x:Str) (fr:Fr) (S:z5):Prop where
 ex:∃ f fd ps,mg x=some (.ref f)∧PySem.W.keepIn K (.ref f)=true∧Binds K fd ps []∧FnOk P w K mg base (CX1 P w) n f fd ps (vC K fr S)
section
variable {P:Program} {w:World} {K:PySem.W.Frag} {mg:Str→Option Value} {base:Heap} {fr:Fr}
theorem TOk.dok {x:Str} {n:Nat} {S:DSp} (h:TOk P w K mg base n x fr S):DOk P w K mg base n x S:=
 let ⟨f,fd,ps,h1,h2,h3,h4⟩:=h.ex; ⟨f,fd,ps,h1,h2,h3,h4.imp fun vs H Q E ⟨W,ds,Qd,a,b,c,k⟩=>⟨W,ds,Qd,a,b,c,fun d v W' le t q=>by
  obtain ⟨W1,e1,le1,i1⟩:=t.frz le
  rw [← e1]
  exact k d v W1 le1 i1 q⟩⟩
theorem TOkX.dok {x:Str} {n:Nat} {S:z5} (h:TOkX P w K mg base n x fr S):DOkX P w K mg base n x S:=
 let ⟨f,fd,ps,h1,h2,h3,h4⟩:=h.ex; ⟨f,fd,ps,h1,h2,h3,h4.imp fun vs H Q E ⟨W,ds,Qd,Ed,a,b,c,k,ke⟩=>⟨W,ds,Qd,Ed,a,b,c,fun d v W' le t q=>by
  obtain ⟨W1,e1,le1,i1⟩:=t.frz le
  rw [← e1]
  exact k d v W1 le1 i1 q,ke⟩⟩
theorem okT {x qual:Str} {st:Stmt} {f:Addr} {fd:FuncData} {N ps:List Str} {k:Nat} {S:DSp} (F:Fun K x qual st f fd) (sc:zi N ps (defScope st)) (len:∀ ds Q,S ds Q→ds.length=ps.length)
  (hbody:∀ (cdv:Value) (A:Around) (outer:List Env) (s:Shared) (H:Hp) (E:XK),Room k (A.deeper (envOfC qual (defScope st) s.heap.objs.size f cdv))→∀ (ds:List Dt) (Q:Dt→Prop),S ds Q→
   ∃ t,DSs (yb CX0 P w K mg base N qual (defScope st) f cdv A outer s H E).nox fr (defBody st) t∧t { nx:=fun _=>False,rt:=Q } (zZ N.length ds)):FnOk P w K mg base CX0 (k+1) f fd ps (pW K fr S):=by
 refine F.ok sc (fun vs H Q E h=>?_) (fun cdv A outer s H vs Q E hr h=>?_)
 ·obtain ⟨W,ds,Qd,_,ia,hS,_⟩:=h
  rw [← ia.length]
  exact len ds Qd hS
 obtain ⟨W,ds,Qd,rfl,ia,hS,kk⟩:=h
 obtain ⟨t,⟨ts,p,l⟩,ht⟩:=hbody cdv A outer s W.h E hr ds Qd hS
 exact ⟨ts,p,l W W.g (zZ N.length ds) (start N vs) W { nx:=fun _=>False,rt:=Qd } _ (xM ia (uh (Nat.succ_ne_self _))) ⟨fun ρ σ W' a q=>q.elim,kk,fun _ _ _ _ q=>q.elim,fun _ _ _ _ q=>q.elim⟩ ht⟩
theorem Wt {x qual:Str} {st:Stmt} {f:Addr} {fd:FuncData} {N ps:List Str} {k:Nat} {S:z5} (F:Fun K x qual st f fd) (sc:zi N ps (defScope st)) (len:∀ ds Q R,S ds Q R→ds.length=ps.length)
  (hbody:∀ (cdv:Value) (A:Around) (outer:List Env) (s:Shared) (H:Hp) (E:XK),Room k (A.deeper (envOfC qual (defScope st) s.heap.objs.size f cdv))→∀ (ds:List Dt) (Q:Dt→Prop) (R:Addr→Prop),S ds Q R→
   (∀ C,R C→Rz (yb (CX1 P w) P w K mg base N qual (defScope st) f cdv A outer s H E) C)→
   ∃ t,DSs (yb (CX1 P w) P w K mg base N qual (defScope st) f cdv A outer s H E) fr (defBody st) t∧t { nx:=fun _=>False,rt:=Q } (zZ N.length ds)):FnOk P w K mg base (CX1 P w) (k+1) f fd ps (vC K fr S):=by
 refine Fun.okX F sc (fun vs H Q E h=>?_) (fun cdv A outer s H vs Q E hr h=>?_)
 ·obtain ⟨W,ds,Qd,Ed,_,ia,hS,_⟩:=h
  rw [← ia.length]
  exact len ds Qd Ed hS
 obtain ⟨W,ds,Qd,Ed,rfl,ia,hS,kk,ke⟩:=h
 obtain ⟨t,⟨ts,p,l⟩,ht⟩:=hbody cdv A outer s W.h E hr ds Qd Ed hS fun C hC=>nq fun H' z=>ke C H' z hC
 exact ⟨ts,p,l W W.g (zZ N.length ds) (start N vs) W { nx:=fun _=>False,rt:=Qd } _ (xM ia (uh (Nat.succ_ne_self _))) ⟨fun ρ σ W' a q=>q.elim,kk,fun _ _ _ _ q=>q.elim,fun _ _ _ _ q=>q.elim⟩ ht⟩
theorem TOk.mk' {x qual:Str} {st:Stmt} {f:Addr} {fd:FuncData} {ps:List Str} {n:Nat} {S:DSp} (F:Fun K x qual st f fd) (hm:mg x=some (.ref f)) (hb:Binds K fd ps []) (h:FnOk P w K mg base CX0 n f fd ps (pW K fr S)):TOk P w K mg base n x fr S:=
 ⟨f,fd,ps,hm,F.kp,hb,h⟩
theorem TOkX.mk' {x qual:Str} {st:Stmt} {f:Addr} {fd:FuncData} {ps:List Str} {n:Nat} {S:z5} (F:Fun K x qual st f fd) (hm:mg x=some (.ref f)) (hb:Binds K fd ps []) (h:FnOk P w K mg base (CX1 P w) n f fd ps (vC K fr S)):TOkX P w K mg base n x fr S:=
 ⟨f,fd,ps,hm,F.kp,hb,h⟩
end
def LiR (K:PySem.W.Frag) (Z:Hp) (fr:Fr) (te:TE) (t:DTE):Prop:=
 ∀ {F:Hp} (ρ:DS) (σ:St) (H:Vw) (Q:Dt→Prop),Rl K Z F H ρ σ→t ρ Q→∀ R:VK,(∀ d v H',Le H H'→Tld K H.h H' fr d v→Q d→R v H'.h)→te σ H.h R
def DR (X:Cx) (fr:Fr) (e:Expr) (t:DTE):Prop:=∃ te,PE X e te∧LiR X.K (Zx X) fr te t
def LiP (K:PySem.W.Frag) (Z:Hp) (b:Bool) (te:TE) (t:DTE):Prop:=
 ∀ {F:Hp} (ρ:DS) (σ:St) (H:Vw) (Q:Dt→Prop),Rl K Z F H ρ σ→t ρ Q→∀ R:VK,(∀ d v H',Le H H'→Prt K F H' b d v→Q d→R v H'.h)→te σ H.h R
def DP (X:Cx) (b:Bool) (e:Expr) (t:DTE):Prop:=∃ te,PE X e te∧LiP X.K (Zx X) b te t
theorem nh {K:PySem.W.Frag} {F G:Hp} {W:Vw} {fr:Fr} {d:Dt} {v:V} (z:∀ p,F p=none→G p=none) (h:Tld K F W fr d v):Tld K G W fr d v:=by
 have pp:∀ {b:Bool} {d:Dt} {v:V},Prt K F W b d v→Prt K G W b d v:=fun {b d v} h=>by
  cases b with
  | false=>exact h
  | true=>exact h.imp (fun h=>h.le z) id
 match fr,h with
 | .d,h=>exact h
 | .l,h=>exact NewL.le h z
 | .t a b,⟨d1,d2,q,u1,u2,e1,e2,hq,p1,p2,ne⟩=>exact ⟨d1,d2,q,u1,u2,e1,e2,hq,pp p1,pp p2,ne⟩
section
variable {X:Cx} {fr:Fr} {a b:Bool} {e e1 e2:Expr} {es:List Expr} {t t1 t2:DTE} {ta:DTA} {n:Nat} {x y:Str} {S:DSp} {SX:z5} {p pos p0 p1 p2:Pos} {i j:Nat}
theorem WM (h:DE X e t):DP X false e t:=let ⟨te,p,l⟩:=h; ⟨te,p,fun ρ σ H Q r h R k=>l ρ σ H Q r h R k⟩
def XD (i:Nat):DTE:=fun ρ Q=>∃ ds,ρ[i]? = some (.own ds)∧Q (.lst ds)
def XC (i:Nat):DTE:=fun ρ Q=>(∃ ds,ρ[i]? = some (.own ds)∧Q (.lst ds))∨∃ d,ρ[i]? = some (.some d)∧dM d=true∧Q d
theorem Xr (i:Nat) (hN:X.N[i]? = some x:=by rfl) (hv:Vis X.env.scope x:=by first | exact Or.inl rfl | exact Or.inr (Or.inl rfl) | exact Or.inr (Or.inr rfl)) (hd:(x == ("__debug__":Str))=false:=by decide)
  (hcd:(x == ("__classdict__":Str))=false:=by decide):DP X true (.Name x p0) (XC i):=by
 refine ⟨_,zJ hN hv hd hcd,fun ρ σ H Q r h R k=>?_⟩
 rcases h with ⟨ds,e,q⟩ | ⟨d,e,z,q⟩
 ·obtain ⟨b,xs,e1,e2,e3,e4,e5⟩:=r.ow i ds e
  exact ⟨.ref b,e1,k (.lst ds) _ H (Le.refl H) (.inl ⟨ds,b,xs,rfl,rfl,e4,e2,e3,e5⟩) q⟩
 ·obtain ⟨v,h1,h2⟩:=r.at_ i d e
  exact ⟨v,h1,k d v H (Le.refl H) (.inr ⟨z,h2⟩) q⟩
def dX (t1 t2:DTE):DTS:=fun D ρ=>t1 ρ fun d1=>t2 ρ fun d2=>D.rt (.tup [d1,d2])
theorem eU {x1} (h1:DP X a e1 t1) (h2:DP X b e2 t2) (hne:a=false∨b=false:=by first | exact .inl rfl | exact .inr rfl)
  (hst:starEach [e1,e2] X.env=(false,eval e1 X.env)::starEach [e2] X.env:=by rfl) (hst2:starEach [e2] X.env=(false,eval e2 X.env)::starEach [] X.env:=by rfl):
  DSt X (.t a b) (.Return (some (.Tuple [e1,e2] x1 p0)) pos) (dX t1 t2):=by
 obtain ⟨te1,q1,l1⟩:=h1
 obtain ⟨te2,q2,l2⟩:=h2
 refine ⟨_,uq (ur (zx q1 (zx q2 zP hst2) hst)),fun W0 G ρ σ W D D' at_ s h=>?_⟩
 refine l1 ρ σ W _ at_.rl h _ fun d1 u1 W1 s1 pt1 h=>?_
 refine l2 ρ σ W1 _ (at_.rl.mono s1) h _ fun d2 u2 W2 s2 pt2 q=>?_
 refine ⟨by show 2≤_; decide,fun p hp=>?_⟩
 have s3:=y4 hp (.tup [u1,u2])
 refine s.tl (.tup [d1,d2]) (.ref p) (W2.new p (.tup [u1,u2])) ((at_.le.trans s1).trans (s2.trans s3)) ⟨d1,d2,p,u1,u2,rfl,rfl,zh,(pt1.mono s2).mono s3,pt2.mono s3,fun _ _ z1 z2=>?_⟩ q
 rcases hne with z | z
 ·rw [z1] at z; cases z
 ·rw [z2] at z; cases z
theorem kG {x1} (i j:Nat) (hij:i≠j:=by decide) (hN:X.N[i]? = some x:=by rfl) (hN2:X.N[j]? = some y:=by rfl) (hv:Vis X.env.scope x:=by first | exact Or.inl rfl | exact Or.inr (Or.inl rfl) | exact Or.inr (Or.inr rfl)) (hv2:Vis X.env.scope y:=by first | exact Or.inl rfl | exact Or.inr (Or.inl rfl) | exact Or.inr (Or.inr rfl)) (hd:(x == ("__debug__":Str))=false:=by decide)
  (hcd:(x == ("__classdict__":Str))=false:=by decide) (hd2:(y == ("__debug__":Str))=false:=by decide) (hcd2:(y == ("__classdict__":Str))=false:=by decide)
  (hst:starEach [.Name x p1,.Name y p2] X.env=(false,eval (.Name x p1) X.env)::starEach [.Name y p2] X.env:=by rfl) (hst2:starEach [.Name y p2] X.env=(false,eval (.Name y p2) X.env)::starEach [] X.env:=by rfl):
  DSt X (.t true true) (.Return (some (.Tuple [.Name x p1,.Name y p2] x1 p0)) pos) (dX (XD i) (XD j)):=by
 refine ⟨_,uq (ur (zx (zJ hN hv hd hcd) (zx (zJ hN2 hv2 hd2 hcd2) zP hst2) hst)),fun W0 G ρ σ W D D' at_ s h=>?_⟩
 obtain ⟨ds,e,es,e',h⟩:=h
 obtain ⟨c,xs,e1,k2,k3,k4,k5⟩:=at_.rl.ow i ds e
 obtain ⟨c',ys,e1',k2',k3',k4',k5'⟩:=at_.rl.ow j es e'
 refine ⟨.ref c,e1,.ref c',e1',by show 2≤_; decide,fun p hp=>?_⟩
 have s3:=y4 hp (.tup [.ref c,.ref c'])
 have n1:NewL X.K W0.h W (.lst ds) (.ref c):=⟨ds,c,xs,rfl,rfl,k4,k2,k3,k5⟩
 have n2:NewL X.K W0.h W (.lst es) (.ref c'):=⟨es,c',ys,rfl,rfl,k4',k2',k3',k5'⟩
 refine s.tl _ (.ref p) (W.new p (.tup [.ref c,.ref c'])) (at_.le.trans s3) ⟨_,_,p,_,_,rfl,rfl,zh,.inl (n1.mono s3),.inl (n2.mono s3),fun _ _ _ _ _ _ z=>?_⟩ h
 exact at_.rl.ne i j ds es hij e e' (by rw [e1,e1',z])
def slP:Bool→Dt→Sl
 | true,.lst es=>.own es
 | _,d=>.some d
theorem Rl.ownN {K:PySem.W.Frag} {F:Hp} {W:Vw} {ρ:DS} {σ:St} (r:Rl K Z F W ρ σ) {p:Addr} {xs:List V} {ds:List Dt} (i:Nat) (nep:∀ (j:Nat) (es:List Dt),ρ[j]? = some (Sl.own es)→σ[j]?≠some (some (V.ref p))) (nea:∀ (j:Nat) (a:Addr) (es:List Dt),ρ[j]? = some (Sl.arg a es)→a≠p)
  (hF:F p=none) (h1:W.h p=some (.lst xs)) (h2:W.g p=none) (h3:AllIs K W.g ds xs):Rl K Z F W (ρ.set i (.own ds)) (σ.set i (some (.ref p))):=by
 refine ⟨by rw [List.length_set,List.length_set]; exact r.len,fun j e q=>?_,fun j es q=>?_,fun j k es es' hjk q1 q2=>?_,r.fr,r.z,fun j a fs q=>?_,r.ob.set i _ (fun φ z=>by cases z)⟩
 ·rcases zj q with ⟨_,_,e1⟩ | ⟨hij,q⟩
  ·cases e1
  ·rw [List.getElem?_set_ne hij]
   exact r.at_ j e q
 ·rcases zj q with ⟨rfl,hl,e1⟩ | ⟨hij,q⟩
  ·cases e1
   exact ⟨p,xs,by rw [List.getElem?_set_self (by rw [← r.len]; exact hl)],h1,h2,hF,h3⟩
  ·rw [List.getElem?_set_ne hij]
   exact r.ow j es q
 ·rcases zj q1 with ⟨rfl,hl,e1⟩ | ⟨hij,q1⟩
  ·rcases zj q2 with ⟨rfl,_,_⟩ | ⟨hik,q2⟩
   ·exact absurd rfl hjk
   ·rw [List.getElem?_set_self (by rw [← r.len]; exact hl),List.getElem?_set_ne hik]
    exact fun z=>nep k es' q2 z.symm
  ·rcases zj q2 with ⟨rfl,hl,_⟩ | ⟨hik,q2⟩
   ·rw [List.getElem?_set_self (by rw [← r.len]; exact hl),List.getElem?_set_ne hij]
    exact nep j es q1
   ·rw [List.getElem?_set_ne hij,List.getElem?_set_ne hik]
    exact r.ne j k es es' hjk q1 q2
 ·rcases zj q with ⟨_,_,e1⟩ | ⟨hij,q⟩
  ·cases e1
  obtain ⟨⟨ys,g1,g2⟩,k1,k2⟩:=r.ar j a fs q
  refine ⟨⟨ys,by rw [List.getElem?_set_ne hij]; exact g1,g2⟩,fun k es q'=>?_,fun k c es q'=>?_⟩
  ·rcases zj q' with ⟨rfl,hl,e1⟩ | ⟨hik,q'⟩
   ·rw [List.getElem?_set_self (by rw [← r.len]; exact hl)]
    intro z
    cases z
    exact nea j _ fs q rfl
   ·rw [List.getElem?_set_ne hik]
    exact k1 k es q'
  ·rcases zj q' with ⟨_,_,e1⟩ | ⟨hik,q'⟩
   ·cases e1
   exact k2 k c es q'
theorem Rl.part {K:PySem.W.Frag} {F F':Hp} {W:Vw} {ρ:DS} {σ:St} (r:Rl K Z F W ρ σ) {b:Bool} {d:Dt} {v:V} (i:Nat) (h:Prt K F' W b d v) (hF:∀ p,F' p=none→F p=none)
  (nep:∀ (p:Addr) (j:Nat) (es fs:List Dt),b=true→d=.lst fs→v=.ref p→F' p=none→ρ[j]? = some (Sl.own es)→σ[j]?≠some (some (V.ref p))) (nea:∀ (p:Addr) (j:Nat) (a:Addr) (es:List Dt),F' p=none→ρ[j]? = some (Sl.arg a es)→a≠p):
  Rl K Z F W (ρ.set i (slP b d)) (σ.set i (some v)):=by
 cases b with
 | false=>cases d <;> exact r.set i h
 | true=>
  rcases h with ⟨es,p,xs,rfl,rfl,h3,h4,h5,h6⟩ | ⟨z,h2⟩
  ·exact r.ownN i (fun j fs e=>nep p j fs es rfl rfl rfl h3 e) (fun j a fs e=>nea p j a fs h3 e) (hF p h3) h4 h5 h6
  ·cases d <;> first | exact r.set i h2 | cases z
end
end OD
namespace L2
open PySem PySem.Spec PyProof.Rows
def Cx.arg (X:Cx):Cx:={ X with fn:=fun y=>!(y == "") }
section
variable {X:Cx} {pins:List (Addr × Obj)} {σ:St} {H:Hp} {s:Shared}
theorem Inv.arg (I:Inv X pins σ H s) (hf:∀ y,X.fn y=true):Inv X.arg pins σ H s:=
 ⟨⟨I.ok.mod,I.ok.kind,I.ok.glob,I.ok.blt,I.ok.above,I.ok.inj,I.ok.has,fun x c _=>I.ok.cab x c (hf x),I.ok.hd,I.ok.frames,I.ok.stk,I.ok.exf,I.ok.bs,I.ok.bsz,I.ok.noex,I.ok.exfs,I.ok.funs,I.ok.frf⟩,I.os,I.bare,I.base,I.loc,I.cell,I.free,I.freeC,I.pin,I.hok,I.len⟩
end
end L2
namespace OD
variable {Z:Hp}
open PySem PySem.Spec PyProof.Rows L2
def Vw.del (W:Vw) (a:Addr) (hg:W.g a=none):Vw:=⟨W.g,fun b=>if b=a then none else W.h b,fun b o q=>by
 have:b≠a:=fun e=>by rw [e,hg] at q; cases q
 show (if b=a then none else W.h b)=some o
 rw [if_neg this]
 exact W.sub _ _ q⟩
abbrev ASp:=Dt→List Dt→List Dt→(List Dt→Prop)→Prop
def d9 (K:PySem.W.Frag) (S:ASp):Sp:=fun vs H Q _=>∃ (W:Vw) (d0:Dt) (es0 ds:List Dt) (Qd:List Dt→Prop) (v0:V) (a:Addr) (xs vs':List V) (hg:W.g a=none),W.h=H∧vs=v0::.ref a::vs'∧W.h a=some (.lst xs)∧Is K W.g d0 v0∧AllIs K W.g es0 xs∧AllIs K W.g ds vs'∧S d0 es0 ds Qd∧
 ∀ es ys W',Le (W.del a hg) W'→W'.h a=some (.lst ys)→W'.g a=none→AllIs K W'.g es ys→Qd es→Q .non W'.h
structure AOk (P:Program) (w:World) (K:PySem.W.Frag) (mg:Str→Option Value) (base:Heap) (n:Nat) (x:Str) (S:ASp):Prop where
 ex:∃ f fd ps,mg x=some (.ref f)∧PySem.W.keepIn K (.ref f)=true∧Binds K fd ps []∧FnOk P w K mg base CX0 n f fd ps (d9 K S)
section
variable {P:Program} {w:World} {K:PySem.W.Frag} {mg:Str→Option Value} {base:Heap}
theorem AOk.mk' {x qual:Str} {st:Stmt} {f:Addr} {fd:FuncData} {ps:List Str} {n:Nat} {S:ASp} (F:Fun K x qual st f fd) (hm:mg x=some (.ref f)) (hb:Binds K fd ps []) (h:FnOk P w K mg base CX0 n f fd ps (d9 K S)):AOk P w K mg base n x S:=
 ⟨f,fd,ps,hm,F.kp,hb,h⟩
end
section
variable {X:Cx} {fr:Fr} {e e0 k:Expr} {es:List Expr} {t te tk:DTE} {ta:DTA} {n:Nat} {x y:Str} {S:ASp} {p pos p0 p1 p2 p3:Pos} {i:Nat}
end
end OD
namespace OD
variable {Z:Hp}
open PySem PySem.Spec PyProof.Rows L2
section
variable {X:Cx} {tg:Expr}
variable {a b c:Expr} {ta:DTA} {p0 pos1:Pos}
end
end OD
namespace L2
open PySem PySem.Spec PyProof.Rows
section
variable {X:Cx}
end
end L2
namespace OD
variable {Z:Hp}
open PySem PySem.Spec PyProof.Rows L2
abbrev DTB:=Prop→(Addr→Prop)→DS→Prop
section
variable {X:Cx} {e:Expr} {es:List Expr} {t:DTA} {n:Nat} {x y m:Str} {j:Nat} {S:z5} {p pos py hpos epos tpos:Pos} {fr:Fr} {th:DTS} {c:Value} {b₀:Stmt} {suite body:List Stmt} {d:DTB}
end
end OD
namespace OD
open PySem L2
variable {X:Cx} {e:Expr} {t:DTE}
end OD
namespace OD
open PySem L2 PyProof.Rows
section
variable {Z F:Hp} {K:PySem.W.Frag} {W W' W0:Vw} {G:Hp} {ρ:DS} {σ:L2.St}
theorem uj {α:Type} {l:List α} {x y:α} {i:Nat} (q:(l++[x])[i]? = some y):l[i]? = some y∨(i=l.length∧x=y):=by
 rcases Nat.lt_trichotomy i l.length with h | h | h
 ·rw [List.getElem?_append_left h] at q; exact .inl q
 ·subst h
  rw [List.getElem?_append_right (Nat.le_refl _),Nat.sub_self] at q
  exact .inr ⟨rfl,Option.some.inj q⟩
 ·rw [List.getElem?_eq_none (by rw [List.length_append]; show l.length+1≤i; omega)] at q
  cases q
theorem yq {α:Type} {l:List α} {y:α} {i:Nat} (q:l[i]? = some y):i<l.length:=by
 rcases Nat.lt_or_ge i l.length with h | h
 ·exact h
 ·rw [List.getElem?_eq_none h] at q; cases q
theorem yd {α:Type} {l:List α} {x y:α} {i:Nat} (q:l[i]? = some y):(l++[x])[i]? = some y:=by rw [List.getElem?_append_left (yq q)]; exact q
theorem wu {α:Type} {l:List α} {x:α} {i:Nat} (h:i<l.length):(l++[x])[i]? = l[i]?:=List.getElem?_append_left h
theorem Rl.hide (r:Rl K Z F W ρ σ) (j:Nat) (o:Option V):Rl K Z F W (ρ.set j .none) (σ.set j o):=by
 have u:=r.unset j
 have hs:∀ i,i≠j→(σ.set j o)[i]? = (σ.set j none)[i]?:=fun i hi=>by rw [List.getElem?_set_ne (fun z=>hi z.symm),List.getElem?_set_ne (fun z=>hi z.symm)]
 have hj:∀ i y,(ρ.set j Sl.none)[i]? = some y→y≠Sl.none→i≠j:=fun i y q hy e=>by
  subst e
  rcases zj q with ⟨_,_,e1⟩ | ⟨z,_⟩
  ·exact hy e1.symm
  ·exact z rfl
 refine ⟨by rw [List.length_set,List.length_set]; exact r.len,fun i d q=>?_,fun i ds q=>?_,fun i k ds es hik q1 q2=>?_,r.fr,r.z,fun i c ds q=>?_,r.ob.set j o (fun φ z=>by cases z)⟩
 ·rw [hs i (hj i _ q (fun z=>nomatch z))]; exact u.at_ i d q
 ·rw [hs i (hj i _ q (fun z=>nomatch z))]; exact u.ow i ds q
 ·rw [hs i (hj i _ q1 (fun z=>nomatch z)),hs k (hj k _ q2 (fun z=>nomatch z))]; exact u.ne i k ds es hik q1 q2
 ·obtain ⟨⟨xs,h1,h2⟩,k1,k2⟩:=u.ar i c ds q
  refine ⟨⟨xs,by rw [hs i (hj i _ q (fun z=>nomatch z))]; exact h1,h2⟩,fun k es q'=>?_,k2⟩
  rw [hs k (hj k _ q' (fun z=>nomatch z))]; exact k1 k es q'
theorem Rl.push (r:Rl K Z F W ρ σ):Rl K Z F W (ρ++[Sl.none]) (σ++[none]):=by
 have hs:∀ i y,ρ[i]? = some y→(σ++[none])[i]? = σ[i]?:=fun i y q=>wu (by rw [← r.len]; exact yq q)
 have cl:∀ i y,(ρ++[Sl.none])[i]? = some y→y≠Sl.none→ρ[i]? = some y:=fun i y q hy=>by
  rcases uj q with q | ⟨_,e⟩
  ·exact q
  ·exact absurd e.symm hy
 refine ⟨by rw [List.length_append,List.length_append,r.len]; rfl,fun i d q=>?_,fun i ds q=>?_,fun i k ds es hik q1 q2=>?_,r.fr,r.z,fun i c ds q=>?_,fun i φ q=>?_⟩
 ·have q:=cl i _ q (fun z=>nomatch z)
  rw [hs i _ q]; exact r.at_ i d q
 ·have q:=cl i _ q (fun z=>nomatch z)
  rw [hs i _ q]; exact r.ow i ds q
 ·have q1:=cl i _ q1 (fun z=>nomatch z)
  have q2:=cl k _ q2 (fun z=>nomatch z)
  rw [hs i _ q1,hs k _ q2]; exact r.ne i k ds es hik q1 q2
 ·have q:=cl i _ q (fun z=>nomatch z)
  obtain ⟨⟨xs,h1,h2⟩,k1,k2⟩:=r.ar i c ds q
  refine ⟨⟨xs,by rw [hs i _ q]; exact h1,h2⟩,fun k es q'=>?_,fun k b es q'=>k2 k b es (cl k _ q' (fun z=>nomatch z))⟩
  have q':=cl k _ q' (fun z=>nomatch z)
  rw [hs k _ q']; exact k1 k es q'
 ·have q:=cl i _ q (fun z=>nomatch z)
  obtain ⟨⟨a,o,h1,h2⟩,k⟩:=r.ob i φ q
  exact ⟨⟨a,o,by rw [hs i _ q]; exact h1,h2⟩,fun l ψ q'=>k l ψ (cl l _ q' (fun z=>nomatch z))⟩
theorem Rl.snocOff {x:Sl} {o:Option V} (r:Rl K Z F W (ρ++[x]) (σ++[o])):Rl K Z F W ρ σ:=by
 have len:ρ.length=σ.length:=by have:=r.len; rw [List.length_append,List.length_append] at this; exact Nat.succ.inj this
 have hs:∀ i y,ρ[i]? = some y→(σ++[o])[i]? = σ[i]?:=fun i y q=>wu (by rw [← len]; exact yq q)
 refine ⟨len,fun i d q=>?_,fun i ds q=>?_,fun i k ds es hik q1 q2=>?_,r.fr,r.z,fun i c ds q=>?_,fun i φ q=>?_⟩
 ·rw [← hs i _ q]; exact r.at_ i d (yd q)
 ·rw [← hs i _ q]; exact r.ow i ds (yd q)
 ·rw [← hs i _ q1,← hs k _ q2]; exact r.ne i k ds es hik (yd q1) (yd q2)
 ·obtain ⟨⟨xs,h1,h2⟩,k1,k2⟩:=r.ar i c ds (yd q)
  exact ⟨⟨xs,by rw [← hs i _ q]; exact h1,h2⟩,fun k es q'=>by rw [← hs k _ q']; exact k1 k es (yd q'),fun k b es q'=>k2 k b es (yd q')⟩
 ·obtain ⟨⟨a,o',h1,h2⟩,k⟩:=r.ob i φ (yd q)
  exact ⟨⟨a,o',by rw [← hs i _ q]; exact h1,h2⟩,fun l ψ q'=>k l ψ (yd q')⟩
theorem y8 {α:Type} {l:List α} {x y:α} {n:Nat} (h:n=l.length):(l++[x]).set n y=l++[y]:=by
 subst h
 rw [List.set_append_right _ _ (Nat.le_refl _),Nat.sub_self]; rfl
theorem zO {α:Type} {l:List α} {x:α} {n:Nat} (h:n=l.length):(l++[x])[n]? = some x:=by
 subst h
 rw [List.getElem?_append_right (Nat.le_refl _),Nat.sub_self]; rfl
structure TAt (K:PySem.W.Frag) (Z:Hp) (W0:Vw) (G:Hp) (W:Vw) (ρ:DS) (σ:L2.St) (i:Nat) (es:List Dt) (d:Dt):Prop where
 ex:∃ p q v,At K Z W0 G W (ρ++[.own es]) (σ++[some (.ref p)])∧σ[i]? = some (some (.ref q))∧W.g q=some (.tup [.ref p,v])∧Is K W.g d v
variable {i:Nat} {es:List Dt} {d:Dt}
theorem TAt.step (t:TAt K Z W0 G W ρ σ i es d) (s:Le W W'):TAt K Z W0 G W' ρ σ i es d:=
 let ⟨p,q,v,a,h1,h2,h3⟩:=t.ex; ⟨p,q,v,a.step s,h1,s.g _ _ h2,h3.mono s⟩
theorem TAt.off (t:TAt K Z W0 G W ρ σ i es d):At K Z W0 G W ρ σ:=let ⟨_,_,_,a,_⟩:=t.ex; ⟨a.le,a.gs,a.rl.snocOff⟩
theorem TAt.bor (t:TAt K Z W0 G W ρ σ i es d):∃ W':Vw,W'.h=W.h∧Same W.g W'.g∧Rl K Z W0.h W' ((ρ.set i (.some (.tup [.lst es,d]))).map fz) σ:=by
 obtain ⟨p,q,v,a,h1,h2,h3⟩:=t.ex
 have len:ρ.length=σ.length:=by have:=a.rl.len; rw [List.length_append,List.length_append] at this; exact Nat.succ.inj this
 obtain ⟨b,xs,e1,e2,e3,e4,e5⟩:=a.rl.ow ρ.length es (zO rfl)
 rw [zO len] at e1
 cases e1
 have r1:=a.rl.frz (zO rfl) (zO len) e2 e3 e5
 rw [y8 rfl] at r1
 have sg:Same W.g (W.frz p _ e2).g:=zA e3 _
 have r2:=r1.snocOff.set (d:=.tup [.lst es,d]) (v:=.ref q) i (is_tup.mpr ⟨q,_,rfl,sg _ _ h2,allIs_cons.mpr ⟨_,_,rfl,is_lst.mpr ⟨p,xs,rfl,zh,AllIs.mono0 sg e5⟩,allIs_cons.mpr ⟨v,_,rfl,Is.mono0 sg h3,allIs_nil.mpr rfl⟩⟩⟩)
 have es:σ.set i (some (.ref q))=σ:=by
  apply List.ext_getElem?
  intro j
  by_cases hj:i=j
  ·subst hj; rw [List.getElem?_set_self (yq h1)]; exact h1.symm
  ·rw [List.getElem?_set_ne hj]
 rw [es] at r2
 obtain ⟨W',f1,f2,f3,_⟩:=r2.bor
 exact ⟨W',f1,sg.trans f2,f3⟩
abbrev DTG:=List Dt→Dt→DTS
def Ve (K:PySem.W.Frag) (Z:Hp) (fr:Fr) (i:Nat) (ts:TS) (t:DTG):Prop:=∀ (W0:Vw) (G:Hp) (ρ:DS) (σ:L2.St) (W:Vw) (D:DEnds) (D':Ends) (es:List Dt) (d:Dt),TAt K Z W0 G W ρ σ i es d→Sim K Z fr W0 G D D'→t es d D ρ→ts D' σ W.h
def qf (X:Cx) (fr:Fr) (i:Nat) (sts:List Stmt) (t:DTG):Prop:=∃ ts,PSs X sts ts∧Ve X.K (Zx X) fr i ts t
end
section
variable {X:Cx} {fr:Fr} {st:Stmt} {zW:List Stmt} {t:DTE} {u:DTS} {ug:DTG} {e:Expr} {te:DTE} {pos p0 p1 p2 p3 pos':Pos} {i j:Nat} {x y:Str}
def Xu (i:Nat) (te:DTE) (u:DTG):DTS:=fun D ρ=>te ρ fun dd=>∃ es d s,dd=.tup [.lst es,d]∧ρ[i]? = some s∧u es d D (ρ.set i .none)
theorem eP (hN:X.N.Nodup) (hi:X.N[i]? = some x) (hx:Loc X.env.scope x) (h:DR X (.t true false) e te) (h2:qf X fr i zW ug) (hs:swapsWith e (some (.Name x pos')) pos.line X.env=pure false:=by rfl) (hf:X.fn x=true∨X.env.scope.names.lookup x=some .local:=by first | exact .inl rfl | exact .inr rfl | assumption):
  DSs X fr (.Assign [.Name x pos'] e pos::zW) (Xu i te ug):=by
 obtain ⟨tt,p,l⟩:=h
 obtain ⟨us,p2,l2⟩:=h2
 refine ⟨_,zT (vf hN hi hx p hs hf) p2,fun W0 G ρ σ W D D' at_ s h=>l ρ σ W _ at_.rl h _ fun dd v W1 s1 tl ⟨es,d,s0,ed,hs0,qq⟩=>?_⟩
 obtain ⟨d1,d2,q,u1,u2,e1,e2,hq,pt1,pt2,_⟩:=tl
 subst e2
 rw [ed] at e1
 cases e1
 rcases pt1 with ⟨fs,a,xs,k1,k2,k3,k4,k5,k6⟩ | ⟨z,_⟩
 ·cases k1; subst k2
  refine l2 W0 G _ _ W1 D D' es d ⟨a,q,u2,?_,?_,hq,pt2⟩ s qq
  ·have a1:=at_.step s1
   have r1:=(a1.rl.hide i (some (V.ref q))).push
   have len:(ρ.set i Sl.none).length=(σ.set i (some (V.ref q))).length:=by rw [List.length_set,List.length_set]; exact at_.rl.len
   have back:∀ k y,(ρ.set i Sl.none++[Sl.none])[k]? = some y→y≠Sl.none→ρ[k]? = some y∧(σ.set i (some (V.ref q))++[none])[k]? = σ[k]?:=fun k y z hy=>by
    rcases uj z with z | ⟨_,z⟩
    ·rcases zj z with ⟨_,_,z⟩ | ⟨hik,z⟩
     ·exact absurd z.symm hy
     ·exact ⟨z,by rw [wu (by rw [List.length_set,← at_.rl.len]; exact yq z),List.getElem?_set_ne hik]⟩
    ·exact absurd z.symm hy
   have r2:=r1.ownN (p:=a) (xs:=xs) (ds:=es) (ρ.set i Sl.none).length (fun k fs z z'=>?_) (fun k c fs z z'=>?_) (at_.rl.fr.free k3) k4 k5 k6
   ·rw [y8 rfl,y8 len] at r2
    exact ⟨a1.le,a1.gs,r2⟩
   ·obtain ⟨z1,z2⟩:=back k _ z (fun z=>nomatch z)
    obtain ⟨c,ys,m1,m2,_⟩:=at_.rl.ow k fs z1
    rw [z2,m1] at z'
    cases z'
    rw [k3] at m2
    cases m2
   ·obtain ⟨z1,_⟩:=back k _ z (fun z=>nomatch z)
    obtain ⟨⟨ys,_,m2,_⟩,_,_⟩:=at_.rl.ar k c fs z1
    rw [z',k3] at m2
    cases m2
  ·rw [List.getElem?_set_self (by rw [← at_.rl.len]; exact yq hs0)]
 ·cases z
def WY (i:Nat) (c:DTT) (t:DTS) (u:DTG):DTG:=fun es d D ρ=>c ((ρ.set i (.some (.tup [.lst es,d]))).map fz) fun b=>if b=true then t { D with nx:=fun _=>False } ρ else u es d D ρ
theorem kE {c:Expr} {a:List Stmt} {tc:DTT} {ta:DTS} (hc:DT X c tc) (ha:DSs X fr a ta) (h2:qf X fr i zW ug):qf X fr i (.If c a [] pos::zW) (WY i tc ta ug):=by
 obtain ⟨t0,p0,l0⟩:=hc
 obtain ⟨t1,p1,l1⟩:=ha
 obtain ⟨us,p2,l2⟩:=h2
 refine ⟨_,zT (dO p0 p1 pj) p2,fun W0 G ρ σ W D D' es d ta s h=>?_⟩
 obtain ⟨W',e,sg,r'⟩:=ta.bor
 have:=l0 _ σ W' _ r' h (fun b H1=>if b=true then t1 { D' with nx:=us D' } σ H1 else us D' σ H1) fun b H1 s1 q1=>?_
 ·rw [e] at this
  exact this
 ·obtain ⟨H2,e2,_,s2⟩:=qc e s1 sg
  rw [← e2]
  cases b with
  | true=>
   show t1 { D' with nx:=us D' } σ H2.h
   exact l1 W0 G ρ σ H2 { D with nx:=fun _=>False } { D' with nx:=us D' } (ta.step s2).off ⟨fun _ _ _ _ q=>q.elim,s.tl,s.bk,s.ct⟩ q1
  | false=>
   show us D' σ H2.h
   exact l2 W0 G ρ σ H2 D D' es d (ta.step s2) s q1
def X0 (te:DTE) (u:DTS):DTG:=fun es _ D ρ=>te ρ fun _=>es.length≤100000∧u D ρ
theorem eS {jj ps} (h:DE X e te) (h2:DSs X fr zW u) (hN:X.N[i]? = some x:=by rfl) (hv:Vis X.env.scope x:=by first | exact Or.inl rfl | exact Or.inr (Or.inl rfl) | exact Or.inr (Or.inr rfl)) (hd:(x == ("__debug__":Str))=false:=by decide)
  (hcd:(x == ("__classdict__":Str))=false:=by decide) (hst:starEach [e] X.env=(false,eval e X.env)::starEach [] X.env:=by rfl) (hpl:(backTo p2 (starEach [] X.env)).any (·.1)=false:=by rfl)
  (hfew:((backTo p2 (starEach [e] X.env)).all (fun x=>!x.1) && (backToKw p2 (keywordEach [] X.env)).all (fun x=>x.1.isSome)
   && decide ([e].length+([]:List Keyword).length+(if ([]:List Keyword).isEmpty then 0 else 1)<30))=true:=by rfl)
  (hix:xq (.Constant (.int 0) jj p3):=by exact fun _ _=>rfl)
  (hbase:attributeBase (.Subscript (.Name x p0) (.Constant (.int 0) jj p3) ps) "append" X.env (eval (.Subscript (.Name x p0) (.Constant (.int 0) jj p3) ps) X.env)=eval (.Subscript (.Name x p0) (.Constant (.int 0) jj p3) ps) X.env:=by rfl) (hline:(p1.endLine == p2.line)=true:=by rfl)
  (hs:swapsWith (.Call (.Attribute (.Subscript (.Name x p0) (.Constant (.int 0) jj p3) ps) "append" p1) [e] [] p2) none pos.line X.env=pure false:=by rfl):
  qf X fr i (.Expr (.Call (.Attribute (.Subscript (.Name x p0) (.Constant (.int 0) jj p3) ps) "append" p1) [e] [] p2) pos::zW) (X0 te u):=by
 obtain ⟨tt,p,l⟩:=h
 obtain ⟨us,pu,l2⟩:=h2
 refine ⟨_,zT (wz (pB PySem.F.plainAttrs_list PySem.F.slot_list_append PySem.F.type_list_append xR (wB kg (zJ hN hv hd hcd) wg hix) (zx p zP hst) hbase hfew hline hst hpl) hs) pu,fun W0 G ρ σ W D D' es d ta s h=>?_⟩
 obtain ⟨c,q,v,at_,k1,k2,k3⟩:=ta.ex
 have len:ρ.length=σ.length:=by have:=at_.rl.len; rw [List.length_append,List.length_append] at this; exact Nat.succ.inj this
 obtain ⟨b,xs,e1,e2,e3,e4,e5⟩:=at_.rl.ow ρ.length es (zO rfl)
 rw [zO len] at e1
 cases e1
 refine ⟨_,k1,.inr (.inl ⟨q,_,0,_,rfl,rfl,.of (W.sub _ _ k2),rfl,.inl ⟨rfl,xs,.of e2⟩,?_⟩)⟩
 refine l ρ σ W _ at_.rl.snocOff h _ fun dd v1 W1 s1 i1 ⟨hl,q1⟩=>?_
 have a1:=at_.step s1
 have hg1:W1.g c=none:=s1.n c (by rw [e2]; intro z; cases z) e3
 refine ⟨c,xs,v1,rfl,rfl,s1.h _ _ e2,by rw [← e5.length]; exact Nat.lt_of_le_of_lt hl (by decide),?_⟩
 have a2:=a1.put (zO rfl) (zO len) hg1 e4 ((e5.mono s1).append (allIs_cons.mpr ⟨v1,[],rfl,i1,allIs_nil.mpr rfl⟩))
 rw [y8 rfl] at a2
 exact l2 W0 G ρ σ _ D D' ⟨a2.le,a2.gs,a2.rl.snocOff⟩ s q1
end
end OD
namespace OD
open PySem L2
section
variable {js:List Nat} {ta te:DTE} {X:Cx} {e:Expr} {fr:Fr} {st:Stmt} {i:Nat}
theorem each_t {s:DS} {P R:Prop}:(rW s fun b=>if b=true then P else R)=P:=by show (if true=true then P else R)=P; rw [if_pos rfl]
theorem YC {e:Dt} {s:List Dt→DS} {P R:List Dt→Prop} (h:∃ as,dz e as∧rW (s as) fun b=>if b=true then P as else R as):P [e]:=by
 obtain ⟨as,z,h⟩:=h
 cases z
 exact each_t.mp h
theorem kX:pU js ta te=vA js (kU ta) dz rW te:=funext fun ρ=>funext fun Q=>congrArg (ta ρ) (funext fun d=>propext
 ⟨fun ⟨ds,Pv,h1,h3,h4,h5,h6⟩=>⟨ds,h1,h3,Pv,h4,fun i e es _ he hp=>⟨_,rfl,each_t.mpr (h5 i e es he hp)⟩,h6⟩,
  fun ⟨ds,h1,h3,Pv,h4,h5,h6⟩=>⟨ds,Pv,h1,h3,h4,fun i e es he hp=>YC (h5 i e es (yq he) he hp),h6⟩⟩)
theorem X5 (h:DSt X fr st (du i (vA js (kU ta) dz rW te))):DSt X fr st (du i (pU js ta te)):=kX ▸ h
end
end OD
namespace L2
open PySem PySem.Spec PyProof.Rows
section
variable {X:Cx} {o e:Expr} {es:List Expr} {n:Nat} {m x:Str} {pos p apos py epos:Pos} {i:Nat}
theorem Zl {pl:Sem Bool} {te:TE} {tt:TA} (ho:PE X.nox o te) (hr:Room n X.A) (ha:PA X.nox (e::es) tt) {pins:List (Addr × Obj)} {s:Shared} {σ:St} {H:Hp} {Q:VK} {E:XK} (I:Inv X pins σ H s)
  (h:te σ H fun x H1=>∃ a dx fs C f fd ps sp,x=.ref a∧H1 a=some (.ins C dx fs)∧fs.lookup m=none∧Cls X.K C∧s9 X.K C m f∧Binds X.K fd ps []∧FnOk X.prog X.w X.K X.mg X.base (CX1 X.prog X.w) n f fd ps sp∧tt σ H1 fun vs H2=>sp (x::vs) H2 Q E)
  (hst:starEach (e::es) X.env=(false,eval e X.env)::starEach es X.env:=by rfl) (hpl:(backTo pos (starEach es X.env)).any (·.1)=false:=by rfl)
  (ht:eval (.Call (.Attribute o m apos) (e::es) [] pos) X.env=(do
   let ov ← eval o X.env
   standAt apos.atName
   let (f,first) ← holding [ov] (getMethod ov m pl)
   callWith pos f first (backTo pos (starEach (e::es) X.env)) (backToKw pos (keywordEach [] X.env))):=by rfl):
  wpAny (model X.prog X.w) X.A (eval (.Call (.Attribute o m apos) (e::es) [] pos) X.env) (EP X pins σ Q) (XPx X pins σ E) s:=by
 refine PySem.W.methodCall_KW (pl:=pl) (wpAny_mono (ho pins s σ H _ (I.wish _) h) (fun u s1 ⟨x,H1,I1,rx,a,dx,fs,C,f,fd,ps,sp,ex,ea,l,c,hm,hb,F,q⟩=>?_) fun _ _ z=>z.elim) ht
 have I1:=I1.unwish
 subst ex
 obtain rfl:u=Value.ref a:=rx
 refine xo I1 ea c hm l ?_
 refine PySem.W.callWith_K (first:=[.ref a]) (h₀:=X.base) I.ok.mod.kin hm.kp (wpAny_mono (ha pos pins s1 σ H1 _ (I1.wish _) q) (fun us s2 ⟨vs,H2,I2,r,q2⟩=>⟨I2.unwish.kIn,?_⟩) fun _ _ z=>z.elim) hst hpl
 have I2:=I2.unwish
 have hl:(Value.ref a::us).length=ps.length:=by
  have:=F.len _ _ _ _ q2
  rw [← this,List.length_cons,List.length_cons,r.length]
 refine wpAny_call (codeAny_mono (F.run X.A X.stack s2 H2 ⟨.ref a::us,[]⟩ (.ref a::us) (.ref a::vs) Q E hr I2.env0 ?_ (.cons rfl r) q2) fun rr s' hq=>?_)
 ·have z:=hb s2 (.ref a::us) I2.kIn (by rw [List.append_nil]; exact hl)
  rw [List.append_nil] at z
  exact z
 cases rr with
 | error e=>
  obtain ⟨a,C,H',ee,os,bare,fl,z⟩:=hq
  exact ⟨a,C,H',H2,s2,ee,I2,os,bare,fl,z⟩
 | ok fl=>
  cases fl with
  | ret u=>exact I2.after hq
  | next=>exact False.elim hq
  | brk=>exact False.elim hq
  | cont=>exact False.elim hq
end
end L2
namespace OD
variable {Z:Hp}
open PySem PySem.Spec PyProof.Rows L2
structure MOkX (P:Program) (w:World) (K:PySem.W.Frag) (mg:Str→Option Value) (base:Heap) (n:Nat) (C:Addr) (m:Str) (S:z5):Prop where
 cl:Cls K C
 ex:∃ f fd ps,s9 K C m f∧Binds K fd ps []∧FnOk P w K mg base (CX1 P w) n f fd ps (xY K S)
theorem MOkX.mono {P:Program} {w:World} {K:PySem.W.Frag} {mg:Str→Option Value} {base:Heap} {C:Addr} {x:Str} {m n:Nat} {S:z5} (h:MOkX P w K mg base m C x S) (hl:m≤n):MOkX P w K mg base n C x S:=
 let ⟨f,fd,ps,a,b,c⟩:=h.ex; ⟨h.cl,f,fd,ps,a,b,c.mono hl⟩
abbrev DTC:=(DS→Prop)→(Addr→Prop)→DS→Prop
def LiC (K:PySem.W.Frag) (Z:Hp) (t:TB) (d:DTC):Prop:=∀ {F:Hp} (ρ:DS) (σ:L2.St) (W:Vw) (nx:DS→Prop) (E:Addr→Prop) (nx':L2.St→Hp→Prop) (E':XK),Rl K Z F W ρ σ→(∀ ρ' σ' W',Le W W'→Rl K Z F W' ρ' σ'→nx ρ'→nx' σ' W'.h)→(∀ C H',Same W.h H'→E C→E' (.ref C) none H')→d nx E ρ→t nx' E' σ W.h
def DCB (X:Cx) (body:List Stmt) (d:DTC):Prop:=∃ t,PB X body t∧LiC X.K (Zx X) t d
section
variable {X:Cx} {o e:Expr} {es:List Expr} {t:DTA} {ta:DTE} {n:Nat} {x y m z:Str} {i j:Nat} {S:z5} {p pos py hpos epos tpos apos:Pos} {fr:Fr} {th:DTS} {c:Value} {b₀:Stmt} {suite body:List Stmt} {d:DTC}
def Xv (K:PySem.W.Frag) (c:Value) (j:Nat) (d:DTC) (th:DTS):DTS:=fun D ρ=>d D.nx (fun C=>PySem.W.exmOne K (.ref C) c=some true∧th (D.off j) (ρ.set j (.some (.exc C)))) ρ
theorem eT (hstk:X.stack=X.env::X.outer) (hf:X.env.frame=some X.env.locals) (hN:X.N.Nodup) (hj:X.N[j]? = some m) (hmj:X.env.scope.names.lookup m=some .local) (hb:DCB X body d) (hh:∀ a,DSs (X.inH a) fr (b₀::suite) th) (hgy:Gl X y) (hmy:X.mg y=some c) (hdy:(y == ("__debug__":Str))=false:=by decide):
  DSt X fr (.Try body [.ExceptHandler (some (.Name y py)) (some m) (b₀::suite) hpos] [] [] tpos) (Xv X.K c j d th):=by
 obtain ⟨tb,pb,lb⟩:=hb
 refine ⟨_,nz (th:=dQ X.K (Zx X) fr th) hstk hf hN hj hmj pb (fun a=>(hh a).up) hgy hmy hdy,fun W0 G ρ σ W D D' at_ s h=>?_⟩
 refine lb ρ σ W _ _ _ _ at_.rl (fun ρ' σ' W' s' r' z=>s.nx ρ' σ' W' ⟨at_.le.trans s',at_.gs.trans s'.g,r'⟩ z) (fun C H' s' ⟨e1,e2⟩=>⟨e1,fun a C' ec hn=>?_⟩) h
 cases ec
 exact ⟨W0,G,_,_,_,rfl,Z1 at_ s' hn j,s.off j,e2⟩
end
end OD
namespace OD
variable {Z:Hp}
open PySem PySem.Spec PyProof.Rows L2
section
variable {X:Cx} {a b:Expr} {ta:DTA} {te:DTE} {p0 pos pos1 tpos:Pos} {elts:List Expr} {x1:Nat}
end
end OD
namespace OD
open PySem L2 PyProof.Rows
def X9 (K:PySem.W.Frag) (S:DSp):Sp:=fun vs H Q _=>∃ (W:Vw) (d0:Dt) (es0 ds:List Dt) (Qd:Dt→Prop) (v0:V) (a:Addr) (xs vs':List V) (hg:W.g a=none),W.h=H∧vs=v0::.ref a::vs'∧W.h a=some (.lst xs)∧Is K W.g d0 v0∧AllIs K W.g es0 xs∧AllIs K W.g ds vs'∧S (d0::.lst es0::ds) Qd∧
 ∀ es p ys W',Le (W.del a hg) W'→(W.del a hg).h p=none→W'.h p=some (.lst ys)→W'.g p=none→AllIs K W'.g es ys→Qd (.lst es)→Q (.ref p) W'.h
structure VOk (P:Program) (w:World) (K:PySem.W.Frag) (mg:Str→Option Value) (base:Heap) (n:Nat) (x:Str) (S:DSp):Prop where
 ex:∃ f fd ps,mg x=some (.ref f)∧PySem.W.keepIn K (.ref f)=true∧Binds K fd ps []∧FnOk P w K mg base CX0 n f fd ps (X9 K S)
section
variable {P:Program} {w:World} {K:PySem.W.Frag} {mg:Str→Option Value} {base:Heap}
theorem VOk.mk' {x qual:Str} {st:Stmt} {f:Addr} {fd:FuncData} {ps:List Str} {n:Nat} {S:DSp} (F:Fun K x qual st f fd) (hm:mg x=some (.ref f)) (hb:Binds K fd ps []) (h:FnOk P w K mg base CX0 n f fd ps (X9 K S)):VOk P w K mg base n x S:=
 ⟨f,fd,ps,hm,F.kp,hb,h⟩
end
section
variable {X:Cx} {e0 e1:Expr} {es:List Expr} {t tf:DTE} {ta:DTA} {n:Nat} {x:Str} {S:DSp} {p pos:Pos}
end
end OD
namespace L2
open PySem PySem.Spec PyProof.Rows
section
variable {X:Cx} {a b:Expr} {ta tb:TE} {x1 x2:Str} {p1 p2 p3 p4 pos:Pos}
end
end L2
namespace OD
open PySem PySem.Spec PyProof.Rows L2
section
variable {X:Cx} {a b:Expr} {ta tb:DTE} {x1 x2:Str} {p1 p2 p3 p4 pos:Pos}
end
section
variable {X:Cx} {e:Expr} {es:List Expr} {t:DTA} {n:Nat} {x:Str} {p pos:Pos}
end
section
variable {P:Program} {w:World} {K:PySem.W.Frag} {mg:Str→Option Value} {base:Heap}
end
end OD
namespace OD
variable {Z:Hp}
open PySem PySem.Spec PyProof.Rows L2
section
variable {X:Cx} {tg:Expr}
variable {a b c:Expr} {ta:DTA} {p0 pos1:Pos}
end
end OD
namespace L2
open PySem PySem.Spec PyProof.Rows
section
variable {prog:Program} {w:World} {A:Around} {E:Value→Shared→Prop} {s:Shared}
end
section
variable {X:Cx} {pos:Pos}
end
end L2
namespace OD
open PySem PySem.Spec PyProof.Rows L2
section
variable {X:Cx} {fr:Fr} {e:Expr} {te:DTE} {pos:Pos}
end
end OD
namespace L2
open PySem PySem.Spec PyProof.Rows
section
variable {X:Cx}
end
end L2
namespace OD
open PySem PySem.Spec PyProof.Rows L2
section
variable {X:Cx} {a b e:Expr} {ta tb t:DTE} {p pos p0:Pos} {x:Str}
variable {apos cpos:Pos}
end
end OD
namespace L2
open PySem PySem.Spec PyProof.Rows
section
variable {X:Cx} {tg:Expr}
end
end L2
namespace OD
open PySem PySem.Spec PyProof.Rows L2
section
variable {X:Cx} {fr:Fr} {te:DTE} {pos:Pos}
end
end OD
namespace OD
open PySem
local macro_rules | `(tactic| walk_at "ws") => `(tactic| any_goals (first | assumption | wp_step))
def Zy (c:Nat):Prop:=48≤c∧c≤57
def Numl (l:List Nat):Prop:=l=[48]∨∃ c r,49≤c∧c≤57∧(∀ x∈r,Zy x)∧(l=c::r∨l=45::c::r)
theorem Numl.mem {l:List Nat} (h:Numl l):∀ c∈l,45≤c∧c≤57:=by
 rcases h with rfl | ⟨c,r,c1,c2,hr,rfl | rfl⟩
 ·intro c hc
  rw [List.mem_singleton.mp hc]; decide
 ·intro x hx
  rcases List.mem_cons.mp hx with rfl | hx
  ·omega
  ·have:=hr x hx
   unfold Zy at this; omega
 ·intro x hx
  rcases List.mem_cons.mp hx with rfl | hx
  ·decide
  rcases List.mem_cons.mp hx with rfl | hx
  ·omega
  ·have:=hr x hx
   unfold Zy at this; omega
end OD
namespace L2
open PySem PySem.Spec PyProof.Rows
section
variable {X:Cx}
end
end L2
namespace OD
open PySem PySem.Spec PyProof.Rows L2
section
variable {X:Cx} {a b e:Expr} {ta tb t:DTE} {p pos p0:Pos} {x:Str}
variable {apos cpos:Pos}
end
end OD
namespace PySem
open Sem (wp)
section
variable {A:Around} {R:Result→Shared→Prop} {s:Shared} {w:World} {prog:Program}
end
end PySem
namespace PySem
open Sem (wp)
section
variable {A:Around} {R:Result→Shared→Prop} {s:Shared} {w:World} {prog:Program}
end
end PySem
namespace L2
open PySem PySem.Spec PyProof.Rows
section
variable {X:Cx} {a:Expr} {p0 p1 pos pos1:Pos}
end
end L2
namespace OD
open PySem PySem.Spec PyProof.Rows L2
section
variable {X:Cx} {a:Expr} {ta:DTE} {p0 p1 pos pos1:Pos}
end
end OD
namespace PySem
open Sem (wp)
section
variable {A:Around} {R:Result→Shared→Prop} {s:Shared} {w:World} {prog:Program}
end
end PySem
namespace L2
open PySem PySem.Spec PyProof.Rows
section
variable {X:Cx}
end
end L2
namespace OD
open PySem PySem.Spec PyProof.Rows L2
section
variable {X:Cx}
end
end OD
namespace L2
open PySem PySem.Spec PyProof.Rows
theorem K2.sameBut {h h':Heap} {C:Addr} (hC:∃ m,h.Ns C m) (sb:Heap.SameBut C h h'):K2 h h':=fun b o vs hb hd=>by
 obtain ⟨m,oC,es,ep,hoC,hdC,_⟩:=hC
 refine ⟨o,vs,(sb.2 b fun z=>?_).trans hb,hd,rfl⟩
 rw [z,hoC] at hb
 cases hb
 rw [hdC] at hd
 cases hd
section
variable {P:Program} {w:World} {stack:List Env} {H H':Hp} {h0 h:Heap} {e L:Addr} {cls:Value}
end
section
variable {X:Cx} {pins:List (Addr × Obj)} {σ:St} {H H':Hp} {s s':Shared} {M:Model} {E:Value→Shared→Prop} {e:Addr} {cls:Value}
end
end L2
namespace OD
open PySem PySem.Spec PyProof.Rows L2
section
variable {X:Cx} {pins pins1:List (Addr × Obj)} {σ σ1:L2.St} {H3 H1 H':Hp} {s3 s1 s':Shared} {scope:Scope} {x:Str} {fp:List Addr} {C a:Addr} {cls:Value}
end
section
variable {P:Program} {w:World} {K:PySem.W.Frag} {mg:Str→Option Value} {base:Heap} {N:List Str} {qual:Str} {scope:Scope} {f C:Addr} {cd:Value} {A:Around} {outer:List Env} {s:Shared} {H H1:Hp} {E:XK}
end
section
variable {X:Cx} {pins:List (Addr × Obj)} {σ:L2.St} {H:Hp} {s:Shared} {scope:Scope} {x:Str} {fp:List Addr}
end
section
variable {Z:Hp} {X:Cx} {fr:Fr} {scope:Scope} {x g:Str} {iter:Expr} {px pv pf pos cpos:Pos} {tl:DTE} {S:z5} {n:Nat}
end
section
variable {P:Program} {w:World} {K:PySem.W.Frag} {mg:Str→Option Value} {base:Heap}
end
section
variable {X:Cx} {fr:Fr} {a e:Expr} {tg:Expr} {ta:DTA} {te:DTE} {p0 pos pos1 rpos tpos:Pos} {h₀:ExceptHandler} {hs:List ExceptHandler}
end
end OD
namespace L2
open PySem PySem.Spec PyProof.Rows
section
variable {X:Cx}
end
end L2
namespace OD
open PySem PySem.Spec PyProof.Rows L2
section
variable {X:Cx} {a:Expr} {ta:DTE} {p0 pos:Pos}
end
end OD
namespace L2
open PySem PySem.Spec PyProof.Rows
section
variable {prog:Program} {w:World} {A:Around} {s:Shared} {h0:Heap} {e:Addr} {R:Result→Shared→Prop}
end
section
variable {X:Cx} {pins:List (Addr × Obj)} {σ:St} {H H':Hp} {s s':Shared} {M:Model} {A:Around} {E:Value→Shared→Prop} {e:Addr} {cls:Value}
end
end L2
namespace OD
open PySem PySem.Spec PyProof.Rows L2
section
variable {X:Cx} {k n:Nat} {f Cz:Addr} {fd:FuncData} {ps:List Str} {sp:Sp} {x y z m:Str} {p pos rpos py hpos np cpos mpos npos zpos tpos:Pos} {j j':Nat} {e:Expr} {es:List Expr} {t:TA} {c:Value}
end
section
variable {P:Program} {w:World} {K:PySem.W.Frag} {mg:Str→Option Value} {base:Heap}
end
end OD
namespace L2
open PySem PySem.Spec PyProof.Rows
end L2
namespace OD
open PySem PySem.Spec PyProof.Rows L2
section
variable {X:Cx} {fr:Fr} {e:Expr} {te:DTE} {pos:Pos}
end
end OD
namespace OD
open PySem PySem.Spec PyProof.Rows L2
end OD
namespace OD
open PySem PySem.Spec PyProof.Rows L2
section
variable {X:Cx} {K:PySem.W.Frag} {y:Str} {a:Expr} {ta:DTE} {p0 p' pos:Pos} {D:Addr}
end
end OD
namespace L2
open PySem PySem.Spec PyProof.Rows
section
variable {prog:Program} {w:World} {A:Around} {E:Value→Shared→Prop} {s:Shared}
def IsNest (prog:Program) (w:World) (h:Heap) (k:List Int × Int) (a:Addr):Prop:=
 ∃ o items n b tk,h.get? a=some o∧o.cls=.type "tuple"∧o.data=.seq items n∧items.toList=[.ref b,.int k.2 tk]∧IsTupleKey (intKind prog w) h k.1 b
theorem IsNest.ty {k:List Int × Int} {a:Addr} (x:IsNest prog w s.heap k a):s.TypeIs (.ref a) "tuple":=let ⟨o,_,_,_,_,ho,hc,_⟩:=x; ⟨o,ho,hc⟩
def uB (prog:Program) (w:World) (k:List Int × Int):Int:=reduceHash (Builtin.Tuple.tupleHashOf [tupleKeyHash (intKind prog w) k.1,hashInt k.2])
theorem oR {k:List Int × Int} {a:Addr} {Q:Int→Shared→Prop} (hu:A.units+4<cLine) (hk:IsNest prog w s.heap k a) (h:Q (uB prog w k) { s with toks:=s.toks+(k.1.length+3) }):
  wpAny (model prog w) A (pyHash (.ref a)) Q E s:=by
 have hT:=hk.ty
 obtain ⟨o,items,n,b,tk,ho,_,hd,hi,hb⟩:=hk
 unfold pyHash
 first | unfold pyHashByItsType | skip
 first | refine wpAny_bind (wpAny_cRoomFor_or (.inr (show A.units<cLine by omega)) ?_) | skip
 refine wpAny_bind (wpAny_specialOf hT PySem.F.slot_tuple_hash.lookup ?_)
 rw [if_neg (by rw [beq_builtin_none]; exact Bool.false_ne_true)]
 refine wpAny_bind (wpAny_specialOf hT PySem.F.slot_tuple_hash.lookup (wpAny_bind ?_))
 refine wpAny_callSpecialIfBoundUnlessNone?_slot hT PySem.F.slot_tuple_hash (wpAny_call_entry PySem.F.slot_tuple_hash hT PySem.F.entry_tuple_hash ?_ (PySem.F.args_tuple_hash_1 _))
 refine wpAny_bind (m:=Builtin.Tuple.tupleItemsOf (.ref a)) (wpAny_tupleItemsOf ho hd (wpAny_bind ?_))
 rw [← Array.forIn_toList,hi,List.forIn_cons]
 refine wpAny_bind (wpAny_bind (PySem.wpAny_pyHash_tuple (show A.units+1<cLine by omega) hb (wpAny_pure ?_)))
 dsimp only
 rw [List.forIn_cons]
 refine wpAny_bind (wpAny_bind ((intKind prog w).pyHash (k:=k.2) (by simp [intKind,Value.isInt]) (wpAny_pure ?_)))
 dsimp only
 rw [List.forIn_nil]
 refine wpAny_pure (wpAny_ret_mkInt ?_)
 unfold uB reduceHash at h
 show wpAny _ _ (pyHashByItsType.reduced (Builtin.Tuple.tupleHashOf [tupleKeyHash (intKind prog w) k.1,hashInt k.2])) Q E _
 unfold pyHashByItsType.reduced
 have et:s.toks+(k.1.length+3)=s.toks+(k.1.length+1)+1+1:=by omega
 rw [et] at h
 generalize Builtin.Tuple.tupleHashOf [tupleKeyHash (intKind prog w) k.1,hashInt k.2]=V at *
 split
 ·rename_i c
  rw [if_pos c] at h
  exact wpAny_pure h
 ·rename_i c
  rw [if_neg c] at h
  exact wpAny_bind (wpAny_rule (wpAny_pure h))
theorem IsNest.one {h:Heap} {a:Addr} {x y:List Int × Int} (hx:IsNest prog w h x a) (hy:IsNest prog w h y a):x=y:=by
 obtain ⟨o,items,n,b,tk,ho,_,hd,hi,hb⟩:=hx
 obtain ⟨o',items',n',b',tk',ho',_,hd',hi',hb'⟩:=hy
 rw [ho] at ho'
 cases ho'
 rw [hd] at hd'
 cases hd'
 rw [hi] at hi'
 have e1:b=b':=by have:=(List.cons.inj hi').1; cases this; rfl
 have e2:x.2=y.2:=by have:=(List.cons.inj (List.cons.inj hi').2).1; injection this
 subst e1
 exact Prod.ext (hb.inj hb') e2
theorem IsNest.keep {h h':Heap} {k:List Int × Int} {a d:Addr} {o:Obj} {es ep} (x:IsNest prog w h k a) (ho:h.get? d=some o) (hd:o.data=.dict es ep) (hs:Heap.SameBut d h h'):IsNest prog w h' k a:=by
 obtain ⟨o',items,n,b,tk,ho',hc,hd',hi,hb⟩:=x
 refine ⟨o',items,n,b,tk,(hs.2 a fun e=>?_).trans ho',hc,hd',hi,hb.keeps ho hd hs⟩
 rw [e,ho] at ho'
 cases ho'
 rw [hd] at hd'
 cases hd'
theorem sJ {x y:List Int × Int} {a b:Addr} {P:PySem.Fin→Shared→Prop} (hu:A.units+2<cLine) (hx:IsNest prog w s.heap x a) (hy:IsNest prog w s.heap y b) (h:P (.done (.ret (.bool (decide (x=y))))) s):
  wpAny (model prog w) A (Builtin.«tuple.__eq__» ⟨[.ref a,.ref b],[]⟩) P E s:=by
 have hTb:=hy.ty
 obtain ⟨oa,xs,na,ca,ta,hoa,_,hda,hia,ka⟩:=hx
 obtain ⟨ob,ys,nb,cb,tb,hob,_,hdb,hib,kb⟩:=hy
 refine wpAny_bind (m:=isInstance (.ref b) (.type "tuple")) (wpAny_isInstance hTb isSubtype_tuple_tuple ?_)
 rw [if_neg (by decide)]
 refine wpAny_bind (wpAny_tupleItemsOf hoa hda (wpAny_bind (wpAny_tupleItemsOf hob hdb (wpAny_bind ?_))))
 rw [hia,hib]
 show wpAny _ _ (forIn [(Value.ref ca,Value.ref cb),(Value.int x.2 ta,Value.int y.2 tb)] _ _) _ _ _
 rw [List.forIn_cons]
 refine wpAny_bind (wpAny_bind (PySem.wpAny_eqBool_tuple (show A.units<cLine by omega) ka kb ?_))
 have szx:xs.size=2:=by rw [← Array.length_toList,hia]; rfl
 have szy:ys.size=2:=by rw [← Array.length_toList,hib]; rfl
 by_cases h1:x.1=y.1
 ·rw [decide_eq_true h1,if_neg (by decide)]
  refine wpAny_pure ?_
  dsimp only
  rw [List.forIn_cons]
  refine wpAny_bind (wpAny_bind ((intKind prog w).eqBool (a:=x.2) (b:=y.2) (by simp [intKind,Value.isInt]) (by simp [intKind,Value.isInt]) ?_))
  by_cases h2:x.2=y.2
  ·rw [decide_eq_true h2,if_neg (by decide)]
   refine wpAny_pure ?_
   dsimp only
   rw [List.forIn_nil]
   refine wpAny_pure ?_
   have e:decide (x=y)=true:=decide_eq_true (Prod.ext h1 h2)
   rw [e] at h
   dsimp only
   rw [szx,szy]
   exact wpAny_pure h
  ·have e:decide (x=y)=false:=decide_eq_false fun z=>h2 (by rw [z])
   rw [e] at h
   rw [decide_eq_false h2,if_pos (by decide)]
   exact wpAny_bind (wpAny_pure (wpAny_pure (wpAny_pure (wpAny_pure h))))
 ·have e:decide (x=y)=false:=decide_eq_false fun z=>h1 (by rw [z])
  rw [e] at h
  rw [decide_eq_false h1,if_pos (by decide)]
  exact wpAny_bind (wpAny_pure (wpAny_pure (wpAny_pure (wpAny_pure h))))
theorem fX {x y:List Int × Int} {a b:Addr} {Q:Bool→Shared→Prop} (hu:A.units+4<cLine) (hx:IsNest prog w s.heap x a) (hy:IsNest prog w s.heap y b) (h:Q (decide (x=y)) s):
  wpAny (model prog w) A (eqBool (.ref a) (.ref b)) Q E s:=by
 unfold eqBool
 try with_reducible refine wpAny_holding ?_
 by_cases hab:(Value.ref a == Value.ref b)=true
 ·rw [if_pos hab]
  obtain rfl:a=b:=by have:=eq_of_beq hab; injection this
  rw [decide_eq_true (hx.one hy)] at h
  exact wpAny_bind (wpAny_rule (wpAny_pure h))
 ·rw [if_neg hab]
  exact wpAny_bind (wpAny_richCompare_same_room (op:=.Eq) hx.ty hy.ty PySem.F.slot_tuple_eq
   (wpAny_call_entry PySem.F.slot_tuple_eq hx.ty PySem.F.entry_tuple_eq (sJ (show A.units+1+2<cLine by omega) hx hy ⟨_,rfl,(fun e=>nomatch e),wpAny_truthy_bool h⟩) (PySem.F.args_tuple_eq_2 _ _)) (show A.units<cLine by omega))
theorem qS {ks:List Int} {a:Addr} {n:Nat} {Q:Bool→Shared→Prop} (hk:IsTupleKey (intKind prog w) s.heap ks a) (h:Q true s):wpAny (model prog w) A (eqIsQuiet (n+1) (.ref a)) Q E s:=by
 have hT:=hk.typeIs
 obtain ⟨o,items,m,ho,_,hd,hi⟩:=hk
 unfold eqIsQuiet
 refine wpAny_bind (wpAny_specialOf hT PySem.F.slot_tuple_eq.lookup ?_)
 refine wpAny_bind (m:=isInstance (.ref a) (.type "tuple")) (wpAny_isInstance hT isSubtype_tuple_tuple ?_)
 rw [if_neg (by decide)]
 refine wpAny_bind (wpAny_seqItems ho hd (wpAny_bind ?_))
 show wpAny _ _ (forIn items _ _) _ _ s
 rw [← Array.forIn_toList]
 have key:∀ (l:List Value),(∀ v∈l,carriedByValue v=true)→wpAny (model prog w) A (forIn l (none,()) fun y (_:Option Bool × Unit)=>do
   if (!(← eqIsQuiet n y))=true then pure (ForInStep.done (some false,())) else pure (ForInStep.yield (none,()))) (fun r s'=>r=(none,())∧s'=s) E s:=fun l=>by
  induction l with
  | nil=>intro _; exact wpAny_pure ⟨rfl,rfl⟩
  | cons v l ih=>
   intro hall
   rw [List.forIn_cons,eqIsQuiet_byValue _ (hall v List.mem_cons_self)]
   exact ih fun u hu'=>hall u (List.mem_cons_of_mem _ hu')
 refine wpAny_mono (key _ hi.byValue) (fun r s' ⟨e1,e2⟩=>?_) fun _ _ z=>z
 subst e1
 subst e2
 exact wpAny_pure h
theorem qB {k:List Int × Int} {a:Addr} {Q:Bool→Shared→Prop} (hk:IsNest prog w s.heap k a) (h:Q true s):wpAny (model prog w) A (eqIsQuiet 8 (.ref a)) Q E s:=by
 have hT:=hk.ty
 obtain ⟨o,items,m,b,tk,ho,_,hd,hi,hb⟩:=hk
 unfold eqIsQuiet
 refine wpAny_bind (wpAny_specialOf hT PySem.F.slot_tuple_eq.lookup ?_)
 refine wpAny_bind (m:=isInstance (.ref a) (.type "tuple")) (wpAny_isInstance hT isSubtype_tuple_tuple ?_)
 rw [if_neg (by decide)]
 refine wpAny_bind (wpAny_seqItems ho hd (wpAny_bind ?_))
 show wpAny _ _ (forIn items _ _) _ _ s
 rw [← Array.forIn_toList,hi,List.forIn_cons]
 refine wpAny_bind (wpAny_bind (qS hb ?_))
 rw [if_neg (by decide)]
 refine wpAny_pure ?_
 dsimp only
 rw [List.forIn_cons]
 refine wpAny_bind (wpAny_bind (wpAny_pure ?_))
 rw [if_neg (by decide)]
 refine wpAny_pure ?_
 dsimp only
 rw [List.forIn_nil]
 exact wpAny_pure (wpAny_pure h)
end
def zI (prog:Program) (w:World):HeapKind prog w (List Int × Int) where
 is:=IsNest prog w
 hash:=uB prog w
 draws:=fun k=>k.1.length+3
 room:=fun A=>A.units+4<cLine
 inj:=fun hx hy=>hx.one hy
 keeps:=fun x ho hd hs=>x.keep ho hd hs
 pyHash:=fun hu hk h=>oR hu hk h
 eqBool:=fun hu hx hy h=>fX hu hx hy h
 quiet:=fun hk h=>qB hk h
end L2
namespace L2
open PySem PySem.Spec PyProof.Rows
def yk (P:Program) (w:World) (a:Addr) (ks:List (Int × Value)):Heap→Prop:=fun h=>(a == sysModules)=false∧ks.length≤sizeLine∧h.DictOf (intKind P w) a ks
def zH {P:Program} {w:World} {K:Type} [DecidableEq K] (knd:HeapKind P w K) (a:Addr) (xs:List (K × Addr × Value)):Heap→Prop:=fun h=>(a == sysModules)=false∧xs.length≤sizeLine∧
 ∃ o es ep,h.get? a=some o∧o.ExactDict∧o.data=.dict es ep∧es.toList=xs.map (entryOfKey knd)∧(xs.map (·.1)).Nodup
theorem uQ {P:Program} {w:World} {a:Addr} {ks:List (Int × Value)} {H:Hp} {h:Heap} (x:yk P w a ks h):ObjOk P w H h a (.ext (yk P w a ks)):=by
 refine ⟨x,?_,fun h1 h2 ⟨y1,y2,o,es,ep,z1,z2⟩ k=>⟨y1,y2,o,es,ep,k o z1,z2⟩⟩
 obtain ⟨_,_,o,_,_,e,_⟩:=x
 exact ⟨o,e⟩
theorem xJ {P:Program} {w:World} {K:Type} [DecidableEq K] {knd:HeapKind P w K} {a:Addr} {xs:List (K × Addr × Value)} {H:Hp} {h:Heap} (x:zH knd a xs h):ObjOk P w H h a (.ext (zH knd a xs)):=by
 refine ⟨x,?_,fun h1 h2 ⟨y1,y2,o,es,ep,z1,z2⟩ k=>⟨y1,y2,o,es,ep,k o z1,z2⟩⟩
 obtain ⟨_,_,o,_,_,e,_⟩:=x
 exact ⟨o,e⟩
def FK (H:Hp) (l:List Int) (b:Addr):Prop:=H b=some (.tup (l.map V.int))
def NK (H:Hp) (k:List Int × Int) (b:Addr):Prop:=∃ c,H b=some (.tup [.ref c,.int k.2])∧FK H k.1 c
section
variable {P:Program} {w:World} {H:Hp} {h:Heap}
theorem items_int:∀ {l:List Int} {its:List Value},Vals (l.map V.int) its→ItemsAre (intKind P w) l its
 | [],_,.nil=>.nil
 | n::l,_,.cons ⟨t,e⟩ r=>by
  subst e
  exact .cons (by simp [intKind,Value.isInt]) (items_int r)
theorem FK.is {l:List Int} {b:Addr} (ok:HOk P w H h) (x:FK H l b):(tupleKind (intKind P w)).is h l b:=by
 obtain ⟨_,its,r,o,h1,h2,n,h3⟩:=(show ObjOk P w H h b (.tup (l.map V.int)) from ok b _ x)
 exact ⟨o,its.toArray,n,h1,h2,h3,items_int r⟩
theorem NK.is {k:List Int × Int} {b:Addr} (ok:HOk P w H h) (x:NK H k b):(zI P w).is h k b:=by
 obtain ⟨c,hb,hc⟩:=x
 obtain ⟨_,its,r,o,h1,h2,n,h3⟩:=(show ObjOk P w H h b (.tup [.ref c,.int k.2]) from ok b _ hb)
 cases r with
 | cons r1 r=>
  cases r with
  | cons r2 r=>
   cases r
   obtain ⟨t,e2⟩:=r2
   obtain rfl:=r1
   subst e2
   exact ⟨o,_,n,c,t,h1,h2,h3,rfl,FK.is ok hc⟩
def DIn (P:Program) (w:World) (H:Hp) (a:Addr) (y:V) (r:Bool):Prop:=
 (∃ ks n,H a=some (.ext (yk P w a ks))∧y=.int n∧r=(valueAt ks n).isSome)∨
 (∃ xs b l,H a=some (.ext (zH (tupleKind (intKind P w)) a xs))∧y=.ref b∧FK H l b∧(∀ x∈xs,FK H x.1 x.2.1)∧r=(atKey xs l).isSome)∨
 ∃ xs b k,H a=some (.ext (zH (zI P w) a xs))∧y=.ref b∧NK H k b∧(∀ x∈xs,NK H x.1 x.2.1)∧r=(atKey xs k).isSome
def DGt (P:Program) (w:World) (H:Hp) (a:Addr) (y:V) (R:Value→Prop):Prop:=
 (∃ xs b l,H a=some (.ext (zH (tupleKind (intKind P w)) a xs))∧y=.ref b∧FK H l b∧(∀ x∈xs,FK H x.1 x.2.1)∧R (((atKey xs l).map (·.2)).getD .none))∨
 ∃ xs b k,H a=some (.ext (zH (zI P w) a xs))∧y=.ref b∧NK H k b∧(∀ x∈xs,NK H x.1 x.2.1)∧R (((atKey xs k).map (·.2)).getD .none)
def DPt (P:Program) (w:World) (H:Hp) (a:Addr) (y v:V) (R:HO→Prop):Prop:=
 (∃ ks n,H a=some (.ext (yk P w a ks))∧y=.int n∧valueAt ks n=none∧ks.length<sizeLine∧∀ r,RelV v r→R (.ext (yk P w a (ks++[(n,r)]))))∨
 (∃ xs b l,H a=some (.ext (zH (tupleKind (intKind P w)) a xs))∧y=.ref b∧FK H l b∧(∀ x∈xs,FK H x.1 x.2.1)∧atKey xs l=none∧xs.length<sizeLine∧∀ r,RelV v r→R (.ext (zH (tupleKind (intKind P w)) a (xs++[(l,b,r)]))))∨
 ∃ xs b k,H a=some (.ext (zH (zI P w) a xs))∧y=.ref b∧NK H k b∧(∀ x∈xs,NK H x.1 x.2.1)∧atKey xs k=none∧xs.length<sizeLine∧∀ r,RelV v r→R (.ext (zH (zI P w) a (xs++[(k,b,r)])))
end
section
variable {X:Cx} {pins:List (Addr × Obj)} {σ:St} {H:Hp} {s:Shared} {a:Addr} {y v:V} {u r:Value} {A:Around} {E:Value→Shared→Prop}
theorem yf {K:Type} [DecidableEq K] {knd:HeapKind X.prog X.w K} {xs:List (K × Addr × Value)} (I:Inv X pins σ H s) (e:H a=some (.ext (zH knd a xs))) (hk:∀ x∈xs,knd.is s.heap x.1 x.2.1):
  (a == sysModules)=false∧xs.length≤sizeLine∧s.heap.DictOfH knd a xs:=by
 obtain ⟨⟨z1,z2,o,es,ep,h1,h2,h3,h4,h5⟩,_,_⟩:=(show ObjOk X.prog X.w H s.heap a (.ext (zH knd a xs)) from I.hok a _ e)
 exact ⟨z1,z2,o,es,ep,h1,h2,h3,h4,hk,h5⟩
theorem uR {ks:List (Int × Value)} (I:Inv X pins σ H s) (e:H a=some (.ext (yk X.prog X.w a ks))):yk X.prog X.w a ks s.heap:=
 (show ObjOk X.prog X.w H s.heap a (.ext (yk X.prog X.w a ks)) from I.hok a _ e).1
theorem kN {b:Bool} {Q:Value→Shared→Prop} (hu:A.units+9<cLine) (I:Inv X pins σ H s) (g:DIn X.prog X.w H a y b) (ry:RelV y u) (h:∀ s',Inv X pins σ H s'→Q (.bool (!b)) s'):
  wpAny (model X.prog X.w) A (compareOp .NotIn u (.ref a)) Q E s:=by
 rcases g with ⟨ks,n,e,ey,l⟩ | ⟨xs,c,k,e,ey,hk,hx,l⟩ | ⟨xs,c,k,e,ey,hk,hx,l⟩
 ·subst ey
  obtain ⟨t,e2⟩:=ry
  subst e2
  obtain ⟨z1,z2,dd⟩:=uR I e
  refine wpAny_notIn_of (knd:=intKind X.prog X.w) (k:=n) (by simp [intKind,Value.isInt]) z1 dd.mapOf ?_
  rw [← l]
  exact h _ (I.tok _)
 ·subst ey
  cases (show u=Value.ref c from ry)
  obtain ⟨z1,z2,dd⟩:=yf I e fun x q=>(hx x q).is I.hok
  refine PyProof.Rows.wpAny_notIn_heap (show A.units+1<cLine by omega) (hk.is I.hok) z1 dd ?_
  rw [← l]
  exact h _ (I.tok _)
 ·subst ey
  cases (show u=Value.ref c from ry)
  obtain ⟨z1,z2,dd⟩:=yf I e fun x q=>(hx x q).is I.hok
  refine PyProof.Rows.wpAny_notIn_heap (knd:=zI X.prog X.w) (show A.units+1+4<cLine by omega) (hk.is I.hok) z1 dd ?_
  rw [← l]
  exact h _ (I.tok _)
theorem ZJ {R:Value→Prop} {Q:Value→Shared→Prop} (hu:A.units+9<cLine) (I:Inv X pins σ H s) (g:DGt X.prog X.w H a y R) (ry:RelV y u) (h:∀ w s',Inv X pins σ H s'→R w→Q w s'):
  wpAny (model X.prog X.w) A (call (.builtin "dict.get") [.ref a,u]) Q E s:=by
 rcases g with ⟨xs,c,k,e,ey,hk,hx,l⟩ | ⟨xs,c,k,e,ey,hk,hx,l⟩
 ·subst ey
  cases (show u=Value.ref c from ry)
  obtain ⟨z1,z2,dd⟩:=yf I e fun x q=>(hx x q).is I.hok
  exact call_meetsIn PySem.F.slot_dict_get dd.typeIs PySem.F.entry_dict_get (PySem.F.args_dict_get_2 _ _) (meetsH_dict_get (tupleKind (intKind X.prog X.w)) a c z1) ⟨show A.units+1<cLine by omega,k,xs,hk.is I.hok,dd,h _ _ (I.tok _) l⟩
 ·subst ey
  cases (show u=Value.ref c from ry)
  obtain ⟨z1,z2,dd⟩:=yf I e fun x q=>(hx x q).is I.hok
  exact call_meetsIn PySem.F.slot_dict_get dd.typeIs PySem.F.entry_dict_get (PySem.F.args_dict_get_2 _ _) (meetsH_dict_get (zI X.prog X.w) a c z1) ⟨show A.units+1+4<cLine by omega,k,xs,hk.is I.hok,dd,h _ _ (I.tok _) l⟩
theorem ZI {R:HO→Prop} {Q:Unit→Shared→Prop} (hu:A.units+9<cLine) (I:Inv X pins σ H s) (g:DPt X.prog X.w H a y v R) (ry:RelV y u) (rv:RelV v r) (h:∀ o s',R o→Inv X pins σ (upd H a o) s'→Q () s'):
  wpAny (model X.prog X.w) A (setItem (.ref a) u r) Q E s:=by
 rcases g with ⟨ks,n,e,ey,l,hl,hR⟩ | ⟨xs,c,k,e,ey,hk,hx,l,hl,hR⟩ | ⟨xs,c,k,e,ey,hk,hx,l,hl,hR⟩
 ·subst ey
  obtain ⟨t,e2⟩:=ry
  subst e2
  obtain ⟨z1,z2,dd⟩:=uR I e
  refine wpAny_setItem_pairs (knd:=intKind X.prog X.w) (k:=n) (hsz:=z2) (by simp [intKind,Value.isInt]) dd fun h' dd' hs=>h _ _ (hR r rv) ?_
  have es:stored ks n r=ks++[(n,r)]:=by
   unfold stored
   rw [if_neg]
   intro z
   obtain ⟨kv,h1,h2⟩:=List.any_eq_true.mp z
   unfold valueAt at l
   rw [Option.map_eq_none_iff,List.find?_eq_none] at l
   exact l kv h1 h2
  rw [es] at dd'
  have he:∃ q,h'.get? a=some q:=let ⟨q,_,_,hq,_⟩:=dd'; ⟨q,hq⟩
  exact I.write (x:=a) (e:=a) (by rw [e]; exact True.intro) (.inl rfl) (fun b q hb z=>(hs.2 b hb).trans z) he (uQ ⟨z1,by rw [List.length_append]; show _+1≤_; omega,dd'⟩)
 ·subst ey
  cases (show u=Value.ref c from ry)
  obtain ⟨z1,z2,dd⟩:=yf I e fun x q=>(hx x q).is I.hok
  refine PySem.wpAny_setItem_heap (hsz:=z2) (show A.units+1<cLine by omega) (hk.is I.hok) dd fun h' dd' hs=>h _ _ (hR r rv) ?_
  rw [storedH_new l] at dd'
  obtain ⟨q,es,ep,hq,h2,h3,h4,_,h5⟩:=dd'
  exact I.write (x:=a) (e:=a) (by rw [e]; exact True.intro) (.inl rfl) (fun b q hb z=>(hs.2 b hb).trans z) ⟨q,hq⟩ (xJ ⟨z1,by rw [List.length_append]; show _+1≤_; omega,q,es,ep,hq,h2,h3,h4,h5⟩)
 ·subst ey
  cases (show u=Value.ref c from ry)
  obtain ⟨z1,z2,dd⟩:=yf I e fun x q=>(hx x q).is I.hok
  refine PySem.wpAny_setItem_heap (knd:=zI X.prog X.w) (hsz:=z2) (show A.units+1+4<cLine by omega) (hk.is I.hok) dd fun h' dd' hs=>h _ _ (hR r rv) ?_
  rw [storedH_new l] at dd'
  obtain ⟨q,es,ep,hq,h2,h3,h4,_,h5⟩:=dd'
  exact I.write (x:=a) (e:=a) (by rw [e]; exact True.intro) (.inl rfl) (fun b q hb z=>(hs.2 b hb).trans z) ⟨q,hq⟩ (xJ ⟨z1,by rw [List.length_append]; show _+1≤_; omega,q,es,ep,hq,h2,h3,h4,h5⟩)
end
end L2
namespace L2
open PySem PySem.Spec PyProof.Rows
def Wh (P:Program) (w:World) (ty td:TE):TE:=fun σ H Q=>ty σ H fun y H1=>td σ H1 fun x H2=>∃ a r,x=.ref a∧DIn P w H2 a y r∧Q (.bl (!r)) H2
def Wo (P:Program) (w:World) (td ty tv:TE):TS:=fun D σ H=>tv σ H fun v H1=>td σ H1 fun x H2=>ty σ H2 fun y H3=>∃ a,x=.ref a∧DPt P w H3 a y v fun o=>D.nx σ (upd H3 a o)
section
variable {X:Cx} {i o e value:Expr} {pos pos':Pos} {td ty tv:TE}
theorem cK (hu:X.A.units+9<cLine) (hi:PE X i ty) (ho:PE X o td):PC X .NotIn i o (Wh X.prog X.w ty td):=by
 intro pins s σ H Q I h
 refine thn (hi pins s σ H _ I h) fun iv s1 ⟨y,H1,I1,ry,q1⟩=>thn (ho pins s1 σ H1 _ I1 q1) fun u s2 ⟨x,H2,I2,rx,a,r,ex,g,q2⟩=>?_
 subst ex
 cases (show u=Value.ref a from rx)
 exact kN hu I2 g ry fun s3 I3=>⟨.bl (!r),H2,I3,rfl,q2⟩
theorem cx (hu:X.A.units+9<cLine) (ho:PE X o td) (hi:PE X i ty) (hv:PE X value tv) (hs:swapsWith value (some (.Subscript o i pos')) pos.line X.env=pure false):
  PS X (.Assign [.Subscript o i pos'] value pos) (Wo X.prog X.w td ty tv):=by
 intro pins s σ H D I h
 refine wpAny_Assign_Subscript (thn (hv pins s σ H _ I h) fun r s1 ⟨v,H1,I1,rv,q1⟩=>thn (ho pins s1 σ H1 _ I1 q1) fun u s2 ⟨x,H2,I2,rx,q2⟩=>thn (hi pins s2 σ H2 _ I2 q2) fun iv s3 ⟨y,H3,I3,ry,a,ex,g⟩=>?_) hs
 subst ex
 cases (show u=Value.ref a from rx)
 exact ZI hu I3 g ry rv fun o s4 hR I4=>⟨σ,_,I4,hR⟩
def Wj (P:Program) (w:World) (mk:Addr→HO):TE:=fun _ H Q=>∀ p,H p=none→Q (.ref p) (upd H p (mk p))
theorem nH {K:Type} [DecidableEq K] {knd:HeapKind X.prog X.w K}:PE X (.Dict [] [] pos) (Wj X.prog X.w fun p=>.ext (zH knd p [])):=fun pins s σ H Q I h=>by
 have hb:sysModules<s.heap.objs.size:=Nat.lt_trans (by decide) (I.mod.glob.keeps I.bk).lt
 refine wpAny_Dict_empty ⟨.ref s.heap.objs.size,_,I.laid (a:=s.heap.objs.size) (o:=.ext (zH knd s.heap.objs.size [])) (t':=s.toks) (fun _ _ q=>Heap.get?_push_of_some _ q) (Nat.le_refl _) (xJ ⟨beq_eq_false_iff_ne.mpr (Ne.symm (Nat.ne_of_lt hb)),Nat.zero_le _,?_⟩),rfl,h _ (I.hok.fresh (Nat.le_refl _))⟩
 exact ⟨_,#[],0,Heap.get?_push_size _ rfl,⟨rfl,rfl,rfl⟩,rfl,rfl,List.nodup_nil⟩
def Wi (P:Program) (w:World) (tk tv:TE):TE:=fun σ H Q=>∀ p,H p=none→
 (tk σ (upd H p (.ext (yk P w p []))) fun y H1=>tv σ H1 fun v H2=>∃ n,H2 p=some (.ext (yk P w p []))∧y=.int n∧∀ r,RelV v r→Q (.ref p) (upd H2 p (.ext (yk P w p [(n,r)]))))∨
 (tk σ (upd H p (.ext (zH (tupleKind (intKind P w)) p []))) fun y H1=>tv σ H1 fun v H2=>∃ b l,H2 p=some (.ext (zH (tupleKind (intKind P w)) p []))∧y=.ref b∧FK H2 l b∧∀ r,RelV v r→Q (.ref p) (upd H2 p (.ext (zH (tupleKind (intKind P w)) p [(l,b,r)]))))
theorem cE {k v:Expr} {tk tv:TE} (hu:X.A.units+9<cLine) (hk:PE X k tk) (hv:PE X v tv):PE X (.Dict [some k] [v] pos) (Wi X.prog X.w tk tv):=by
 intro pins s σ H Q I h
 have hb:sysModules<s.heap.objs.size:=Nat.lt_trans (by decide) (I.mod.glob.keeps I.bk).lt
 have hm:(s.heap.objs.size == sysModules)=false:=beq_eq_false_iff_ne.mpr (Ne.symm (Nat.ne_of_lt hb))
 rcases h _ (I.hok.fresh (Nat.le_refl s.heap.objs.size)) with h | h
 ·have I1:=I.laid (a:=s.heap.objs.size) (o:=.ext (yk X.prog X.w s.heap.objs.size [])) (h':=s.heap.push { cls:=.type "dict",data:=.dict #[] }) (t':=s.toks) (fun _ _ q=>Heap.get?_push_of_some _ q) (Nat.le_refl _) (uQ ⟨hm,Nat.zero_le _,Heap.DictOf.new s.heap⟩)
  refine wpAny_Dict_any rfl rfl (fun z=>nomatch z) (by show 1≤15; decide) (pairTrees_cons_walk (thn (hk pins _ σ _ _ I1 h) fun ku s1 ⟨y,H1,J1,ry,q1⟩=>thn (hv pins s1 σ H1 _ J1 q1) fun vu s2 ⟨x,H2,J2,rx,n,e,ey,q2⟩=>pairTrees_nil_walk ?_))
  subst ey
  obtain ⟨t,e2⟩:=ry
  subst e2
  obtain ⟨z1,z2,dd⟩:=uR J2 e
  refine wpAny_bind (wpAny_bind (wpAny_dictSet_pairs (knd:=intKind X.prog X.w) (k:=n) (hsz:=z2) (by simp [intKind,Value.isInt]) dd fun h' dd' hs=>wpAny_pure (wpAny_pure ⟨.ref s.heap.objs.size,_,?_,rfl,q2 vu rx⟩)))
  have he:∃ q,h'.get? s.heap.objs.size=some q:=let ⟨q,_,_,hq,_⟩:=dd'; ⟨q,hq⟩
  exact J2.write (x:=s.heap.objs.size) (e:=s.heap.objs.size) (by rw [e]; exact True.intro) (.inl rfl) (fun b q hb z=>(hs.2 b hb).trans z) he (uQ ⟨z1,by show 1≤sizeLine; decide,dd'⟩)
 ·have I1:=I.laid (a:=s.heap.objs.size) (o:=.ext (zH (tupleKind (intKind X.prog X.w)) s.heap.objs.size [])) (h':=s.heap.push { cls:=.type "dict",data:=.dict #[] }) (t':=s.toks) (fun _ _ q=>Heap.get?_push_of_some _ q) (Nat.le_refl _)
   (xJ ⟨hm,Nat.zero_le _,_,#[],0,Heap.get?_push_size _ rfl,⟨rfl,rfl,rfl⟩,rfl,rfl,List.nodup_nil⟩)
  refine wpAny_Dict_any rfl rfl (fun z=>nomatch z) (by show 1≤15; decide) (pairTrees_cons_walk (thn (hk pins _ σ _ _ I1 h) fun ku s1 ⟨y,H1,J1,ry,q1⟩=>thn (hv pins s1 σ H1 _ J1 q1) fun vu s2 ⟨x,H2,J2,rx,b,l,e,ey,hf,q2⟩=>pairTrees_nil_walk ?_))
  subst ey
  cases (show ku=Value.ref b from ry)
  obtain ⟨z1,z2,dd⟩:=yf J2 e (fun x q=>nomatch q)
  refine wpAny_bind (wpAny_bind (PySem.wpAny_dictSet_heap (hsz:=z2) (show X.A.units<cLine by omega) (hf.is J2.hok) dd fun h' dd' hs=>wpAny_pure (wpAny_pure ⟨.ref s.heap.objs.size,_,?_,rfl,q2 vu rx⟩)))
  obtain ⟨q,es,ep,hq,h2,h3,h4,_,h5⟩:=dd'
  exact J2.write (x:=s.heap.objs.size) (e:=s.heap.objs.size) (by rw [e]; exact True.intro) (.inl rfl) (fun b q hb z=>(hs.2 b hb).trans z) ⟨q,hq⟩ (xJ ⟨z1,by show 1≤sizeLine; decide,q,es,ep,hq,h2,h3,h4,h5⟩)
end
end L2
namespace OD
open PySem PySem.Spec PyProof.Rows L2
inductive KD where | ki (n:Int) | kp (l:List Int) | kn (l:List Int) (t:Int)
deriving DecidableEq
inductive KM where | mi | mp | mn
def KD.md:KD→KM
 | .ki _=>.mi | .kp _=>.mp | .kn _ _=>.mn
def KD.dt:KD→Dt
 | .ki n=>.int n | .kp l=>.tup (l.map Dt.int) | .kn l t=>.tup [.tup (l.map Dt.int),.int t]
abbrev DKV:=List (KD × Dt)
def zQ (kvs:DKV) (k:KD):Option Dt:=(kvs.find? fun x=>decide (x.1=k)).map (·.2)
def VIs (K:PySem.W.Frag) (g:Hp) (e:Dt) (u:Value):Prop:=∃ v,RelV v u∧Is K g e v
section
variable {P:Program} {w:World} {K:PySem.W.Frag} {g g':Hp}
def dictIs (P:Program) (w:World) (K:PySem.W.Frag) (kvs:DKV) (g:Hp) (a:Addr) (o:HO):KM→Prop
 | .mi=>∃ ks,o=.ext (yk P w a ks)∧Paired (fun (x:KD × Dt) (q:Int × Value)=>x.1=.ki q.1∧VIs K g x.2 q.2) kvs ks
 | .mp=>∃ xs,o=.ext (zH (tupleKind (intKind P w)) a xs)∧Paired (fun (x:KD × Dt) (q:List Int × Addr × Value)=>x.1=.kp q.1∧FK g q.1 q.2.1∧VIs K g x.2 q.2.2) kvs xs
 | .mn=>∃ xs,o=.ext (zH (zI P w) a xs)∧Paired (fun (x:KD × Dt) (q:(List Int × Int) × Addr × Value)=>x.1=.kn q.1.1 q.1.2∧NK g q.1 q.2.1∧VIs K g x.2 q.2.2) kvs xs
theorem VIs.mono {e:Dt} {u:Value} (s:Same g g') (h:VIs K g e u):VIs K g' e u:=let ⟨v,h1,h2⟩:=h; ⟨v,h1,Is.mono0 s h2⟩
theorem FK.mono {l:List Int} {b:Addr} (s:Same g g') (h:FK g l b):FK g' l b:=s _ _ h
theorem NK.mono {k:List Int × Int} {b:Addr} (s:Same g g') (h:NK g k b):NK g' k b:=let ⟨c,h1,h2⟩:=h; ⟨c,s _ _ h1,FK.mono s h2⟩
theorem dictIs.mono {m:KM} {kvs:DKV} {a:Addr} {o:HO} (s:Same g g') (h:dictIs P w K kvs g a o m):dictIs P w K kvs g' a o m:=by
 cases m with
 | mi=>obtain ⟨ks,e,r⟩:=h; exact ⟨ks,e,Paired.mapP r fun x q z=>⟨z.1,z.2.mono s⟩⟩
 | mp=>obtain ⟨ks,e,r⟩:=h; exact ⟨ks,e,Paired.mapP r fun x q z=>⟨z.1,FK.mono s z.2.1,z.2.2.mono s⟩⟩
 | mn=>obtain ⟨ks,e,r⟩:=h; exact ⟨ks,e,Paired.mapP r fun x q z=>⟨z.1,NK.mono s z.2.1,z.2.2.mono s⟩⟩
def yM (P:Program) (w:World) (K:PySem.W.Frag) (m:KM) (kvs:DKV):ObP:=⟨fun g a o=>dictIs P w K kvs g a o m,fun s h=>dictIs.mono s h⟩
theorem wT {m:KM} {kvs:DKV} {a:Addr} {o:HO} (h:dictIs P w K kvs g a o m):∀ xs,o≠.lst xs:=by
 intro xs e
 cases m with
 | mi=>obtain ⟨ks,e',_⟩:=h; rw [e'] at e; cases e
 | mp=>obtain ⟨ks,e',_⟩:=h; rw [e'] at e; cases e
 | mn=>obtain ⟨ks,e',_⟩:=h; rw [e'] at e; cases e
theorem pI:∀ {l:List Int} {xs:List V},AllIs K g (l.map Dt.int) xs→xs=l.map V.int
 | [],_,h=>allIs_nil.mp h
 | n::l,_,h=>by
  obtain ⟨x,r,rfl,h1,h2⟩:=allIs_cons.mp h
  rw [is_int.mp h1,pI h2]; rfl
theorem kf {n:Int} {y:V} (h:Is K g (KD.dt (.ki n)) y):y=.int n:=is_int.mp h
theorem tU {l:List Int} {y:V} (h:Is K g (KD.dt (.kp l)) y):∃ b,y=.ref b∧FK g l b:=by
 obtain ⟨a,xs,rfl,h1,h2⟩:=is_tup.mp h
 rw [pI h2] at h1
 exact ⟨a,rfl,h1⟩
theorem pH {l:List Int} {t:Int} {y:V} (h:Is K g (KD.dt (.kn l t)) y):∃ b,y=.ref b∧NK g (l,t) b:=by
 obtain ⟨a,xs,rfl,h1,h2⟩:=is_tup.mp h
 obtain ⟨x,r,rfl,h3,h4⟩:=allIs_cons.mp h2
 obtain ⟨x',r',rfl,h5,h6⟩:=allIs_cons.mp h4
 obtain ⟨c,e,hc⟩:=tU (l:=l) h3
 rw [e,is_int.mp h5,allIs_nil.mp h6] at h1
 exact ⟨a,rfl,c,h1,hc⟩
theorem l4 {kvs:DKV} {ks:List (Int × Value)} (r:Paired (fun (x:KD × Dt) (q:Int × Value)=>x.1=.ki q.1∧VIs K g x.2 q.2) kvs ks) (n:Int):(valueAt ks n).isSome=(zQ kvs (.ki n)).isSome:=by
 unfold valueAt zQ
 rw [Option.isSome_map,Option.isSome_map]
 induction r with
 | nil=>rfl
 | @cons x q xs qs h t ih=>
  rw [List.find?_cons,List.find?_cons,h.1]
  by_cases e:q.1=n
  ·rw [decide_eq_true e,decide_eq_true (by rw [e])]; rfl
  ·rw [decide_eq_false e,decide_eq_false (fun z=>e (KD.ki.inj z))]; exact ih
def VOp (K:PySem.W.Frag) (g:Hp):Option Dt→Option (Addr × Value)→Prop
 | none,none=>True
 | some e,some (_,u)=>VIs K g e u
 | _,_=>False
theorem sL {kvs:DKV} {xs:List (List Int × Addr × Value)} (r:Paired (fun (x:KD × Dt) (q:List Int × Addr × Value)=>x.1=.kp q.1∧FK g q.1 q.2.1∧VIs K g x.2 q.2.2) kvs xs) (l:List Int):VOp K g (zQ kvs (.kp l)) (atKey xs l):=by
 unfold atKey zQ
 induction r with
 | nil=>trivial
 | @cons x q xs qs h t ih=>
  rw [List.find?_cons,List.find?_cons,h.1]
  by_cases e:q.1=l
  ·rw [decide_eq_true e,decide_eq_true (show KD.kp q.1=KD.kp l by rw [e])]; exact h.2.2
  ·rw [decide_eq_false e,decide_eq_false (show ¬ KD.kp q.1=KD.kp l from fun z=>e (KD.kp.inj z))]; exact ih
theorem sM {kvs:DKV} {xs:List ((List Int × Int) × Addr × Value)} (r:Paired (fun (x:KD × Dt) (q:(List Int × Int) × Addr × Value)=>x.1=.kn q.1.1 q.1.2∧NK g q.1 q.2.1∧VIs K g x.2 q.2.2) kvs xs) (l:List Int) (m:Int):VOp K g (zQ kvs (.kn l m)) (atKey xs (l,m)):=by
 unfold atKey zQ
 induction r with
 | nil=>trivial
 | @cons x q xs qs h t ih=>
  rw [List.find?_cons,List.find?_cons,h.1]
  by_cases e:q.1=(l,m)
  ·rw [decide_eq_true e,decide_eq_true (show KD.kn q.1.1 q.1.2=KD.kn l m by rw [e])]; exact h.2.2
  ·rw [decide_eq_false e,decide_eq_false (show ¬ KD.kn q.1.1 q.1.2=KD.kn l m from fun z=>e (Prod.ext (KD.kn.inj z).1 (KD.kn.inj z).2))]; exact ih
theorem VOp.some_ {a:Option Dt} {b:Option (Addr × Value)} (h:VOp K g a b):b.isSome=a.isSome:=by
 cases a <;> cases b <;> first | rfl | exact h.elim
theorem zX {α β:Type} {F:α→β→Prop} {xs:List α} {ys:List β} (r:Paired F xs ys):∀ y∈ys,∃ x,F x y:=by
 induction r with
 | nil=>intro y hy; exact nomatch hy
 | cons h t ih=>
  intro y hy
  rcases List.mem_cons.mp hy with rfl | hy
  ·exact ⟨_,h⟩
  ·exact ih y hy
theorem xB {α β:Type} {F:α→β→Prop} {xs:List α} {ys:List β} {x:α} {y:β} (r:Paired F xs ys) (h:F x y):Paired F (xs++[x]) (ys++[y]):=by
 induction r with
 | nil=>exact .cons h .nil
 | cons h' _ ih=>exact .cons h' ih
theorem wj {α β:Type} {F:α→β→Prop} {xs:List α} {ys:List β} (r:Paired F xs ys):xs.length=ys.length:=by
 induction r with
 | nil=>rfl
 | cons _ _ ih=>rw [List.length_cons,List.length_cons,ih]
theorem e8 {W:Vw} {m:KM} {kvs:DKV} {a:Addr} {o:HO} {k:KD} {y:V} (h:dictIs P w K kvs W.g a o m) (ho:W.h a=some o) (hk:k.md=m) (hy:Is K W.g k.dt y):DIn P w W.h a y (zQ kvs k).isSome:=by
 subst hk
 cases k with
 | ki n=>
  obtain ⟨ks,rfl,r⟩:=h
  exact .inl ⟨ks,n,ho,kf hy,(l4 r n).symm⟩
 | kp l=>
  obtain ⟨xs,rfl,r⟩:=h
  obtain ⟨b,rfl,hb⟩:=tU hy
  exact .inr (.inl ⟨xs,b,l,ho,rfl,FK.mono W.sub hb,fun q hq=>let ⟨_,z⟩:=zX r q hq; FK.mono W.sub z.2.1,(sL r l).some_.symm⟩)
 | kn l t=>
  obtain ⟨xs,rfl,r⟩:=h
  obtain ⟨b,rfl,hb⟩:=pH hy
  exact .inr (.inr ⟨xs,b,(l,t),ho,rfl,NK.mono W.sub hb,fun q hq=>let ⟨_,z⟩:=zX r q hq; NK.mono W.sub z.2.1,(sM r l t).some_.symm⟩)
theorem kL {W:Vw} {m:KM} {kvs:DKV} {a:Addr} {o:HO} {k:KD} {e:Dt} {y v:V} {R:HO→Prop} (h:dictIs P w K kvs W.g a o m) (ho:W.h a=some o) (hk:k.md=m) (hy:Is K W.g k.dt y) (hv:Is K W.g e v) (hn:zQ kvs k=none) (hl:kvs.length<16777216)
  (hR:∀ o',dictIs P w K (kvs++[(k,e)]) W.g a o' m→R o'):DPt P w W.h a y v R:=by
 subst hk
 cases k with
 | ki n=>
  obtain ⟨ks,rfl,r⟩:=h
  refine .inl ⟨ks,n,ho,kf hy,?_,by rw [← wj r,sizeLine_eq]; exact hl,fun u hu=>hR _ ⟨_,rfl,xB r ⟨rfl,v,hu,hv⟩⟩⟩
  have:=l4 r n
  rw [hn] at this
  exact Option.not_isSome_iff_eq_none.mp (by rw [this]; decide)
 | kp l=>
  obtain ⟨xs,rfl,r⟩:=h
  obtain ⟨b,rfl,hb⟩:=tU hy
  have z:=(sL r l).some_
  rw [hn] at z
  exact .inr (.inl ⟨xs,b,l,ho,rfl,FK.mono W.sub hb,fun q hq=>let ⟨_,z⟩:=zX r q hq; FK.mono W.sub z.2.1,Option.not_isSome_iff_eq_none.mp (by rw [z]; decide),by rw [← wj r,sizeLine_eq]; exact hl,fun u hu=>hR _ ⟨_,rfl,xB r ⟨rfl,hb,v,hu,hv⟩⟩⟩)
 | kn l t=>
  obtain ⟨xs,rfl,r⟩:=h
  obtain ⟨b,rfl,hb⟩:=pH hy
  have z:=(sM r l t).some_
  rw [hn] at z
  exact .inr (.inr ⟨xs,b,(l,t),ho,rfl,NK.mono W.sub hb,fun q hq=>let ⟨_,z⟩:=zX r q hq; NK.mono W.sub z.2.1,Option.not_isSome_iff_eq_none.mp (by rw [z]; decide),by rw [← wj r,sizeLine_eq]; exact hl,fun u hu=>hR _ ⟨_,rfl,xB r ⟨rfl,hb,v,hu,hv⟩⟩⟩)
end
end OD
namespace OD
open PySem PySem.Spec PyProof.Rows L2
def pD (ρ:DS):Bool:=ρ.all fun s=>match s with | .obj _=>false | _=>true
theorem rB {ρ:DS} {j:Nat} {ψ:ObP} (h:pD ρ=true) (q:ρ[j]? = some (.obj ψ)):False:=by
 have:=List.all_eq_true.mp h _ (List.mem_of_getElem? q)
 cases this
section
variable {K:PySem.W.Frag} {Z F:Hp} {W W':Vw} {ρ:DS} {σ:L2.St}
theorem Rl.obj (r:Rl K Z F W ρ σ) (s:Le W W') {p:Addr} {o:HO} {φ:ObP} (i:Nat) (hone:pD (ρ.set i .none)=true) (h0:W.h p=none) (h1:W'.h p=some o) (nl:∀ xs,o≠.lst xs) (h2:W'.g p=none) (h3:φ.is W'.g p o):
  Rl K Z F W' (ρ.set i (.obj φ)) (σ.set i (some (.ref p))):=by
 have u:=(r.unset i).mono s
 have hs:∀ j,j≠i→(σ.set i (some (V.ref p)))[j]? = (σ.set i none)[j]?:=fun j hj=>by rw [List.getElem?_set_ne (fun z=>hj z.symm),List.getElem?_set_ne (fun z=>hj z.symm)]
 have cl:∀ (j:Nat) (y:Sl),(ρ.set i (.obj φ))[j]? = some y→(∀ ψ,y≠Sl.obj ψ)→j≠i∧(ρ.set i Sl.none)[j]? = some y:=fun j y q hy=>by
  rcases zj q with ⟨_,_,e1⟩ | ⟨hij,q⟩
  ·exact absurd e1.symm (hy φ)
  ·exact ⟨fun z=>hij z.symm,by rw [List.getElem?_set_ne hij]; exact q⟩
 refine ⟨by rw [List.length_set,List.length_set]; exact r.len,fun j d q=>?_,fun j ds q=>?_,fun j k ds es hjk q1 q2=>?_,u.fr,r.z,fun j c ds q=>?_,fun j ψ q=>?_⟩
 ·obtain ⟨hj,q⟩:=cl j _ q (fun ψ z=>nomatch z)
  rw [hs j hj]; exact u.at_ j d q
 ·obtain ⟨hj,q⟩:=cl j _ q (fun ψ z=>nomatch z)
  rw [hs j hj]; exact u.ow j ds q
 ·obtain ⟨hj,q1⟩:=cl j _ q1 (fun ψ z=>nomatch z)
  obtain ⟨hk,q2⟩:=cl k _ q2 (fun ψ z=>nomatch z)
  rw [hs j hj,hs k hk]; exact u.ne j k ds es hjk q1 q2
 ·obtain ⟨hj,q⟩:=cl j _ q (fun ψ z=>nomatch z)
  obtain ⟨⟨xs,g1,g2⟩,k1,k2⟩:=u.ar j c ds q
  refine ⟨⟨xs,by rw [hs j hj]; exact g1,g2⟩,fun k es q'=>?_,fun k b es q'=>k2 k b es (cl k _ q' (fun ψ z=>nomatch z)).2⟩
  obtain ⟨hk,q'⟩:=cl k _ q' (fun ψ z=>nomatch z)
  rw [hs k hk]; exact k1 k es q'
 ·rcases zj q with ⟨rfl,hl,e1⟩ | ⟨hij,q⟩
  ·cases e1
   refine ⟨⟨p,o,by rw [List.getElem?_set_self (by rw [← r.len]; exact hl)],h1,nl,h2,r.fr.free h0,h3⟩,fun k ψ' q'=>?_⟩
   rcases zj q' with ⟨e,_,_⟩ | ⟨hik,q'⟩
   ·exact e.symm
   ·exact (rB hone (by rw [List.getElem?_set_ne hik]; exact q')).elim
  ·exact (rB hone (by rw [List.getElem?_set_ne hij]; exact q)).elim
theorem Rl.objPut (r:Rl K Z F W ρ σ) {i:Nat} {φ ψ:ObP} {a:Addr} {o o':HO} (hi:ρ[i]? = some (.obj φ)) (ha:σ[i]? = some (some (.ref a))) (ho:W.h a=some o) (nl:∀ xs,o≠.lst xs) (hg:W.g a=none) (hF:F a=none) (nl':∀ xs,o'≠.lst xs) (h3:ψ.is W.g a o'):
  Rl K Z F (W.mine a o' hg) (ρ.set i (.obj ψ)) σ:=by
 have ne:∀ b xs,W.h b=some (.lst xs)→b≠a:=fun b xs q e=>by rw [e,ho] at q; exact nl xs (Option.some.inj q)
 have cl:∀ (j:Nat) (y:Sl),(ρ.set i (.obj ψ))[j]? = some y→(∀ χ,y≠Sl.obj χ)→ρ[j]? = some y:=fun j y q hy=>by
  rcases zj q with ⟨_,_,e1⟩ | ⟨_,q⟩
  ·exact absurd e1.symm (hy ψ)
  ·exact q
 refine ⟨by rw [List.length_set]; exact r.len,fun j d q=>r.at_ j d (cl j _ q (fun ψ z=>nomatch z)),fun j ds q=>?_,fun j k ds es hjk q1 q2=>r.ne j k ds es hjk (cl j _ q1 (fun ψ z=>nomatch z)) (cl k _ q2 (fun ψ z=>nomatch z)),fun p u q=>?_,r.z,fun j c ds q=>?_,fun j χ q=>?_⟩
 ·obtain ⟨b,xs,e1,e2,e3⟩:=r.ow j ds (cl j _ q (fun ψ z=>nomatch z))
  exact ⟨b,xs,e1,(zl (ne b xs e2)).trans e2,e3⟩
 ·have e:p≠a:=fun e=>by rw [e,hF] at q; cases q
  exact (zl (H:=W.h) (o:=o') e).trans (r.fr p u q)
 ·obtain ⟨⟨xs,g1,g2,g3⟩,k1,k2⟩:=r.ar j c ds (cl j _ q (fun ψ z=>nomatch z))
  exact ⟨⟨xs,g1,(zl (ne c xs g2)).trans g2,g3⟩,fun k es q'=>k1 k es (cl k _ q' (fun ψ z=>nomatch z)),fun k b es q'=>k2 k b es (cl k _ q' (fun ψ z=>nomatch z))⟩
 ·have one:=(r.ob i φ hi).2
  rcases zj q with ⟨rfl,hl,e1⟩ | ⟨hij,q⟩
  ·cases e1
   refine ⟨⟨a,o',ha,zh,nl',hg,hF,h3⟩,fun k ψ' q'=>?_⟩
   rcases zj q' with ⟨e,_,_⟩ | ⟨_,q'⟩
   ·exact e.symm
   ·exact one k ψ' q'
  ·exact absurd (one j χ q).symm hij
end
section
variable {X:Cx} {fr:Fr} {e k:Expr} {te tk:DTE} {x:Str} {p0 p1 pos pos' dpos:Pos}
def ZT (P:Program) (w:World) (K:PySem.W.Frag) (i:Nat) (tk:DTE):DTT:=fun ρ Q=>tk ρ fun d=>∃ m kvs k,ρ[i]? = some (.obj (yM P w K m kvs))∧d=KD.dt k∧k.md=m∧Q (!(zQ kvs k).isSome)
theorem kA (i:Nat) (hu:X.A.units+9<cLine) (h:DE X k tk) (hN:X.N[i]? = some x:=by rfl) (hv:Vis X.env.scope x:=by first | exact Or.inl rfl | exact Or.inr (Or.inl rfl) | exact Or.inr (Or.inr rfl)) (hd:(x == ("__debug__":Str))=false:=by decide)
  (hcd:(x == ("__classdict__":Str))=false:=by decide) (hm:behindInMarks .NotIn (.Name x p0)=false:=by rfl):DT X (.Compare k [.NotIn] [.Name x p0] pos) (ZT X.prog X.w X.K i tk):=by
 obtain ⟨tt,p,l⟩:=h
 refine ⟨_,nv (cK hu p (zJ hN hv hd hcd)) hm,fun ρ σ W Q r h R kk=>l ρ σ W _ r h _ fun d v W1 s1 i1 ⟨m,kvs,kd,ei,ed,em,q⟩=>?_⟩
 subst ed
 obtain ⟨⟨a,o,e1,e2,e3,e4,e5,e6⟩,_⟩:=(r.mono s1).ob i _ ei
 exact ⟨.ref a,e1,a,_,rfl,e8 e6 e2 em i1,_,rfl,kk _ W1 s1 q⟩
def XU (P:Program) (w:World) (K:PySem.W.Frag) (i:Nat) (tk te:DTE):DTS:=fun D ρ=>∃ m kvs,ρ[i]? = some (.obj (yM P w K m kvs))∧te ρ fun d=>tk ρ fun z=>∃ k,z=KD.dt k∧k.md=m∧zQ kvs k=none∧kvs.length<16777216∧
 D.nx (ρ.set i (.obj (yM P w K m (kvs++[(k,d)]))))
theorem sS (i:Nat) (hu:X.A.units+9<cLine) (hk:DE X k tk) (h:DE X e te) (hN:X.N[i]? = some x:=by rfl) (hv:Vis X.env.scope x:=by first | exact Or.inl rfl | exact Or.inr (Or.inl rfl) | exact Or.inr (Or.inr rfl)) (hd:(x == ("__debug__":Str))=false:=by decide)
  (hcd:(x == ("__classdict__":Str))=false:=by decide) (hs:swapsWith e (some (.Subscript (.Name x p0) k p1)) pos.line X.env=pure false:=by rfl):DSt X fr (.Assign [.Subscript (.Name x p0) k p1] e pos) (XU X.prog X.w X.K i tk te):=by
 obtain ⟨tt,p,l⟩:=h
 obtain ⟨tu,pk,lk⟩:=hk
 refine ⟨_,cx hu (zJ hN hv hd hcd) pk p hs,fun W0 G ρ σ W D D' at_ s h=>?_⟩
 obtain ⟨m,kvs,ei,h⟩:=h
 refine l ρ σ W _ at_.rl h _ fun d v W1 s1 i1 q1=>?_
 have a1:=at_.step s1
 obtain ⟨⟨a,o,e1,e2,e3,e4,e5,e6⟩,_⟩:=a1.rl.ob i _ ei
 refine ⟨.ref a,e1,lk ρ σ W1 _ a1.rl q1 _ fun z u W2 s2 i2 ⟨kd,ez,em,hn,hl,q2⟩=>?_⟩
 subst ez
 have a2:=a1.step s2
 have hg2:W2.g a=none:=s2.n a (by rw [e2]; intro z; cases z) e4
 refine ⟨a,rfl,kL (dictIs.mono s2.g e6) (s2.h _ _ e2) em i2 (i1.mono s2) hn hl fun o' ho'=>?_⟩
 have b:=a2.le
 refine s.nx _ _ (W2.mine a o' hg2) ⟨⟨b.g,fun c o q=>?_,b.n⟩,a2.gs,a2.rl.objPut ei e1 (s2.h _ _ e2) e3 hg2 e5 (wT ho') ho'⟩ q2
 have:c≠a:=fun z=>by rw [z,e5] at q; cases q
 show upd W2.h a o' c=some o
 rw [zl this]; exact b.h _ _ q
theorem pG {W W2:Vw} {p:Addr} {o o':HO} (h0:W.h p=none) (s:Le (W.mine p o (W.sub.free h0)) W2) (hg:W2.g p=none):Le W (W2.mine p o' hg):=by
 have s0:=(z6 h0 o).trans s
 refine ⟨s0.g,fun b u q=>?_,s0.n⟩
 have:b≠p:=fun z=>by rw [z,h0] at q; cases q
 show upd W2.h p o' b=some u
 rw [zl this]; exact s0.h _ _ q
def W8 (P:Program) (w:World) (K:PySem.W.Frag) (i:Nat) (tk te:DTE):DTS:=fun D ρ=>pD (ρ.set i .none)=true∧∃ b:Bool,tk ρ fun z=>te ρ fun d=>∃ k,z=KD.dt k∧k.md=(if b=true then .mi else .mp)∧D.nx (ρ.set i (.obj (yM P w K (if b=true then .mi else .mp) [(k,d)])))
theorem ZG {i:Nat} (hu:X.A.units+9<cLine) (hN:X.N.Nodup) (hi:X.N[i]? = some x) (hx:Loc X.env.scope x) (hk:DE X k tk) (h:DE X e te) (hs:swapsWith (.Dict [some k] [e] dpos) (some (.Name x pos')) pos.line X.env=pure false:=by rfl)
  (hf:X.fn x=true∨X.env.scope.names.lookup x=some .local:=by first | exact .inl rfl | exact .inr rfl | assumption):DSt X fr (.Assign [.Name x pos'] (.Dict [some k] [e] dpos) pos) (W8 X.prog X.w X.K i tk te):=by
 obtain ⟨tt,p,l⟩:=h
 obtain ⟨tu,pk,lk⟩:=hk
 refine ⟨_,vf hN hi hx (cE hu pk p) hs hf,fun W0 G ρ σ W D D' at_ s ⟨h1,b,h⟩ q hq=>?_⟩
 have g0:=W.sub.free hq
 cases b with
 | true=>
  refine .inl (lk ρ σ (W.mine q (.ext (yk X.prog X.w q [])) g0) _ (at_.rl.mono (z6 hq _)) h _ fun z y W1 s1 i1 q1=>l ρ σ W1 _ ((at_.rl.mono (z6 hq _)).mono s1) q1 _ fun d v W2 s2 i2 ⟨kd,ez,em,q2⟩=>?_)
  subst ez
  cases kd with
  | ki n=>
   have s3:=s1.trans s2
   have hp:W2.h q=some (.ext (yk X.prog X.w q [])):=s3.h _ _ zh
   have hg:W2.g q=none:=s3.n q (by show upd _ _ _ q≠none; rw [zh]; intro z; cases z) g0
   refine ⟨n,hp,kf i1,fun r hr=>?_⟩
   have le:=pG (o':=.ext (yk X.prog X.w q [(n,r)])) hq s3 hg
   have hd:dictIs X.prog X.w X.K [(KD.ki n,d)] W2.g q (.ext (yk X.prog X.w q [(n,r)])) .mi:=⟨_,rfl,.cons ⟨rfl,v,hr,i2⟩ .nil⟩
   exact s.nx _ _ (W2.mine q _ hg) ⟨at_.le.trans le,at_.gs.trans le.g,at_.rl.obj le i h1 hq zh (wT hd) hg hd⟩ q2
  | kp _=>cases em
  | kn _ _=>cases em
 | false=>
  refine .inr (lk ρ σ (W.mine q (.ext (zH (tupleKind (intKind X.prog X.w)) q [])) g0) _ (at_.rl.mono (z6 hq _)) h _ fun z y W1 s1 i1 q1=>l ρ σ W1 _ ((at_.rl.mono (z6 hq _)).mono s1) q1 _ fun d v W2 s2 i2 ⟨kd,ez,em,q2⟩=>?_)
  subst ez
  cases kd with
  | kp n=>
   have s3:=s1.trans s2
   have hp:W2.h q=some (.ext (zH (tupleKind (intKind X.prog X.w)) q [])):=s3.h _ _ zh
   have hg:W2.g q=none:=s3.n q (by show upd _ _ _ q≠none; rw [zh]; intro z; cases z) g0
   obtain ⟨b,ey,hb⟩:=tU (i1.mono s2)
   refine ⟨b,n,hp,ey,FK.mono W2.sub hb,fun r hr=>?_⟩
   have le:=pG (o':=.ext (zH (tupleKind (intKind X.prog X.w)) q [(n,b,r)])) hq s3 hg
   have hd:dictIs X.prog X.w X.K [(KD.kp n,d)] W2.g q (.ext (zH (tupleKind (intKind X.prog X.w)) q [(n,b,r)])) .mp:=⟨_,rfl,.cons ⟨rfl,hb,v,hr,i2⟩ .nil⟩
   exact s.nx _ _ (W2.mine q _ hg) ⟨at_.le.trans le,at_.gs.trans le.g,at_.rl.obj le i h1 hq zh (wT hd) hg hd⟩ q2
  | ki _=>cases em
  | kn _ _=>cases em
end
end OD
namespace OD
open PySem PySem.Spec PyProof.Rows L2
def rh (p:Addr):DtP:=⟨fun _ v=>v=.ref p,fun _ h=>h,fun h=>⟨p,h⟩⟩
def o4 (φ:ObP):DtP:=⟨fun g v=>∃ a o,v=.ref a∧g a=some o∧φ.is g a o,fun s ⟨a,o,h1,h2,h3⟩=>⟨a,o,h1,s a o h2,φ.mono (fun a o q=>s a o q) h3⟩,fun ⟨a,_,h,_⟩=>⟨a,h⟩⟩
def vH (K:PySem.W.Frag) (C:Addr) (f1 f2 f3:Str) (d1 d2 d3:Dt):DtP:=
 ⟨fun g v=>∃ a dx x1 x2 x3,v=.ref a∧g a=some (.ins C dx [(f1,x1),(f2,x2),(f3,x3)])∧Is K g d1 x1∧Is K g d2 x2∧Is K g d3 x3,
  fun s ⟨a,dx,x1,x2,x3,h1,h2,h3,h4,h5⟩=>⟨a,dx,x1,x2,x3,h1,s a _ h2,Is.mono0 (fun a o q=>s a o q) h3,Is.mono0 (fun a o q=>s a o q) h4,Is.mono0 (fun a o q=>s a o q) h5⟩,fun ⟨a,_,_,_,_,h,_⟩=>⟨a,h⟩⟩
def nn (K:PySem.W.Frag) (C:Addr) (f1 f2 f3:Str) (S:z5):Sp:=fun vs H Q E=>∃ (W:Vw) (p dx:Addr) (ds:List Dt) (Qd:Dt→Prop) (Ed:Addr→Prop) (vs':List V),vs=.ref p::vs'∧W.h=H∧W.g p=none∧H p=some (.ins C dx [])∧AllIs K W.g ds vs'∧S ds Qd Ed∧
 (∀ (d1 d2 d3:Dt) (x1 x2 x3:V) (W':Vw),Same W.g W'.g→(∀ b o,W.h b=some o→b≠p→W'.h b=some o)→(∀ a,W.h a≠none→W.g a=none→W'.g a=none)→W'.h p=some (.ins C dx [(f1,x1),(f2,x2),(f3,x3)])→Is K W'.g d1 x1→Is K W'.g d2 x2→Is K W'.g d3 x3→Qd (.tup [d1,d2,d3])→Q .non W'.h)∧
 ∀ D H',Same W.h H'→Ed D→E (.ref D) none H'
structure Z4 (P:Program) (w:World) (K:PySem.W.Frag) (mg:Str→Option Value) (base:Heap) (n:Nat) (x:Str) (C:Addr) (f1 f2 f3:Str) (S:z5):Prop where
 ex:∃ g fd ps,mg x=some (.ref C)∧Mk K C g∧Binds K fd ps []∧FnOk P w K mg base (CX1 P w) n g fd ps (nn K C f1 f2 f3 S)
section
variable {X:Cx} {e:Expr} {es:List Expr} {t:DTA} {n:Nat} {x:Str} {p pos:Pos}
def ZW (X:Cx) (C:Addr) (f1 f2 f3:Str) (S:z5) (t:DTA):DTE:=fun ρ Q=>t ρ fun ds=>S ds (fun d=>∃ d1 d2 d3,d=.tup [d1,d2,d3]∧Q (.opq (vH X.K C f1 f2 f3 d1 d2 d3))) (Rz X)
theorem rS {C:Addr} {f1 f2 f3:Str} {S:z5} (G:Z4 X.prog X.w X.K X.mg X.base n x C f1 f2 f3 S) (hr:Room (n+1) X.A) (hg:Gl X x) (ha:DA X (e::es) t) (hdb:(x == ("__debug__":Str))=false:=by decide)
  (he:starEach (e::es) X.env=(false,eval e X.env)::starEach es X.env:=by rfl) (hpl:(backTo pos (starEach es X.env)).any (·.1)=false:=by rfl):DE X (.Call (.Name x p) (e::es) [] pos) (ZW X C f1 f2 f3 S t):=by
 obtain ⟨g,fd,ps,hm,M,hb,F⟩:=G.ex
 obtain ⟨te,p1,l1⟩:=ha
 refine ⟨_,pA M F hr hg hm hb .nil pass_can p1 hdb he hpl,fun ρ σ H Q r h R k=>l1 ρ σ H _ r h _ fun ds vs H1 s1 i1 hS y dy ny ndy ne=>?_⟩
 rw [List.append_nil]
 have gy:H1.g y=none:=H1.sub.free ny
 have keep0:Same H1.h (upd (upd H1.h dy (.own y)) y (.ins C dy [])):=fun b o hb=>by rw [zl (zF hb ny),zl (zF hb ndy)]; exact hb
 refine ⟨⟨H1.g,upd (upd H1.h dy (.own y)) y (.ins C dy []),H1.sub.trans keep0⟩,y,dy,ds,_,_,vs,rfl,rfl,gy,zh,i1,hS,fun d1 d2 d3 x1 x2 x3 W' sg sh sn hp j1 j2 j3 ⟨d1',d2',d3',ed,q⟩=>⟨rfl,?_⟩,fun D H' s' hD=>⟨D,rfl,(hD H' ?_).2⟩⟩
 ·cases ed
  have gy':W'.g y=none:=sn y (by show upd _ _ _ y≠none; rw [zh]; intro z; cases z) gy
  have keep:Same H1.h W'.h:=fun b o hb=>sh b o (keep0 b o hb) (zF hb ny)
  have sgy:Same W'.g (upd W'.g y (.ins C dy [(f1,x1),(f2,x2),(f3,x3)])):=zA gy' _
  refine k (.opq (vH X.K C f1 f2 f3 d1 d2 d3)) (.ref y) (W'.frz y _ hp) (s1.trans ⟨sg.trans sgy,keep,fun a z1 z2=>?_⟩) (is_opq.mpr ⟨y,dy,x1,x2,x3,rfl,zh,Is.mono0 sgy j1,Is.mono0 sgy j2,Is.mono0 sgy j3⟩) q
  have hay:a≠y:=fun e=>z1 (e ▸ ny)
  show upd W'.g y _ a=none
  rw [zl hay]
  exact sn a (fun z=>z1 (keep0.free z)) z2
 ·exact ((ph r).trans s1.h).trans fun b o hb=>s' b o (keep0 b o hb)
def XS (K:PySem.W.Frag) (C:Addr) (f1 f2 f3:Str) (j:Nat) (f:Str) (ta:DTE):DTE:=fun ρ Q=>ta ρ fun d=>∃ d1 d2 d3,d=.opq (vH K C f1 f2 f3 d1 d2 d3)∧Cls K C∧NoAttr K C f∧∃ e,[d1,d2,d3][j]? = some e∧[f1,f2,f3][j]? = some f∧f1≠f2∧f1≠f3∧f2≠f3∧Q e
end
section
variable {X:Cx} {o:Expr} {ta:DTE} {f f1 f2 f3:Str} {pos:Pos} {C:Addr} {j:Nat}
theorem sX (ha:DE X o ta) (hbase:attributeBase o f X.env (eval o X.env)=eval o X.env:=by rfl):DE X (.Attribute o f pos) (XS X.K C f1 f2 f3 j f ta):=by
 obtain ⟨tt,p,l⟩:=ha
 refine ⟨_,nG p hbase,fun ρ σ W Q r h R k=>l ρ σ W _ r h _ fun d v W1 s1 i1 ⟨d1,d2,d3,ed,hc,hn,e,he,hf,n1,n2,n3,q⟩=>?_⟩
 subst ed
 obtain ⟨a,dx,x1,x2,x3,rfl,h1,h2,h3,h4⟩:=is_opq.mp i1
 have h1':=W1.sub _ _ h1
 match j,he,hf with
 | 0,he,hf=>
  cases he
  cases hf
  exact ⟨a,C,dx,_,x1,rfl,h1',hc,hn,by rw [List.lookup_cons_self],k _ _ W1 s1 h2 q⟩
 | 1,he,hf=>
  cases he
  cases hf
  exact ⟨a,C,dx,_,x2,rfl,h1',hc,hn,by simp [List.lookup,beq_eq_false_iff_ne.mpr (Ne.symm n1)],k _ _ W1 s1 h3 q⟩
 | 2,he,hf=>
  cases he
  cases hf
  exact ⟨a,C,dx,_,x3,rfl,h1',hc,hn,by simp [List.lookup,beq_eq_false_iff_ne.mpr (Ne.symm n2),beq_eq_false_iff_ne.mpr (Ne.symm n3)],k _ _ W1 s1 h4 q⟩
end
section
variable {P:Program} {w:World} {K:PySem.W.Frag} {mg:Str→Option Value} {base:Heap}
theorem jA {W:Vw} {N:List Str} {p:Addr} {ds:List Dt} {vs:List V} (ia:AllIs K W.g ds vs):Rl K W.h W.h W (zZ N.length (.opq (rh p)::ds)) (L2.start N (.ref p::vs)):=
 Rl.start (allIs_cons.mpr ⟨_,_,rfl,is_opq.mpr rfl,ia⟩) (Same.refl _)
theorem jt {W:Vw} {d1 d2:Dt} {v:V} (h:Is K W.g (.tup [d1,d2]) v):∃ t x1 x2,v=.ref t∧W.g t=some (.tup [x1,x2])∧Is K W.g d1 x1∧Is K W.g d2 x2:=by
 obtain ⟨t,xs,rfl,h1,h2⟩:=is_tup.mp h
 obtain ⟨x1,x2,rfl,j1,j2⟩:=h2.two
 exact ⟨t,x1,x2,rfl,h1,j1,j2⟩
theorem Xi {qual lf n1 n2 n3 m f1 f2 f3:Str} {st s1 s2 s3:Stmt} {g C:Addr} {fd:FuncData} {k nl:Nat} {S:z5} {Sl:DSp} {q1 q2 q3 q4 q5 q6 r1 r2 r3 r4 r5 r6 u1 u2 u3 u4 u5 u6 u7 u8:Pos} {j0 j1 j2:Nat} (F:Fun K "__init__" qual st g fd) (sc:zi ["self",n1,n2,n3,m] ["self",n1,n2,n3] (defScope st)) (cl:Cls K C) (a1:NoAttr K C f1) (a2:NoAttr K C f2) (a3:NoAttr K C f3)
  (h12:f1≠f2) (h13:f1≠f3) (h23:f2≠f3)
  (len:∀ ds Q R,S ds Q R→ds.length=3) (G:DOk P w K mg base nl lf Sl) (hnl:nl≤k) (v0:Vis (defScope st) "self") (vm:Vis (defScope st) m) (hm1:(m == ("__debug__":Str))=false) (hm2:(m == ("__classdict__":Str))=false) (hlf:(lf == ("__debug__":Str))=false)
  (hgl:∀ (cdv:Value) (A:Around) (outer:List Env) (s:Shared) (H:Hp) (E:XK),Gl (yb (CX1 P w) P w K mg base ["self",n1,n2,n3,m] qual (defScope st) g cdv A outer s H E) lf)
  (hst:defBody st=[s1,s2,s3,.Assign [.Attribute (.Name "self" q1) f1 q2] (.Subscript (.Name m q3) (.Constant (.int 0) j0 q4) q5) q6,.Assign [.Attribute (.Name "self" r1) f2 r2] (.Subscript (.Name m r3) (.Constant (.int 1) j1 r4) r5) r6,
   .Assign [.Attribute (.Name "self" u1) f3 u2] (.Call (.Name lf u3) [.Subscript (.Name m u4) (.Constant (.int 1) j2 u5) u6] [] u7) u8])
  (hbody:∀ (cdv:Value) (A:Around) (outer:List Env) (s:Shared) (H:Hp) (E:XK),Room k (A.deeper (envOfC qual (defScope st) s.heap.objs.size g cdv))→∀ (p:Addr) (ds:List Dt) (Q:Dt→Prop) (R:Addr→Prop),S ds Q R→
   (∀ D,R D→Rz (yb (CX1 P w) P w K mg base ["self",n1,n2,n3,m] qual (defScope st) g cdv A outer s H E) D)→
   ∃ t1 t2 t3,DSt (yb (CX1 P w) P w K mg base ["self",n1,n2,n3,m] qual (defScope st) g cdv A outer s H E) .d s1 t1∧DSt (yb (CX1 P w) P w K mg base ["self",n1,n2,n3,m] qual (defScope st) g cdv A outer s H E) .d s2 t2∧DSt (yb (CX1 P w) P w K mg base ["self",n1,n2,n3,m] qual (defScope st) g cdv A outer s H E) .d s3 t3∧
    dw t1 (dw t2 t3) { nx:=fun ρ=>∃ d1 d2,ρ[0]? = some (.some (.opq (rh p)))∧ρ[4]? = some (.some (.tup [d1,d2]))∧Sl [d2] fun d3=>Q (.tup [d1,d2,d3]),rt:=fun _=>False } (zZ 5 (.opq (rh p)::ds))):
  FnOk P w K mg base (CX1 P w) (k+1) g fd ["self",n1,n2,n3] (nn K C f1 f2 f3 S):=by
 refine Fun.okX F sc (fun vs H Q E h=>?_) (fun cdv A outer s H vs Q E hr h=>?_)
 ·obtain ⟨W,p,dx,ds,Qd,Ed,vs',rfl,_,_,_,ia,hS,_⟩:=h
  rw [List.length_cons,← ia.length,len ds Qd Ed hS]; rfl
 obtain ⟨W,p,dx,ds,Qd,Ed,vs',rfl,rfl,hg,hp,ia,hS,kk,ke⟩:=h
 obtain ⟨t1,t2,t3,⟨v1,p1,l1⟩,⟨v2,p2,l2⟩,⟨v3,p3,l3⟩,ht⟩:=hbody cdv A outer s W.h E hr p ds Qd Ed hS fun D hD=>nq fun H' z=>ke D H' z hD
 rw [qg] at l1 l2 l3
 rw [hst]
 obtain ⟨fl,fdl,pl,hml,hkl,hbl,Fl⟩:=G.ex
 refine ⟨_,zT p1 (zT p2 (zT p3 (zT (wf (zJ (i:=0) rfl v0) (wB ix_tup (zJ (i:=4) rfl vm hm1 hm2) wg (fun _ _=>rfl)) rfl)
  (zT (wf (zJ (i:=0) rfl v0) (wB ix_tup (zJ (i:=4) rfl vm hm1 hm2) wg (fun _ _=>rfl)) rfl)
   (xQ (wf (zJ (i:=0) rfl v0) (sB Fl (hr.mono hnl) (hgl cdv A outer s W.h E) hml hkl hbl .nil rk (zx (wB ix_tup (zJ (i:=4) rfl vm hm1 hm2) wg (fun _ _=>rfl)) zP rfl) hlf rfl rfl) rfl)))))),?_⟩
 refine l1 W W.g _ _ W { nx:=dw t2 t3 _,rt:=fun _=>False } _ ⟨Le.refl W,Same.refl _,jA (N:=["self",n1,n2,n3,m]) ia⟩ ⟨fun ρ σ W1 at1 q=>?_,fun _ _ _ _ _ z=>z.elim,fun _ _ _ _ z=>z.elim,fun _ _ _ _ z=>z.elim⟩ ht
 refine l2 W W.g ρ σ W1 { nx:=t3 _,rt:=fun _=>False } _ at1 ⟨fun ρ σ W2 at2 q=>?_,fun _ _ _ _ _ z=>z.elim,fun _ _ _ _ z=>z.elim,fun _ _ _ _ z=>z.elim⟩ q
 refine l3 W W.g ρ σ W2 { nx:=fun ρ=>∃ d1 d2,ρ[0]? = some (.some (.opq (rh p)))∧ρ[4]? = some (.some (.tup [d1,d2]))∧Sl [d2] fun d3=>Qd (.tup [d1,d2,d3]),rt:=fun _=>False } _ at2 ⟨fun ρ σ W3 at3 q=>?_,fun _ _ _ _ _ z=>z.elim,fun _ _ _ _ z=>z.elim,fun _ _ _ _ z=>z.elim⟩ q
 obtain ⟨d1,d2,e0,e4,hS2⟩:=q
 obtain ⟨v,e0',iv⟩:=at3.rl.at_ 0 _ e0
 obtain rfl:v=.ref p:=is_opq.mp iv
 obtain ⟨v4,e4',i4⟩:=at3.rl.at_ 4 _ e4
 obtain ⟨t,x1,x2,rfl,hT,j1,j2⟩:=jt i4
 have hp3:W3.h p=some (.ins C dx []):=at3.le.h _ _ hp
 have hg3:W3.g p=none:=at3.le.n p (by rw [hp]; intro z; cases z) hg
 have hT3:W3.h t=some (.tup [x1,x2]):=W3.sub _ _ hT
 have ntp:t≠p:=fun z=>by rw [z,hp3] at hT3; cases hT3
 have pf:y9 f2 x2 (y9 f1 x1 [])=[(f1,x1),(f2,x2)]:=by show (if f1=f2 then _ else _)=_; rw [if_neg h12]; rfl
 have pf3:∀ x3,y9 f3 x3 [(f1,x1),(f2,x2)]=[(f1,x1),(f2,x2),(f3,x3)]:=fun x3=>by show (if f1=f3 then _ else _::(if f2=f3 then _ else _))=_; rw [if_neg h13,if_neg h23]; rfl
 refine ⟨.ref t,e4',t,[x1,x2],0,x1,rfl,rfl,.of hT3,rfl,.ref p,e0',p,C,dx,[],rfl,hp3,cl,a1,(by show 0<1000; decide),?_⟩
 refine ⟨.ref t,e4',t,[x1,x2],1,x2,rfl,rfl,.of ((zl ntp).trans hT3),rfl,.ref p,e0',p,C,dx,_,rfl,zh,cl,a2,(by show 1<1000; decide),?_⟩
 rw [pf]
 let W5:Vw:=(W3.mine p (.ins C dx (y9 f1 x1 [])) hg3).mine p (.ins C dx [(f1,x1),(f2,x2)]) hg3
 refine ⟨.ref t,e4',t,[x1,x2],1,x2,rfl,rfl,.of ((zl ntp).trans ((zl ntp).trans hT3)),rfl,W5,[d2],_,rfl,allIs_cons.mpr ⟨x2,[],rfl,j2,allIs_nil.mpr rfl⟩,hS2,fun d3 v3 W6 s6 i6 q6=>?_⟩
 have hp6:W6.h p=some (.ins C dx [(f1,x1),(f2,x2)]):=s6.h _ _ zh
 have hg6:W6.g p=none:=s6.n p (by show upd _ _ _ p≠none; rw [zh]; intro z; cases z) hg3
 refine ⟨.ref p,e0',p,C,dx,_,rfl,hp6,cl,a3,(by show 2<1000; decide),?_⟩
 rw [pf3]
 refine kk d1 d2 d3 x1 x2 v3 (W6.mine p _ hg6) (at3.le.g.trans s6.g) (fun b o hb hne=>?_) (fun a z1 z2=>?_) zh (Is.mono0 s6.g j1) (Is.mono0 s6.g j2) i6 q6
 ·show upd W6.h p _ b=some o
  rw [zl hne]
  exact s6.h _ _ ((zl hne).trans ((zl hne).trans (at3.le.h _ _ hb)))
 ·refine s6.n a (fun z=>?_) (at3.le.n a z1 z2)
  by_cases hap:a=p
  ·subst hap
   have z:upd _ a _ a=none:=z
   rw [zh] at z
   cases z
  ·have z:upd _ p _ a=none:=z
   rw [zl hap] at z
   have z:upd W3.h p _ a=none:=z
   rw [zl hap] at z
   exact z1 (at3.le.h.free z)
end
end OD
namespace OD
open PySem PySem.Spec PyProof.Rows L2
section
variable {X:Cx} {fr:Fr} {pos p0 p1:Pos}
theorem o_:CallR X (.builtin "isinstance") (fun xs H Q=>∃ a C dx fs tp D1 D2 b,xs=[.ref a,.ref tp]∧H a=some (.ins C dx fs)∧x9 X.K C∧H tp=some (.tup [.ref D1,.ref D2])∧PySem.W.kitAny X.K (.ref C) [.ref D1,.ref D2]=some b∧Q (.bl b) H):=by
 intro pins s σ H xs us Q I r h
 obtain ⟨a,C,dx,fs,tp,D1,D2,b,rfl,ha,ok,htp,hk,q⟩:=h
 cases r with
 | cons r1 r2=>
  cases r2 with
  | cons r3 r4=>
   cases r4
   cases (show _=Value.ref a from r1)
   cases (show _=Value.ref tp from r3)
   obtain ⟨_,its,rv,⟨oc,od,odat,osl⟩,h1,h2,n,h3⟩:=(show ObjOk X.prog X.w H s.heap tp (.tup [.ref D1,.ref D2]) from I.hok tp _ htp)
   cases rv with
   | cons g1 rv=>
    cases rv with
    | cons g2 rv=>
     cases rv
     cases g1
     cases g2
     obtain rfl:oc=.type "tuple":=h2
     obtain rfl:odat=.seq _ n:=h3
     obtain ⟨mA,O,_⟩:=wP I.hok ha
     obtain ⟨od',J,_⟩:=O.look
     exact PySem.W.kia_tup (PySem.W.kitx_own (ok.cl.get _) ok.cl.hd ok.ha ok.hn ok.htk ok.hm) I.kIn J h1 hk (fun z=>nomatch z) fun tk=>⟨.bl b,H,I.tok _,rfl,q⟩
def XN (K:PySem.W.Frag) (D1 D2:Addr) (ta:DTE):DTE:=fun ρ Q=>ta ρ fun d=>∃ C f n b1 b2,d=.way C f n∧x9 K C∧PySem.W.kitOne K (.ref C) (.ref D1)=some b1∧PySem.W.kitOne K (.ref C) (.ref D2)=some b2∧Q (.bl (b1 || b2))
theorem dm {a:Expr} {t:DTE} {y z:Str} {py pz pt:Pos} {kt:Nat} {D1 D2:Addr} (hm:X.mg "isinstance"=none) (hm1:X.mg y=some (.ref D1)) (hm2:X.mg z=some (.ref D2)) (ha:DE X a t)
  (hg:Gl X "isinstance":=by rfl) (hg1:Gl X y:=by rfl) (hg2:Gl X z:=by rfl) (hd1:(y == ("__debug__":Str))=false:=by decide) (hd2:(z == ("__debug__":Str))=false:=by decide)
  (hs:starEach [a,.Tuple [.Name y py,.Name z pz] kt pt] X.env=(false,eval a X.env)::starEach [.Tuple [.Name y py,.Name z pz] kt pt] X.env:=by rfl) (hs2:starEach [.Tuple [.Name y py,.Name z pz] kt pt] X.env=(false,eval (.Tuple [.Name y py,.Name z pz] kt pt) X.env)::starEach [] X.env:=by rfl)
  (hs3:starEach [.Name y py,.Name z pz] X.env=(false,eval (.Name y py) X.env)::starEach [.Name z pz] X.env:=by rfl) (hs4:starEach [.Name z pz] X.env=(false,eval (.Name z pz) X.env)::starEach [] X.env:=by rfl)
  (hpl:(backTo pos (starEach [.Tuple [.Name y py,.Name z pz] kt pt] X.env)).any (·.1)=false:=by rfl):
  DE X (.Call (.Name "isinstance" p0) [a,.Tuple [.Name y py,.Name z pz] kt pt] [] pos) (XN X.K D1 D2 t):=by
 obtain ⟨te,p1,l1⟩:=ha
 have c1:PE X (.Name y py) (tC (.ref D1)):=vZ hg1 hm1 rfl hd1
 have c2:PE X (.Name z pz) (tC (.ref D2)):=vZ hg2 hm2 rfl hd2
 refine ⟨_,yj o_ hg hm boot_isinstance (zx p1 (zx (ur (zx c1 (zx c2 zP hs4) hs3)) zP hs2) hs) (by decide) (by decide) hs hpl,fun ρ σ H Q r h R k=>l1 ρ σ H _ r h _ fun d v H1 s1 i1 ⟨C,f,n,b1,b2,ed,ok,e1,e2,q⟩=>?_⟩
 subst ed
 obtain ⟨p,dx,rfl,hp⟩:=is_way.mp i1
 refine ⟨by show 2≤sizeLine; decide,fun tp htp=>⟨p,C,dx,[(f,.int n)],tp,D1,D2,b1 || b2,rfl,?_,ok,zh,?_,?_⟩⟩
 ·have hp':=H1.sub _ _ hp
  rw [zl (zF hp' htp)]
  exact hp'
 ·unfold PySem.W.kitAny PySem.W.kitAny PySem.W.kitAny
  rw [e1,e2]
  cases b1 <;> cases b2 <;> rfl
 ·exact k _ _ (H1.new tp (.tup [.ref D1,.ref D2])) (s1.trans (y4 htp _)) (is_bl.mpr rfl) q
end
section
variable {X:Cx} {fr:Fr} {x:Str} {p0 pos pos' dpos:Pos}
def W9 (P:Program) (w:World) (K:PySem.W.Frag) (i:Nat):DTS:=fun D ρ=>pD (ρ.set i .none)=true∧∃ b:Bool,D.nx (ρ.set i (.obj (yM P w K (if b=true then .mp else .mn) [])))
def Yj (P:Program) (w:World):TE:=fun _ H Q=>(∀ p,H p=none→Q (.ref p) (upd H p (.ext (zH (tupleKind (intKind P w)) p []))))∨∀ p,H p=none→Q (.ref p) (upd H p (.ext (zH (zI P w) p [])))
theorem jI:PE X (.Dict [] [] pos) (Yj X.prog X.w):=fun pins s σ H Q I h=>by
 rcases h with h | h
 ·exact nH (knd:=tupleKind (intKind X.prog X.w)) pins s σ H Q I h
 ·exact nH (knd:=zI X.prog X.w) pins s σ H Q I h
theorem kJ {i:Nat} (hN:X.N.Nodup) (hi:X.N[i]? = some x) (hx:Loc X.env.scope x) (hs:swapsWith (.Dict [] [] dpos) (some (.Name x pos')) pos.line X.env=pure false:=by rfl)
  (hf:X.fn x=true∨X.env.scope.names.lookup x=some .local:=by first | exact .inl rfl | exact .inr rfl | assumption):DSt X fr (.Assign [.Name x pos'] (.Dict [] [] dpos) pos) (W9 X.prog X.w X.K i):=by
 refine ⟨_,vf hN hi hx jI hs hf,fun W0 G ρ σ W D D' at_ s ⟨h1,b,h⟩=>?_⟩
 cases b with
 | true=>
  refine .inl fun q hq=>?_
  have g0:=W.sub.free hq
  have hd:dictIs X.prog X.w X.K [] W.g q (.ext (zH (tupleKind (intKind X.prog X.w)) q [])) .mp:=⟨_,rfl,.nil⟩
  exact s.nx _ _ (W.mine q _ g0) ⟨at_.le.trans (z6 hq _),at_.gs,at_.rl.obj (z6 hq _) i h1 hq zh (wT hd) g0 hd⟩ h
 | false=>
  refine .inr fun q hq=>?_
  have g0:=W.sub.free hq
  have hd:dictIs X.prog X.w X.K [] W.g q (.ext (zH (zI X.prog X.w) q [])) .mn:=⟨_,rfl,.nil⟩
  exact s.nx _ _ (W.mine q _ g0) ⟨at_.le.trans (z6 hq _),at_.gs,at_.rl.obj (z6 hq _) i h1 hq zh (wT hd) g0 hd⟩ h
def Xz (i:Nat):DTS:=fun D ρ=>∃ φ,ρ[i]? = some (.obj φ)∧D.rt (.opq (o4 φ))
theorem eW (i:Nat) (hN:X.N[i]? = some x:=by rfl) (hv:Vis X.env.scope x:=by first | exact Or.inl rfl | exact Or.inr (Or.inl rfl) | exact Or.inr (Or.inr rfl)) (hd:(x == ("__debug__":Str))=false:=by decide)
  (hcd:(x == ("__classdict__":Str))=false:=by decide):DSt X .d (.Return (some (.Name x p0)) pos) (Xz i):=by
 refine ⟨_,uq (zJ hN hv hd hcd),fun W0 G ρ σ W D D' a s h=>?_⟩
 obtain ⟨φ,e,q⟩:=h
 obtain ⟨⟨b,o,e1,e2,e3,e4,e5,e6⟩,_⟩:=a.rl.ob i φ e
 exact ⟨.ref b,e1,s.tl (.opq (o4 φ)) (.ref b) (W.frz b o e2) (xD a.le e5 e2 e4) (is_opq (K:=X.K).mpr ⟨b,o,rfl,zh,φ.mono (zA e4 o) e6⟩) q⟩
end
end OD
namespace OD
open PySem PySem.Spec PyProof.Rows L2
section
variable {X:Cx} {o:Expr} {ta:DTE} {pos apos:Pos} {n:Nat} {m:Str}
def dB (X:Cx) (n:Nat) (m:Str) (ta:DTE):DTE:=fun ρ Q=>ta ρ fun d=>∃ C f1 f2 f3 d1 d2 d3 S,d=.opq (vH X.K C f1 f2 f3 d1 d2 d3)∧((m == f1)=false∧(m == f2)=false∧(m == f3)=false)∧FMOk X.prog X.w X.K X.mg X.base n C m S∧S [d] Q
theorem o7 {pl:Sem Bool} (hr:Room n X.A) (he:DE X o ta)
  (ht:eval (.Call (.Attribute o m apos) [] [] pos) X.env=(do
   let ov ← eval o X.env
   standAt apos.atName
   let (f,first) ← holding [ov] (getMethod ov m pl)
   callWith pos f first (backTo pos (starEach [] X.env)) (backToKw pos (keywordEach [] X.env))):=by rfl):
  DF X (.Call (.Attribute o m apos) [] [] pos) (dB X n m ta):=by
 obtain ⟨te,p0,l0⟩:=he
 refine ⟨_,tP (pl:=pl) p0 hr ht,fun ρ σ H Q r h R k=>l0 ρ σ H _ r h _ fun d v H1 s1 i1 ⟨C,f1,f2,f3,d1,d2,d3,S,ed,⟨n1,n2,n3⟩,M,q1⟩=>?_⟩
 subst ed
 obtain ⟨a,dx,x1,x2,x3,rfl,ha,h2,h3,h4⟩:=is_opq.mp i1
 obtain ⟨g,fd,ps,hm,hb,F⟩:=M.ex
 refine ⟨a,dx,_,C,g,fd,ps,_,rfl,H1.sub _ _ ha,by simp [List.lookup,n1,n2,n3],M.cl,hm,hb,F,?_⟩
 exact ⟨H1,[.opq (vH X.K C f1 f2 f3 d1 d2 d3)],Q,rfl,allIs_cons.mpr ⟨_,_,rfl,i1,allIs_nil.mpr rfl⟩,q1,fun es p xs H2 s2 h0 h1 h2 i2 q2=>k es p xs H2 (s1.trans s2) (s1.h.free h0) h1 h2 i2 q2⟩
end
end OD
namespace L2
open PySem PySem.Spec PyProof.Rows
section
variable {X:Cx} {C f:Addr} {fd:FuncData} {ps:List Str} {sp:Sp} {k:Nat} {e:Expr} {es:List Expr} {x m:Str} {p pos py epos:Pos} {t:TA} {i:Nat}
end
end L2
namespace OD
open PySem PySem.Spec PyProof.Rows L2
section
variable {X:Cx} {fr:Fr} {e:Expr} {es:List Expr} {t:DTA} {te:DTE} {n:Nat} {x m:Str} {i:Nat} {p pos py epos p0 p1 p2:Pos}
def X1 (i:Nat) (te:DTE):DTS:=fun D ρ=>∃ ds,ρ[i]? = some (.own ds)∧te ρ fun d=>ds.length≤16000000∧D.nx (ρ.set i (.own (ds++[d])))
theorem eZ (i:Nat) (h:DE X e te) (hN:X.N[i]? = some x:=by rfl) (hv:Vis X.env.scope x:=by first | exact Or.inl rfl | exact Or.inr (Or.inl rfl) | exact Or.inr (Or.inr rfl)) (hd:(x == ("__debug__":Str))=false:=by decide)
  (hcd:(x == ("__classdict__":Str))=false:=by decide) (hst:starEach [e] X.env=(false,eval e X.env)::starEach [] X.env:=by rfl) (hpl:(backTo p2 (starEach [] X.env)).any (·.1)=false:=by rfl)
  (hfew:((backTo p2 (starEach [e] X.env)).all (fun x=>!x.1) && (backToKw p2 (keywordEach [] X.env)).all (fun x=>x.1.isSome)
   && decide ([e].length+([]:List Keyword).length+(if ([]:List Keyword).isEmpty then 0 else 1)<30))=true:=by rfl)
  (hbase:attributeBase (.Name x p0) "append" X.env (eval (.Name x p0) X.env)=eval (.Name x p0) X.env:=by rfl) (hline:(p1.endLine == p2.line)=true:=by rfl)
  (hs:swapsWith (.Call (.Attribute (.Name x p0) "append" p1) [e] [] p2) none pos.line X.env=pure false:=by rfl):
  DSt X fr (.Expr (.Call (.Attribute (.Name x p0) "append" p1) [e] [] p2) pos) (X1 i te):=by
 obtain ⟨tt,p,l⟩:=h
 refine ⟨_,wz (pB PySem.F.plainAttrs_list PySem.F.slot_list_append PySem.F.type_list_append xR (zJ hN hv hd hcd) (zx p zP hst) hbase hfew hline hst hpl) hs,fun W0 G ρ σ W D D' at_ s h=>?_⟩
 obtain ⟨ds,ei,h⟩:=h
 obtain ⟨b,xs,e1,e2,e3,e4,e5⟩:=at_.rl.ow i ds ei
 refine ⟨.ref b,e1,.inl ⟨rfl,xs,.of e2⟩,l ρ σ W _ at_.rl h _ fun d v W1 s1 i1 ⟨hl,q1⟩=>?_⟩
 have a1:=at_.step s1
 have hg1:W1.g b=none:=s1.n b (by rw [e2]; intro z; cases z) e3
 refine ⟨b,xs,v,rfl,rfl,s1.h _ _ e2,by rw [← e5.length]; exact Nat.lt_of_le_of_lt hl (by decide),?_⟩
 exact s.nx _ _ _ (a1.put ei e1 hg1 e4 ((e5.mono s1).append (allIs_cons.mpr ⟨v,[],rfl,i1,allIs_nil.mpr rfl⟩))) q1
end
end OD
theorem L2.Room.u9 {k:Nat} {A:PySem.Around} (h:L2.Room k A):A.units+9<PySem.cLine:=by have:=h.un; omega
namespace L2
open PySem PySem.Spec PyProof.Rows
def DKn (P:Program) (w:World) (H:Hp) (a:Addr):Prop:=(∃ xs,H a=some (.ext (zH (tupleKind (intKind P w)) a xs)))∨∃ xs,H a=some (.ext (zH (zI P w) a xs))
def DGi (P:Program) (w:World) (H:Hp) (a:Addr) (y:V) (R:Value→Prop):Prop:=
 (∃ xs b l p,H a=some (.ext (zH (tupleKind (intKind P w)) a xs))∧y=.ref b∧FK H l b∧(∀ x∈xs,FK H x.1 x.2.1)∧atKey xs l=some p∧R p.2)∨
 ∃ xs b k p,H a=some (.ext (zH (zI P w) a xs))∧y=.ref b∧NK H k b∧(∀ x∈xs,NK H x.1 x.2.1)∧atKey xs k=some p∧R p.2
section
variable {X:Cx} {o e:Expr} {to:TE} {t:TA} {apos cpos:Pos}
theorem ZH {pins:List (Addr × Obj)} {σ:St} {H:Hp} {s:Shared} {a:Addr} (I:Inv X pins σ H s) (g:DKn X.prog X.w H a):s.TypeIs (.ref a) "dict"∧∀ b,Value.ref a=.ref b→∃ ob,s.heap.get? b=some ob∧ob.dict=none:=by
 rcases g with ⟨xs,e⟩ | ⟨xs,e⟩
 ·obtain ⟨⟨z1,z2,o,es,ep,h1,h2,h3,h4,h5⟩,_,_⟩:=(show ObjOk X.prog X.w H s.heap a (.ext (zH (tupleKind (intKind X.prog X.w)) a xs)) from I.hok a _ e)
  exact ⟨⟨o,h1,h2.1⟩,fun b eb=>by cases eb; exact ⟨o,h1,h2.2.1⟩⟩
 ·obtain ⟨⟨z1,z2,o,es,ep,h1,h2,h3,h4,h5⟩,_,_⟩:=(show ObjOk X.prog X.w H s.heap a (.ext (zH (zI X.prog X.w) a xs)) from I.hok a _ e)
  exact ⟨⟨o,h1,h2.1⟩,fun b eb=>by cases eb; exact ⟨o,h1,h2.2.1⟩⟩
def Wk (P:Program) (w:World) (to:TE) (t:TA):TE:=fun σ H Q=>to σ H fun x H1=>∃ a,x=.ref a∧DKn P w H1 a∧t σ H1 fun vs H2=>∃ y,vs=[y]∧DGt P w H2 a y fun r=>∃ v,RelV v r∧Q v H2
theorem jJ (hu:X.A.units+9<cLine) (ho:PE X o to) (ha:PA X [e] t) (hbase:attributeBase o "get" X.env (eval o X.env)=eval o X.env:=by rfl)
  (hfew:((backTo cpos (starEach [e] X.env)).all (fun x=>!x.1) && (backToKw cpos (keywordEach [] X.env)).all (fun x=>x.1.isSome)
   && decide ([e].length+([]:List Keyword).length+(if ([]:List Keyword).isEmpty then 0 else 1)<30))=true:=by rfl)
  (hline:(apos.endLine == cpos.line)=true:=by rfl) (hs:starEach [e] X.env=(false,eval e X.env)::starEach [] X.env:=by rfl) (hplain:(backTo cpos (starEach [] X.env)).any (·.1)=false:=by rfl):
  PE X (.Call (.Attribute o "get" apos) [e] [] cpos) (Wk X.prog X.w to t):=by
 intro pins s σ H Q I h
 refine wpAny_Call_method_late hbase hfew hline rfl (thn (ho pins s σ H _ I h) fun v s1 ⟨x,H1,I1,r1,a,ex,dk,q1⟩=>?_)
 subst ex
 cases (show v=Value.ref a from r1)
 obtain ⟨h1,h2⟩:=ZH I1 dk
 refine ⟨"dict","dict.get",PySem.F.plainAttrs_dict,PySem.F.slot_dict_get,PySem.F.type_dict_get,h1,h2,?_⟩
 have hA:=ha cpos pins s1 σ H1 _ I1 q1
 rw [hs] at hA ⊢
 refine Calls.callWith_builtin (by show (false || (backTo cpos (starEach [] X.env)).any (·.1))=false; rw [hplain] <;> rfl) (Calls.evalArgs_plain ?_)
 refine thn hA fun us s2 ⟨vs,H2,I2,r2,y,ey,g⟩=>?_
 subst ey
 cases r2 with
 | cons r3 r4=>
  cases r4
  exact ZJ hu I2 g r3 fun w s3 I3 ⟨v,rv,q⟩=>⟨v,H2,I3,rv,q⟩
theorem eE (hu:X.A.units+9<cLine):IxR X (fun x y H Q=>∃ a,x=.ref a∧DGi X.prog X.w H a y fun r=>∃ v,RelV v r∧Q v H):=by
 intro value slice pins s σ H x y v u Q I rx ry h hs
 obtain ⟨a,rfl,g⟩:=h
 cases (show v=Value.ref a from rx)
 rcases g with ⟨xs,c,k,p,e,ey,hk,hx,l,z,rz,q⟩ | ⟨xs,c,k,p,e,ey,hk,hx,l,z,rz,q⟩
 ·subst ey
  cases (show u=Value.ref c from ry)
  obtain ⟨z1,z2,dd⟩:=yf I e fun x q=>(hx x q).is I.hok
  exact subscriptTail_builtinR (x:=p.2) dd.typeIs PySem.F.slot_dict_getitem.lookup (wpAny_getItem_heap (knd:=tupleKind (intKind X.prog X.w)) (show X.A.units+1<cLine by omega) (hk.is I.hok) dd l ⟨rfl,z,H,I.tok _,rz,q⟩) hs
 ·subst ey
  cases (show u=Value.ref c from ry)
  obtain ⟨z1,z2,dd⟩:=yf I e fun x q=>(hx x q).is I.hok
  exact subscriptTail_builtinR (x:=p.2) dd.typeIs PySem.F.slot_dict_getitem.lookup (wpAny_getItem_heap (knd:=zI X.prog X.w) (show X.A.units+1+4<cLine by omega) (hk.is I.hok) dd l ⟨rfl,z,H,I.tok _,rz,q⟩) hs
end
section
variable {X:Cx} {o e:Expr} {es:List Expr} {n:Nat} {m:Str} {pos apos epos:Pos}
def jx (X:Cx) (n:Nat) (m:Str) (te:TE) (tt:TA):TE:=fun σ H Q=>te σ H fun x H1=>∃ a dx fs C f fd ps sp,x=.ref a∧H1 a=some (.ins C dx fs)∧fs.lookup m=none∧Cls X.K C∧s9 X.K C m f∧Binds X.K fd ps []∧FnOk X.prog X.w X.K X.mg X.base (CX1 X.prog X.w) n f fd ps sp∧tt σ H1 fun vs H2=>sp (x::vs) H2 Q (OD.Ecan X)
theorem oy {pl:Sem Bool} {te:TE} {tt:TA} (he:PE X o te) (hr:Room n X.A) (ha:PA X (e::es) tt)
  (hst:starEach (e::es) X.env=(false,eval e X.env)::starEach es X.env:=by rfl) (hpl:(backTo pos (starEach es X.env)).any (·.1)=false:=by rfl)
  (ht:eval (.Call (.Attribute o m apos) (e::es) [] pos) X.env=(do
   let ov ← eval o X.env
   standAt apos.atName
   let (f,first) ← holding [ov] (getMethod ov m pl)
   callWith pos f first (backTo pos (starEach (e::es) X.env)) (backToKw pos (keywordEach [] X.env))):=by rfl):
  PE X (.Call (.Attribute o m apos) (e::es) [] pos) (jx X n m te tt):=by
 intro pins s σ H Q I h
 refine PySem.W.methodCall_KW (pl:=pl) (thn (he pins s σ H _ I h) fun u s1 ⟨x,H1,I1,rx,a,dx,fs,C,f,fd,ps,sp,ex,ea,l,c,hm,hb,F,q⟩=>?_) ht
 subst ex
 obtain rfl:u=Value.ref a:=rx
 refine xo I1 ea c hm l ?_
 refine PySem.W.callWith_K (first:=[.ref a]) (h₀:=X.base) I.ok.mod.kin hm.kp (thn (ha pos pins s1 σ H1 _ I1 q) fun us s2 ⟨vs,H2,I2,r,q2⟩=>⟨I2.kIn,?_⟩) hst hpl
 exact sy (us:=.ref a::us) (vs:=.ref a::vs) (dvs:=[]) (E:=OD.Ecan X) F hr hb .nil OD.pass_can I2 (.cons rfl r) (by rw [List.append_nil]; exact q2)
theorem rj {pl:Sem Bool} {te:TE} {tt:TA} (ho:PE X.nox o te) (hr:Room n X.A) (ha:PA X.nox (e::es) tt)
  (hs:swapsWith (.Call (.Attribute o m apos) (e::es) [] pos) none epos.line X.env=pure false:=by rfl)
  (hst:starEach (e::es) X.env=(false,eval e X.env)::starEach es X.env:=by rfl) (hpl:(backTo pos (starEach es X.env)).any (·.1)=false:=by rfl)
  (ht:eval (.Call (.Attribute o m apos) (e::es) [] pos) X.env=(do
   let ov ← eval o X.env
   standAt apos.atName
   let (f,first) ← holding [ov] (getMethod ov m pl)
   callWith pos f first (backTo pos (starEach (e::es) X.env)) (backToKw pos (keywordEach [] X.env))):=by rfl):
  PB X [.Expr (.Call (.Attribute o m apos) (e::es) [] pos) epos] (fun nx E σ H=>te σ H fun y H1=>∃ a dx fs C f fd ps sp,y=.ref a∧H1 a=some (.ins C dx fs)∧fs.lookup m=none∧Cls X.K C∧s9 X.K C m f∧Binds X.K fd ps []∧FnOk X.prog X.w X.K X.mg X.base (CX1 X.prog X.w) n f fd ps sp∧tt σ H1 fun vs H2=>sp (y::vs) H2 (fun _ H3=>nx σ H3) E):=by
 intro pins s σ H nx E I h
 refine wpAny_execs_cons (wpAny_Expr_any (thn (Zl (pl:=pl) ho hr ha I h hst hpl ht) fun v s1 ⟨y,H1,I1,r1,q1⟩=>?_) I.quiet hs)
 exact wpAny_execs_nil ⟨rfl,σ,H1,I1,q1⟩
end
end L2
namespace OD
open PySem PySem.Spec PyProof.Rows L2
section
variable {P:Program} {w:World} {K:PySem.W.Frag}
theorem jq {g:Hp}:VIs K g .non Value.none:=⟨.non,rfl,is_non.mpr rfl⟩
theorem q9 {g:Hp} {a:Option Dt} {b:Option (Addr × Value)} (h:VOp K g a b):VIs K g (a.getD .non) ((b.map (·.2)).getD .none):=by
 cases a <;> cases b <;> first | exact jq | exact h | exact h.elim
theorem e7 {W:Vw} {m:KM} {kvs:DKV} {a:Addr} {o:HO} (h:dictIs P w K kvs W.g a o m) (ho:W.h a=some o) (hm:m≠.mi):DKn P w W.h a:=by
 cases m with
 | mi=>exact absurd rfl hm
 | mp=>obtain ⟨xs,rfl,_⟩:=h; exact .inl ⟨xs,ho⟩
 | mn=>obtain ⟨xs,rfl,_⟩:=h; exact .inr ⟨xs,ho⟩
theorem kM {W:Vw} {m:KM} {kvs:DKV} {a:Addr} {o:HO} {k:KD} {y:V} {R:Value→Prop} (h:dictIs P w K kvs W.g a o m) (ho:W.h a=some o) (hk:k.md=m) (hm:m≠.mi) (hy:Is K W.g k.dt y) (hR:∀ r,VIs K W.g ((zQ kvs k).getD .non) r→R r):DGt P w W.h a y R:=by
 subst hk
 cases k with
 | ki n=>exact absurd rfl hm
 | kp l=>
  obtain ⟨xs,rfl,r⟩:=h
  obtain ⟨b,rfl,hb⟩:=tU hy
  exact .inl ⟨xs,b,l,ho,rfl,FK.mono W.sub hb,fun q hq=>let ⟨_,z⟩:=zX r q hq; FK.mono W.sub z.2.1,hR _ (q9 (sL r l))⟩
 | kn l t=>
  obtain ⟨xs,rfl,r⟩:=h
  obtain ⟨b,rfl,hb⟩:=pH hy
  exact .inr ⟨xs,b,(l,t),ho,rfl,NK.mono W.sub hb,fun q hq=>let ⟨_,z⟩:=zX r q hq; NK.mono W.sub z.2.1,hR _ (q9 (sM r l t))⟩
theorem s_ {g:Hp} {e:Dt} {b:Option (Addr × Value)} (h:VOp K g (some e) b):∃ p,b=some p∧VIs K g e p.2:=by
 cases b with
 | none=>exact h.elim
 | some p=>exact ⟨p,rfl,h⟩
theorem db {W:Vw} {m:KM} {kvs:DKV} {a:Addr} {o:HO} {k:KD} {e:Dt} {y:V} {R:Value→Prop} (h:dictIs P w K kvs W.g a o m) (ho:W.h a=some o) (hk:k.md=m) (hm:m≠.mi) (hy:Is K W.g k.dt y) (hl:zQ kvs k=some e) (hR:∀ r,VIs K W.g e r→R r):DGi P w W.h a y R:=by
 subst hk
 cases k with
 | ki n=>exact absurd rfl hm
 | kp l=>
  obtain ⟨xs,rfl,r⟩:=h
  obtain ⟨b,rfl,hb⟩:=tU hy
  have z:=sL r l
  rw [hl] at z
  obtain ⟨p,hp,hv⟩:=s_ z
  exact .inl ⟨xs,b,l,p,ho,rfl,FK.mono W.sub hb,fun q hq=>let ⟨_,z⟩:=zX r q hq; FK.mono W.sub z.2.1,hp,hR _ hv⟩
 | kn l t=>
  obtain ⟨xs,rfl,r⟩:=h
  obtain ⟨b,rfl,hb⟩:=pH hy
  have z:=sM r l t
  rw [hl] at z
  obtain ⟨p,hp,hv⟩:=s_ z
  exact .inr ⟨xs,b,(l,t),p,ho,rfl,NK.mono W.sub hb,fun q hq=>let ⟨_,z⟩:=zX r q hq; NK.mono W.sub z.2.1,hp,hR _ hv⟩
end
section
variable {X:Cx} {fr:Fr} {o e b:Expr} {es:List Expr} {to ta tk:DTE} {t:DTA} {n:Nat} {m x y:Str} {apos cpos pos epos p1:Pos} {i j:Nat}
def XV (P:Program) (w:World) (K:PySem.W.Frag) (to:DTE) (t:DTA):DTE:=fun ρ Q=>to ρ fun d=>∃ m kvs,d=.opq (o4 (yM P w K m kvs))∧m≠.mi∧t ρ fun ds=>∃ k,ds=[KD.dt k]∧k.md=m∧Q ((zQ kvs k).getD .non)
theorem dr (hu:X.A.units+9<cLine) (ho:DE X o to) (ha:DA X [e] t) (hbase:attributeBase o "get" X.env (eval o X.env)=eval o X.env:=by rfl)
  (hfew:((backTo cpos (starEach [e] X.env)).all (fun x=>!x.1) && (backToKw cpos (keywordEach [] X.env)).all (fun x=>x.1.isSome)
   && decide ([e].length+([]:List Keyword).length+(if ([]:List Keyword).isEmpty then 0 else 1)<30))=true:=by rfl)
  (hline:(apos.endLine == cpos.line)=true:=by rfl) (hs:starEach [e] X.env=(false,eval e X.env)::starEach [] X.env:=by rfl) (hplain:(backTo cpos (starEach [] X.env)).any (·.1)=false:=by rfl):
  DE X (.Call (.Attribute o "get" apos) [e] [] cpos) (XV X.prog X.w X.K to t):=by
 obtain ⟨tt,p,l⟩:=ho
 obtain ⟨ta,pa,la⟩:=ha
 refine ⟨_,jJ hu p pa hbase hfew hline hs hplain,fun ρ σ W Q r h R k=>l ρ σ W _ r h _ fun d v W1 s1 i1 ⟨m,kvs,ed,hm,q1⟩=>?_⟩
 subst ed
 obtain ⟨a,ob,rfl,hga,hd⟩:=is_opq.mp i1
 refine ⟨a,rfl,e7 hd (W1.sub _ _ hga) hm,la ρ σ W1 _ (r.mono s1) q1 _ fun ds vs W2 s2 i2 ⟨kd,ek,em,q2⟩=>?_⟩
 subst ek
 obtain ⟨y,ys,rfl,iy,i0⟩:=allIs_cons.mp i2
 cases allIs_nil.mp i0
 exact ⟨y,rfl,kM (dictIs.mono s2.g hd) (W2.sub _ _ (s2.g _ _ hga)) em hm iy fun rr ⟨v,rv,iv⟩=>⟨v,rv,k _ v W2 (s1.trans s2) iv q2⟩⟩
def W_ (P:Program) (w:World) (K:PySem.W.Frag) (i:Nat) (tk:DTE):DTE:=fun ρ Q=>∃ m kvs,ρ[i]? = some (.obj (yM P w K m kvs))∧m≠.mi∧tk ρ fun z=>∃ k e,z=KD.dt k∧k.md=m∧zQ kvs k=some e∧Q e
theorem ZM (i:Nat) (hu:X.A.units+9<cLine) (hb:DE X b tk) (hs:xq b) (hN:X.N[i]? = some x:=by rfl) (hv:Vis X.env.scope x:=by first | exact Or.inl rfl | exact Or.inr (Or.inl rfl) | exact Or.inr (Or.inr rfl)) (hd:(x == ("__debug__":Str))=false:=by decide)
  (hcd:(x == ("__classdict__":Str))=false:=by decide):DE X (.Subscript (.Name x p1) b pos) (W_ X.prog X.w X.K i tk):=by
 obtain ⟨tf,p2,l2⟩:=hb
 refine ⟨_,wB (eE hu) (zJ hN hv hd hcd) p2 hs,fun ρ σ W Q r h R k=>?_⟩
 obtain ⟨m,kvs,ei,hm,h⟩:=h
 obtain ⟨⟨a,o,e1,e2,e3,e4,e5,e6⟩,_⟩:=r.ob i _ ei
 refine ⟨.ref a,e1,l2 ρ σ W _ r h _ fun z y W1 s1 i1 ⟨kd,e,ez,em,hl,q⟩=>?_⟩
 subst ez
 exact ⟨a,rfl,db (dictIs.mono s1.g e6) (s1.h _ _ e2) em hm i1 hl fun rr ⟨v,rv,iv⟩=>⟨v,rv,k _ v W1 s1 iv q⟩⟩
structure TMOkX (P:Program) (w:World) (K:PySem.W.Frag) (mg:Str→Option Value) (base:Heap) (n:Nat) (C:Addr) (m:Str) (fr:Fr) (S:z5):Prop where
 cl:Cls K C
 ex:∃ f fd ps,s9 K C m f∧Binds K fd ps []∧FnOk P w K mg base (CX1 P w) n f fd ps (vC K fr S)
theorem TMOkX.mono {P:Program} {w:World} {K:PySem.W.Frag} {mg:Str→Option Value} {base:Heap} {C:Addr} {x:Str} {m n:Nat} {fr:Fr} {S:z5} (h:TMOkX P w K mg base m C x fr S) (hl:m≤n):TMOkX P w K mg base n C x fr S:=
 let ⟨f,fd,ps,a,b,c⟩:=h.ex; ⟨h.cl,f,fd,ps,a,b,c.mono hl⟩
theorem DR.de {t:DTE} (h:DR X fr e t):DE X e t:=by
 obtain ⟨te,p,l⟩:=h
 refine ⟨te,p,fun ρ σ H Q r h R k=>l ρ σ H Q r h R fun d v H1 s1 tl q=>?_⟩
 obtain ⟨W1,e1,le1,i1⟩:=tl.frz s1
 rw [← e1]
 exact k d v W1 le1 i1 q
def dA (X:Cx) (n:Nat) (m:Str) (fr:Fr) (ta:DTE) (t:DTA):DTE:=fun ρ Q=>ta ρ fun d=>∃ C f1 f2 f3 d1 d2 d3 S,d=.opq (vH X.K C f1 f2 f3 d1 d2 d3)∧((m == f1)=false∧(m == f2)=false∧(m == f3)=false)∧TMOkX X.prog X.w X.K X.mg X.base n C m fr S∧t ρ fun ds=>S (d::ds) Q (Rz X)
theorem xW {pl:Sem Bool} (fr:Fr) (hr:Room n X.A) (ho:DE X o ta) (ha:DA X (e::es) t)
  (hst:starEach (e::es) X.env=(false,eval e X.env)::starEach es X.env:=by rfl) (hpl:(backTo pos (starEach es X.env)).any (·.1)=false:=by rfl)
  (ht:eval (.Call (.Attribute o m apos) (e::es) [] pos) X.env=(do
   let ov ← eval o X.env
   standAt apos.atName
   let (f,first) ← holding [ov] (getMethod ov m pl)
   callWith pos f first (backTo pos (starEach (e::es) X.env)) (backToKw pos (keywordEach [] X.env))):=by rfl):
  DR X fr (.Call (.Attribute o m apos) (e::es) [] pos) (dA X n m fr ta t):=by
 obtain ⟨t0,p0,l0⟩:=ho
 obtain ⟨te,p1,l1⟩:=ha
 refine ⟨_,oy (pl:=pl) p0 hr p1 hst hpl ht,fun ρ σ H Q r h R k=>l0 ρ σ H _ r h _ fun d v H1 s1 i1 ⟨C,f1,f2,f3,d1,d2,d3,S,ed,⟨n1,n2,n3⟩,M,q1⟩=>?_⟩
 subst ed
 obtain ⟨a,dx,x1,x2,x3,rfl,ha,h2,h3,h4⟩:=is_opq.mp i1
 obtain ⟨g,fd,ps,hm,hb,F⟩:=M.ex
 refine ⟨a,dx,_,C,g,fd,ps,_,rfl,H1.sub _ _ ha,by simp [List.lookup,n1,n2,n3],M.cl,hm,hb,F,l1 ρ σ H1 _ (r.mono s1) q1 _ fun ds vs H2 s2 i2 q2=>?_⟩
 have s:=s1.trans s2
 exact ⟨H2,_,Q,Rz X,rfl,allIs_cons.mpr ⟨_,_,rfl,i1.mono s2,i2⟩,q2,fun d v H3 s3 t3 q3=>k d v H3 (s.trans s3) (nh (fun _ z=>s.h.free z) t3) q3,fun C H' s' hC=>⟨C,rfl,(hC H' (((ph r).trans s.h).trans s')).2⟩⟩
def kT (X:Cx) (n:Nat) (m:Str) (fr:Fr) (ta:DTE) (t:DTA):DTC:=fun nx E ρ=>ta ρ fun d=>∃ C f1 f2 f3 d1 d2 d3 S,d=.opq (vH X.K C f1 f2 f3 d1 d2 d3)∧((m == f1)=false∧(m == f2)=false∧(m == f3)=false)∧TMOkX X.prog X.w X.K X.mg X.base n C m fr S∧t ρ fun ds=>S (d::ds) (fun _=>nx ρ) E
theorem o8 {pl:Sem Bool} (fr:Fr) (hr:Room n X.A) (ho:DE X.nox o ta) (ha:DA X.nox (e::es) t)
  (hs:swapsWith (.Call (.Attribute o m apos) (e::es) [] pos) none epos.line X.env=pure false:=by rfl)
  (hst:starEach (e::es) X.env=(false,eval e X.env)::starEach es X.env:=by rfl) (hpl:(backTo pos (starEach es X.env)).any (·.1)=false:=by rfl)
  (ht:eval (.Call (.Attribute o m apos) (e::es) [] pos) X.env=(do
   let ov ← eval o X.env
   standAt apos.atName
   let (f,first) ← holding [ov] (getMethod ov m pl)
   callWith pos f first (backTo pos (starEach (e::es) X.env)) (backToKw pos (keywordEach [] X.env))):=by rfl):
  DCB X [.Expr (.Call (.Attribute o m apos) (e::es) [] pos) epos] (kT X n m fr ta t):=by
 obtain ⟨t0,p0,l0⟩:=ho
 obtain ⟨te,p1,l1⟩:=ha
 refine ⟨_,rj (pl:=pl) p0 hr p1 hs hst hpl ht,fun ρ σ W nx E nx' E' r k1 k2 h=>l0 ρ σ W _ r h _ fun d v W1 s1 i1 ⟨C,f1,f2,f3,d1,d2,d3,S,ed,⟨n1,n2,n3⟩,M,q1⟩=>?_⟩
 subst ed
 obtain ⟨a,dx,x1,x2,x3,rfl,ha,h2,h3,h4⟩:=is_opq.mp i1
 obtain ⟨g,fd,ps,hm,hb,F⟩:=M.ex
 refine ⟨a,dx,_,C,g,fd,ps,_,rfl,W1.sub _ _ ha,by simp [List.lookup,n1,n2,n3],M.cl,hm,hb,F,l1 ρ σ W1 _ (r.mono s1) q1 _ fun ds vs W2 s2 i2 q2=>?_⟩
 have s:=s1.trans s2
 exact ⟨W2,_,_,_,rfl,allIs_cons.mpr ⟨_,_,rfl,i1.mono s2,i2⟩,q2,fun d v W3 s3 t3 q3=>k1 _ _ W3 (s.trans s3) (r.mono (s.trans s3)) q3,fun C H' s' q3=>k2 C H' (s.h.trans s') q3⟩
end
section
variable {Z F F':Hp} {K:PySem.W.Frag} {W W' W0:Vw} {G:Hp} {ρ:DS} {σ:L2.St}
theorem rc {α:Type} {l:List α} {x:α} {i:Nat} (h:l[i]? = some x):l.set i x=l:=by
 apply List.ext_getElem?
 intro j
 by_cases hj:i=j
 ·subst hj; rw [List.getElem?_set_self (yq h)]; exact h.symm
 ·rw [List.getElem?_set_ne hj]
theorem Rl.weak (r:Rl K Z F' W ρ σ) (z:Same Z F) (s:Same F F'):Rl K Z F W ρ σ:=by
 refine ⟨r.len,r.at_,fun i ds q=>?_,r.ne,s.trans r.fr,z,fun i a ds q=>?_,fun i φ q=>?_⟩
 ·obtain ⟨a,xs,h1,h2,h3,h4,h5⟩:=r.ow i ds q
  exact ⟨a,xs,h1,h2,h3,s.free h4,h5⟩
 ·obtain ⟨⟨xs,h1,h2,h3,h4,h5⟩,k⟩:=r.ar i a ds q
  exact ⟨⟨xs,h1,h2,h3,s.free h4,h5⟩,k⟩
 ·obtain ⟨⟨a,o,h1,h2,h3,h4,h5,h6⟩,k⟩:=r.ob i φ q
  exact ⟨⟨a,o,h1,h2,h3,h4,s.free h5,h6⟩,k⟩
theorem Rl.more {p:Addr} {xs:List V} (r:Rl K Z F W ρ σ) (hF:F p=none) (hp:W.h p=some (.lst xs)) (n1:∀ (j:Nat) (es:List Dt),ρ[j]? = some (Sl.own es)→σ[j]?≠some (some (V.ref p))) (n2:∀ (j:Nat) (a:Addr) (es:List Dt),ρ[j]? = some (Sl.arg a es)→a≠p):Rl K Z (upd F p (.lst xs)) W ρ σ:=by
 have sF:Same F (upd F p (.lst xs)):=zA hF _
 refine ⟨r.len,r.at_,fun i ds q=>?_,r.ne,fun b o q=>?_,r.z.trans sF,fun i a ds q=>?_,fun i φ q=>?_⟩
 ·obtain ⟨a,ys,h1,h2,h3,h4,h5⟩:=r.ow i ds q
  have hap:a≠p:=fun e=>n1 i ds q (by rw [h1,e])
  exact ⟨a,ys,h1,h2,h3,(zl hap).trans h4,h5⟩
 ·by_cases e:b=p
  ·subst e; rw [zh] at q; rw [hp]; exact q
  ·rw [zl e] at q; exact r.fr _ _ q
 ·obtain ⟨⟨ys,h1,h2,h3,h4,h5⟩,k⟩:=r.ar i a ds q
  exact ⟨⟨ys,h1,h2,h3,(zl (n2 i a ds q)).trans h4,h5⟩,k⟩
 ·obtain ⟨⟨a,o,h1,h2,h3,h4,h5,h6⟩,k⟩:=r.ob i φ q
  have hap:a≠p:=fun e=>by rw [e,hp] at h2; exact h3 xs (Option.some.inj h2).symm
  exact ⟨⟨a,o,h1,h2,h3,h4,(zl hap).trans h5,h6⟩,k⟩
end
section
variable {X:Cx} {fr:Fr} {st:Stmt} {zW:List Stmt} {t:DTS} {ug:DTG} {i j:Nat} {x y:Str} {pos pos' p0 p1 p2 p3 p4 p5 p6 pt:Pos}
def Xy (i:Nat) (t:DTS) (u:DTG):DTG:=fun es d D ρ=>∃ P:DS→Prop,(∀ q,t { D with nx:=fun ρ'=>ρ'[i]? = some (.some (.opq (rh q)))∧P (ρ'.set i .none) } (ρ.set i (.some (.opq (rh q)))))∧∀ ρ',P ρ'→u es d D ρ'
theorem kC (h1:DSt X fr st t) (h2:qf X fr i zW ug):qf X fr i (st::zW) (Xy i t ug):=by
 obtain ⟨ts,p1,l1⟩:=h1
 obtain ⟨us,p2,l2⟩:=h2
 refine ⟨_,zT p1 p2,fun W0 G ρ σ W D D' es d ta s ⟨Pj,h,hj⟩=>?_⟩
 obtain ⟨p,q,v,a,g1,g2,g3⟩:=ta.ex
 have len:ρ.length=σ.length:=by have:=a.rl.len; rw [List.length_append,List.length_append] at this; exact Nat.succ.inj this
 obtain ⟨b,xs,e1,e2,e3,e4,e5⟩:=a.rl.ow ρ.length es (zO rfl)
 rw [zO len] at e1
 cases e1
 have le1:Le W0 (W0.mine p (.lst xs) (W0.sub.free e4)):=z6 e4 _
 have le2:Le (W0.mine p (.lst xs) (W0.sub.free e4)) W:=by
  refine ⟨a.le.g,fun b o z=>?_,fun b z1 z2=>?_⟩
  ·by_cases e:b=p
   ·subst e
    have z:upd W0.h b (.lst xs) b=some o:=z
    rw [zh] at z; rw [e2]; exact z
   ·have z:upd W0.h p (.lst xs) b=some o:=z
    rw [zl e] at z; exact a.le.h _ _ z
  ·by_cases e:b=p
   ·subst e; exact e3
   ·have z1:upd W0.h p (.lst xs) b≠none:=z1
    rw [zl e] at z1; exact a.le.n b z1 z2
 have r0:=a.rl.snocOff
 have n1:∀ (k:Nat) (fs:List Dt),ρ[k]? = some (Sl.own fs)→σ[k]?≠some (some (V.ref p)):=fun k fs z z'=>by
  have hk:=yq z
  have:=a.rl.ne k ρ.length fs es (Nat.ne_of_lt hk) (yd z) (zO rfl)
  rw [wu (by rw [← len]; exact hk),z',zO len] at this
  exact this rfl
 have n2:∀ (k:Nat) (c:Addr) (fs:List Dt),ρ[k]? = some (Sl.arg c fs)→c≠p:=fun k c fs z e=>by
  obtain ⟨_,k1,_⟩:=a.rl.ar k c fs (yd z)
  exact k1 ρ.length es (zO rfl) (by rw [zO len,e])
 have r1:=(r0.more e4 e2 n1 n2).set (d:=.opq (rh q)) (v:=.ref q) i (is_opq.mpr rfl)
 rw [rc g1] at r1
 refine l1 (W0.mine p (.lst xs) (W0.sub.free e4)) W.g _ σ W { D with nx:=fun ρ'=>ρ'[i]? = some (.some (.opq (rh q)))∧Pj (ρ'.set i .none) } { D' with nx:=us D' } ⟨le2,Same.refl _,r1⟩ ⟨fun ρ2 σ2 W2 at2 ⟨hi2,q2⟩=>?_,fun d v W2 le tl qq=>s.tl d v W2 (le1.trans le) (nh (fun b z=>le1.h.free z) tl) qq,fun ρ2 σ2 W2 at2 qq=>s.bk ρ2 σ2 W2 ⟨le1.trans at2.le,a.gs.trans at2.gs,at2.rl.weak r0.z le1.h⟩ qq,fun ρ2 σ2 W2 at2 qq=>s.ct ρ2 σ2 W2 ⟨le1.trans at2.le,a.gs.trans at2.gs,at2.rl.weak r0.z le1.h⟩ qq⟩ (h q)
 obtain ⟨v2,k1,k2⟩:=at2.rl.at_ i _ hi2
 obtain rfl:v2=.ref q:=is_opq.mp k2
 have hp2:W2.h p=some (.lst xs):=at2.le.h _ _ zh
 have hg2:W2.g p=none:=at2.le.n p (by show upd _ _ _ p≠none; rw [zh]; intro z; cases z) (W0.sub.free e4)
 refine l2 W0 G _ σ2 W2 D D' es d ⟨p,q,v,⟨le1.trans at2.le,a.gs.trans at2.gs,?_⟩,k1,at2.gs _ _ g2,Is.mono0 at2.gs g3⟩ s (hj _ q2)
 have w1:=(at2.rl.hide i (some (V.ref q)))
 rw [rc k1] at w1
 have w2:=(w1.weak r0.z le1.h).push
 have len2:(ρ2.set i Sl.none).length=σ2.length:=by rw [List.length_set]; exact at2.rl.len
 have back:∀ k y,(ρ2.set i Sl.none++[Sl.none])[k]? = some y→y≠Sl.none→ρ2[k]? = some y∧(σ2++[none])[k]? = σ2[k]?:=fun k y z hy=>by
  rcases uj z with z | ⟨_,z⟩
  ·rcases zj z with ⟨_,_,z⟩ | ⟨hik,z⟩
   ·exact absurd z.symm hy
   ·exact ⟨z,wu (by rw [← at2.rl.len]; exact yq z)⟩
  ·exact absurd z.symm hy
 have w3:=w2.ownN (p:=p) (xs:=xs) (ds:=es) (ρ2.set i Sl.none).length (fun k fs z z'=>?_) (fun k c fs z z'=>?_) e4 hp2 hg2 (AllIs.mono0 at2.gs e5)
 ·rw [y8 rfl,y8 len2] at w3
  exact w3
 ·obtain ⟨z1,z2⟩:=back k _ z (fun z=>nomatch z)
  obtain ⟨c,ys,m1,m2,m3,m4,_⟩:=at2.rl.ow k fs z1
  rw [z2,m1] at z'
  cases z'
  have m4:upd W0.h p (.lst xs) p=none:=m4
  rw [zh] at m4
  cases m4
 ·obtain ⟨z1,_⟩:=back k _ z (fun z=>nomatch z)
  obtain ⟨⟨ys,_,m2,m3,m4,_⟩,_,_⟩:=at2.rl.ar k c fs z1
  subst z'
  have m4:upd W0.h c (.lst xs) c=none:=m4
  rw [zh] at m4
  cases m4
def ZX (j:Nat) (u:DTG):DTG:=fun es d D ρ=>(∃ s,ρ[j]? = some s)∧u es d D (ρ.set j (.some (.tup [.lst es,d])))
theorem kD {jj kk kt:Nat} {cp:Pos} (hij:i≠j) (hN:X.N.Nodup) (hi:X.N[i]? = some x) (hj:X.N[j]? = some y) (hx:Loc X.env.scope y) (hv:Vis X.env.scope x) (hg:Gl X "list") (hm:X.mg "list"=none) (h2:qf X fr i zW ug)
  (hd:(x == ("__debug__":Str))=false:=by decide) (hcd:(x == ("__classdict__":Str))=false:=by decide)
  (h0:xq (.Constant (.int 0) jj p2):=by exact fun _ _=>rfl) (h1:xq (.Constant (.int 1) kk p5):=by exact fun _ _=>rfl)
  (hs1:starEach [.Subscript (.Name x p1) (.Constant (.int 0) jj p2) p3] X.env=(false,eval (.Subscript (.Name x p1) (.Constant (.int 0) jj p2) p3) X.env)::starEach [] X.env:=by rfl) (hpl:(backTo cp (starEach [] X.env)).any (·.1)=false:=by rfl)
  (hs2:starEach [.Call (.Name "list" p0) [.Subscript (.Name x p1) (.Constant (.int 0) jj p2) p3] [] cp,.Subscript (.Name x p4) (.Constant (.int 1) kk p5) p6] X.env=(false,eval (.Call (.Name "list" p0) [.Subscript (.Name x p1) (.Constant (.int 0) jj p2) p3] [] cp) X.env)::starEach [.Subscript (.Name x p4) (.Constant (.int 1) kk p5) p6] X.env:=by rfl)
  (hs3:starEach [.Subscript (.Name x p4) (.Constant (.int 1) kk p5) p6] X.env=(false,eval (.Subscript (.Name x p4) (.Constant (.int 1) kk p5) p6) X.env)::starEach [] X.env:=by rfl)
  (hs:swapsWith (.Tuple [.Call (.Name "list" p0) [.Subscript (.Name x p1) (.Constant (.int 0) jj p2) p3] [] cp,.Subscript (.Name x p4) (.Constant (.int 1) kk p5) p6] kt pt) (some (.Name y pos')) pos.line X.env=pure false:=by rfl)
  (hf:X.fn y=true∨X.env.scope.names.lookup y=some .local:=by first | exact .inl rfl | exact .inr rfl | assumption):
  qf X fr i (.Assign [.Name y pos'] (.Tuple [.Call (.Name "list" p0) [.Subscript (.Name x p1) (.Constant (.int 0) jj p2) p3] [] cp,.Subscript (.Name x p4) (.Constant (.int 1) kk p5) p6] kt pt) pos::zW) (ZX j ug):=by
 obtain ⟨us,p2,l2⟩:=h2
 refine ⟨_,zT (vf hN hj hx (ur (zx (tQ wV hg hm PyProof.Rows.boot_list (zx (wB ix_tup (zJ hi hv hd hcd) wg h0) zP hs1) (by decide) (by decide) hs1 hpl) (zx (wB ix_tup (zJ hi hv hd hcd) wg h1) zP hs3) hs2)) hs hf) p2,fun W0 G ρ σ W D D' es d ta s ⟨⟨sj,hsj⟩,h⟩=>?_⟩
 obtain ⟨p,q,v,a,g1,g2,g3⟩:=ta.ex
 have len:ρ.length=σ.length:=by have:=a.rl.len; rw [List.length_append,List.length_append] at this; exact Nat.succ.inj this
 obtain ⟨b,xs,e1,e2,e3,e4,e5⟩:=a.rl.ow ρ.length es (zO rfl)
 rw [zO len] at e1
 cases e1
 have hq:=W.sub _ _ g2
 refine ⟨.ref q,g1,q,_,0,.ref p,rfl,rfl,.of hq,rfl,p,xs,rfl,.inl (.of e2),fun r hr=>?_⟩
 have le1:=z6 hr (.lst xs)
 have h3:(W.mine r (.lst xs) (W.sub.free hr)).h r=some (.lst xs):=zh
 have le2:Le W ((W.mine r (.lst xs) (W.sub.free hr)).frz r _ h3):=xD le1 hr h3 (W.sub.free hr)
 refine ⟨.ref q,g1,q,_,1,v,rfl,rfl,.of (le2.h _ _ hq),rfl,by show 2≤sizeLine; decide,fun tt htt=>?_⟩
 have le3:=le2.trans (y4 (W:=(W.mine r (.lst xs) (W.sub.free hr)).frz r _ h3) (p:=tt) htt (.tup [.ref r,v]))
 have i1:Is X.K (((W.mine r (.lst xs) (W.sub.free hr)).frz r _ h3).new tt (.tup [.ref r,v])).g (.tup [.lst es,d]) (.ref tt):=by
  have sg:Same ((W.mine r (.lst xs) (W.sub.free hr)).frz r _ h3).g (((W.mine r (.lst xs) (W.sub.free hr)).frz r _ h3).new tt (.tup [.ref r,v])).g:=(y4 (W:=(W.mine r (.lst xs) (W.sub.free hr)).frz r _ h3) (p:=tt) htt (.tup [.ref r,v])).g
  refine is_tup.mpr ⟨tt,_,rfl,zh,allIs_cons.mpr ⟨_,_,rfl,is_lst.mpr ⟨r,xs,rfl,sg _ _ zh,AllIs.mono0 le3.g e5⟩,allIs_cons.mpr ⟨v,_,rfl,Is.mono0 le3.g g3,allIs_nil.mpr rfl⟩⟩⟩
 have a3:=(a.step le3).set j i1
 rw [List.set_append_left _ _ (yq hsj),List.set_append_left _ _ (by rw [← len]; exact yq hsj)] at a3
 exact l2 W0 G _ _ (((W.mine r (.lst xs) (W.sub.free hr)).frz r _ h3).new tt (.tup [.ref r,v])) D D' es d ⟨p,q,v,a3,by rw [List.getElem?_set_ne (fun z=>hij z.symm)]; exact g1,le3.g _ _ g2,Is.mono0 le3.g g3⟩ s h
end
end OD
namespace My
open PySem L2 OD
local macro_rules | `(tactic| walk_at "sc") => `(tactic| exact ⟨rfl, rfl, rfl, by decide +kernel, rfl, by decide +kernel, by decide +kernel⟩)
local macro_rules | `(tactic| walk_at "ln") => `(tactic| (intros; rename_i h; repeat (first | (obtain ⟨e, _⟩ := h; subst e; rfl) | obtain ⟨_, h⟩ := h)))
local macro_rules | `(tactic| walk_at "rd1") => `(tactic| first | refine ⟨_, rfl, ?_⟩ | refine ⟨_, _, rfl, rfl, ?_⟩ | refine ⟨_, _, _, _, rfl, rfl, rfl, ?_⟩ | refine ⟨_, _, _, rfl, rfl, rfl, ?_⟩ | refine WI ?_ | refine WJ ?_ | refine ⟨rfl, rfl, ?_⟩ | refine ⟨rfl, ?_⟩ | refine ⟨kZ (by decide), ?_⟩ | refine ⟨kY (by decide), ?_⟩ | refine ⟨X4 (by decide), ?_⟩ | refine ⟨Xe (by decide), ?_⟩ | refine ⟨lU (by decide), ?_⟩ | refine ⟨_, _, rfl, ?_⟩)
local macro_rules | `(tactic| walk_at "rd") => `(tactic| repeat (walk_at "rd1"))
theorem ifT {b:Bool} {A B:Prop} (e:b=true) (h:A):if b=true then A else B:=by rw [if_pos e]; exact h
theorem ifF {b:Bool} {A B:Prop} (e:b=false) (h:B):if b=true then A else B:=by rw [if_neg (by rw [e]; exact Bool.false_ne_true)]; exact h
theorem ifB {b:Bool} {A B:Prop} (h1:b=true→A) (h2:b=false→B):if b=true then A else B:=by
 cases b with
 | true=>exact ifT rfl (h1 rfl)
 | false=>exact ifF rfl (h2 rfl)
theorem eqI {a b:Int} (h:a=b):eqD (.int a) (.int b)=true:=by rw [sQ]; exact beq_iff_eq.mpr h
theorem nT {b:Bool} (h:b=true):(!b)=false:=by rw [h]; rfl
theorem YE {b:Bool} (h:(!b)=true):b=false:=by cases b <;> first | rfl | cases h
theorem YF {b:Bool} (h:(!b)=false):b=true:=by cases b <;> first | rfl | cases h
def yO (ns:List Int):Dt:=.lst (ns.map Dt.int)
def jn:DSp:=fun ds Q=>∃ ns k,ds=[.scr ns,.int k]∧0≤k∧∀ z:Int,Q (.int z)
def p9:DSp:=fun ds Q=>∃ ns:List Int,ds=[.scr ns]∧ns.length≤63∧Q (.bl true)
theorem dF {xs:List Int} {k:Int} (h0:0≤k) (h:k<xs.length):atI (xs.map Dt.int) k=some (.int (xs.getD k.toNat 0)):=by
 have e:((k.toNat:Nat):Int)=k:=Int.toNat_of_nonneg h0
 have hl:k.toNat<xs.length:=by omega
 have:=uf (j:=k.toNat) (xs:=xs.map Dt.int) (v:=.int (xs.getD k.toNat 0)) (by
  rw [List.getElem?_map,List.getElem?_eq_getElem hl,List.getD_eq_getElem?_getD,List.getElem?_eq_getElem hl]
  rfl)
 rwa [e] at this
theorem ja {ns:List Int} {n:Nat}:(ns.map Dt.int).all (okE n)=true:=by
 rw [List.all_eq_true]
 intro x hx
 obtain ⟨z,_,e⟩:=List.mem_map.mp hx
 subst e
 cases n <;> rfl
theorem jP (ns:List Int):okE 40 (yO ns)=true:=ja (n:=39)
theorem nM (ns:List Int):okE 39 (yO ns)=true:=ja (n:=38)
theorem X3 (xs:List Dt) (lo hi:Option Int):(rZ xs lo hi).length≤xs.length:=by
 unfold rZ
 rw [List.length_take,List.length_drop]
 omega
inductive Kd where | plain | below | balanced | growing | falling | pairs
def Kd.num:Kd→Int
 | .plain=>0 | .below=>1 | .balanced=>2 | .growing=>3 | .falling=>4 | .pairs=>5
def Kd.fld:Kd→Str
 | .plain=>"base" | .below=>"base" | .balanced=>"half" | .growing=>"first" | .falling=>"most" | .pairs=>"most"
def Kd.lo:Kd→Int
 | .plain=>2 | .below=>2 | .balanced=>1 | .growing=>2 | .falling=>1 | .pairs=>1
def Kd.hi:Kd→Int
 | .plain=>60 | .below=>60 | .balanced=>30 | .growing=>60 | .falling=>9 | .pairs=>9
def Kd.ok (k:Kd) (n:Int):Prop:=k.lo≤n∧n≤k.hi
def whole:Dt→Option Bool
 | .int _=>some true
 | .bl _=>some false
 | .tup _=>some false
 | .lst _=>some false
 | _=>none
def wX:DSp:=fun ds Q=>∃ d b,ds=[d]∧whole d=some b∧Q (.bl b)
def xb:DSp:=fun ds Q=>∃ n lo hi,ds=[.int n,.int lo,.int hi]∧lo≤n∧n≤hi∧Q (.int n)
inductive Nm where | i (n:Int) | p (a b:Int)
deriving DecidableEq
def Nm.dt:Nm→Dt
 | .i n=>.int n
 | .p a b=>.tup [.int a,.int b]
def Nm.re:Nm→Int
 | .i n=>n
 | .p a _=>a
def Nm.im:Nm→Int
 | .i _=>0
 | .p _ b=>b
def Nm.mul:Nm→Nm→Nm
 | .i a,.i b=>.i (a*b)
 | m,n=>.p (m.re*n.re - m.im*n.im) (m.re*n.im+m.im*n.re)
def Nm.mulOk (m n:Nm):Prop:=IntMulOk m.re n.re∧IntMulOk m.im n.im∧IntMulOk m.re n.im∧IntMulOk m.im n.re
def sH:Dt→Option Nm
 | .int a=>some (.i a)
 | .tup [.int a,.int b]=>some (.p a b)
 | _=>none
def xX:DSp:=fun ds Q=>∃ d m,ds=[d]∧sH d=some m∧Q (.tup [.int m.re,.int m.im])
def jg:DSp:=fun ds Q=>∃ d e m n,ds=[d,e]∧sH d=some m∧sH e=some n∧m.mulOk n∧Q (m.mul n).dt
theorem wF {d:Dt} {m:Nm} (h:sH d=some m):d=m.dt:=by
 unfold sH at h
 split at h
 ·cases h; rfl
 ·cases h; rfl
 ·cases h
theorem pC (m:Nm):sH m.dt=some m:=by cases m <;> rfl
theorem rY (xs:List Dt) (lo hi:Option Int):(rZ xs lo hi).length≤xs.length:=by
 unfold rZ
 rw [List.length_take,List.length_drop]
 omega
theorem small {n:Int} (h0:-1000000≤n) (h1:n≤1000000) (c:Int):IntMulOk c n:=Xe (by rw [decide_eq_true_iff]; omega)
theorem ql {n:Int} (h0:-1000000≤n) (h1:n≤1000000) (c:Int):IntMulOk n c:=lU (by rw [decide_eq_true_iff]; omega)
def Kd.four:Kd→Bool
 | .plain=>true | .below=>true | .balanced=>true | .growing=>true | _=>false
def Kd.five:Kd→Bool
 | .falling=>false | _=>true
def Kd.low:Kd→Int→Int→Int
 | .balanced,n,_=>-n
 | _,_,_=>0
def Kd.high:Kd→Int→Int→Int
 | .plain,n,_=>n - 1
 | .below,n,_=>n - 1
 | .balanced,n,_=>n
 | .growing,n,p=>n+p - 1
 | .falling,n,_=>n
 | .pairs,n,_=>n*n
def Kd.rat:Kd→Int→Int→Int
 | .plain,n,_=>n
 | .below,n,_=>-n
 | .balanced,n,_=>2*n+1
 | .growing,n,p=>n+p
 | _,_,_=>0
def Kd.ratN:Kd→Int→Int→Nm
 | .pairs,n,_=>.p (-n) 1
 | k,n,p=>.i (k.rat n p)
def Nm.add:Nm→Nm→Nm
 | .i a,.i b=>.i (a+b)
 | m,n=>.p (m.re+n.re) (m.im+n.im)
def oe:DSp:=fun ds Q=>∃ d e m n,ds=[d,e]∧sH d=some m∧sH e=some n∧Q (m.add n).dt
def Kd.zero:Kd→Nm
 | .pairs=>.p 0 0
 | _=>.i 0
theorem tR {k:Kd} {n:Int} (h:k.ok n):1≤n∧n≤60:=by
 obtain ⟨h1,h2⟩:=h
 cases k <;> simp only [Kd.lo,Kd.hi] at * <;> omega
def sF (k:Kd) (n:Int) (j:Nat) (t:Nm):Int:=match k with
 | .pairs=>(t.re+n*t.im).fmod (n*n+1)
 | k=>k.low n j+(t.re - k.low n j).fmod (k.high n j - k.low n j+1)
def sC (k:Kd) (n:Int) (j:Nat) (t:Nm):Nm:=match k with
 | .pairs=>.p (((t.re - sF .pairs n j t)*(-n) - t.im*(-1)).fdiv (n*n+1)) (((t.re - sF .pairs n j t)*(-1)+t.im*(-n)).fdiv (n*n+1))
 | k=>.i ((t.re - sF k n j t).fdiv (k.rat n j))
def Nm.ty (k:Kd) (m:Nm):Prop:=match k with
 | .pairs=>∃ a b,m=.p a b
 | _=>∃ a,m=.i a
def tot (k:Kd) (m:Nm):Prop:=k≠.pairs→∃ a,m=.i a
theorem wo (m n:Nm):(m.add n).re=m.re + n.re:=by cases m <;> cases n <;> simp [Nm.add,Nm.re]
theorem wq (m n:Nm):(m.add n).im=m.im + n.im:=by cases m <;> cases n <;> simp [Nm.add,Nm.im]
theorem wG (r w:Nm):(r.mul w).re=r.re * w.re - r.im * w.im:=by cases r <;> cases w <;> simp [Nm.mul,Nm.re,Nm.im]
theorem wH (r w:Nm):(r.mul w).im=r.re * w.im + r.im * w.re:=by cases r <;> cases w <;> simp [Nm.mul,Nm.re,Nm.im]
theorem ss {k:Kd} {m:Nm} (h:k≠.pairs) (t:m.ty k):∃ a,m=.i a:=by
 cases k <;> first | exact t | exact absurd rfl h
theorem jr {k:Kd} {a:Int} (h:k≠.pairs):(Nm.i a).ty k:=by
 cases k <;> first | exact ⟨_,rfl⟩ | exact absurd rfl h
theorem yu (k:Kd):(k.zero).ty k:=by cases k <;> first | exact ⟨_,rfl⟩ | exact ⟨_,_,rfl⟩
theorem q0 (k:Kd):(k.zero).re=0:=by cases k <;> rfl
theorem q8 (k:Kd):(k.zero).im=0:=by cases k <;> rfl
theorem sI {k:Kd} {m m':Nm} (t:m.ty k) (t':m'.ty k) (h1:m.re=m'.re) (h2:m.im=m'.im):m=m':=by
 by_cases hk:k=.pairs
 ·subst hk
  obtain ⟨a,b,rfl⟩:=t
  obtain ⟨a',b',rfl⟩:=t'
  simp only [Nm.re,Nm.im] at h1 h2
  rw [h1,h2]
 ·obtain ⟨a,rfl⟩:=ss hk t
  obtain ⟨a',rfl⟩:=ss hk t'
  simp only [Nm.re] at h1
  rw [h1]
theorem rg (k:Kd) (n:Int) (j:Nat) (t:Nm):(sC k n j t).ty k:=by
 cases k <;> first | exact ⟨_,rfl⟩ | exact ⟨_,_,rfl⟩
theorem xp {k:Kd} {c t:Nm} (h:c.ty k) (h':tot k t):(c.add t).ty k:=by
 by_cases hk:k=.pairs
 ·subst hk
  obtain ⟨a,b,rfl⟩:=h
  cases t <;> exact ⟨_,_,rfl⟩
 ·obtain ⟨a,rfl⟩:=ss hk h
  obtain ⟨b,rfl⟩:=h' hk
  exact jr hk
theorem ol {lo t n:Int} (hn:0<n):lo≤lo+(t - lo).fmod n∧lo+(t - lo).fmod n≤lo+n - 1∧(lo+(t - lo).fmod n)+((t - (lo+(t - lo).fmod n)).fdiv n)*n=t:=by
 have h0:=Int.fmod_nonneg_of_pos (t - lo) hn
 have h1:=Int.fmod_lt_of_pos (t - lo) hn
 have e:t - (lo+(t - lo).fmod n)=n*(t - lo).fdiv n:=by
  have:=Int.fmod_def (t - lo) n
  omega
 refine ⟨by omega,by omega,?_⟩
 have d:(t - (lo+(t - lo).fmod n)).fdiv n=(t - lo).fdiv n:=by
  rw [e]
  exact Int.mul_fdiv_cancel_left _ (by omega)
 rw [d,Int.mul_comm]
 omega
theorem om {lo t n:Int} (hn:0<n):lo≤lo+(t - lo).fmod n∧lo+(t - lo).fmod n≤lo+n - 1∧(lo+(t - lo).fmod n)+((t - (lo+(t - lo).fmod n)).fdiv (-n))*(-n)=t:=by
 have h0:=Int.fmod_nonneg_of_pos (t - lo) hn
 have h1:=Int.fmod_lt_of_pos (t - lo) hn
 have e:t - (lo+(t - lo).fmod n)=(-n)*(-((t - lo).fdiv n)):=by
  have:=Int.fmod_def (t - lo) n
  rw [Int.neg_mul_neg]
  omega
 refine ⟨by omega,by omega,?_⟩
 have d:(t - (lo+(t - lo).fmod n)).fdiv (-n)=-((t - lo).fdiv n):=by
  rw [e]
  exact Int.mul_fdiv_cancel_left _ (by omega)
 rw [d,Int.neg_mul_neg,Int.mul_comm]
 have:=Int.fmod_def (t - lo) n
 omega
theorem qj {a b m:Int} (N:Int) (hN:N=m*m+1) (f:Int) (hf:f=(a+m*b).fmod N) (t0 t1:Int) (h0:t0=(a - f)*(-m) - b*(-1)) (h1:t1=(a - f)*(-1)+b*(-m)):
  0≤f∧f≤m*m∧f - m*(t0.fdiv N) - t1.fdiv N=a∧t0.fdiv N - m*(t1.fdiv N)=b:=by
 have sq:0≤m*m:=by
  rcases Int.le_total 0 m with h | h
  ·exact Int.mul_nonneg h h
  ·exact Int.mul_nonneg_of_nonpos_of_nonpos h h
 have hp:0<N:=by omega
 have g0:=Int.fmod_nonneg_of_pos (a+m*b) hp
 have g1:=Int.fmod_lt_of_pos (a+m*b) hp
 have e:=Int.fmod_def (a+m*b) N
 rw [← hf] at e g0 g1
 generalize (a+m*b).fdiv N=q at e
 have e0:t0=N*(b - m*q):=by subst hN; grind
 have e1:t1=N*(-q):=by subst hN; grind
 have d0:t0.fdiv N=b - m*q:=by rw [e0]; exact Int.mul_fdiv_cancel_left _ (by omega)
 have d1:t1.fdiv N=-q:=by rw [e1]; exact Int.mul_fdiv_cancel_left _ (by omega)
 rw [d0,d1]
 refine ⟨g0,by omega,?_,?_⟩ <;> subst hN <;> grind
def Kd.size:Kd→Int→Int→Int
 | .plain,n,_=>n
 | .below,n,_=>n
 | .balanced,n,_=>2*n+1
 | .growing,n,p=>n+p
 | _,_,_=>0
theorem eI {k:Kd} (h5:k.five=true) (hk:k≠.pairs):k.four=true:=by
 cases k <;> first | rfl | exact absurd rfl hk | cases h5
theorem pd {k:Kd} (h:k.four=true) (n p:Int):k.high n p - k.low n p+1=k.size n p∧(k.rat n p=k.size n p∨k.rat n p=-(k.size n p)):=by
 cases k <;> cases h <;> simp only [Kd.high,Kd.low,Kd.size,Kd.rat] <;> refine ⟨by omega,?_⟩ <;> first | exact .inl rfl | exact .inr rfl | exact .inr trivial | exact .inl trivial
theorem rb {k:Kd} {n:Int} (h:k.four=true) (hn:k.ok n) (j:Nat):2≤k.size n j:=by
 obtain ⟨h1,h2⟩:=hn
 cases k <;> cases h <;> simp only [Kd.lo,Kd.hi,Kd.size] at * <;> omega
theorem ui {k:Kd} {n:Int} {j:Nat} {t:Nm} (h5:k.five=true) (hn:k.ok n) (ht:t.ty k):
  k.low n j≤sF k n j t∧sF k n j t≤k.high n j∧t.re=sF k n j t+((k.ratN n j).mul (sC k n j t)).re∧t.im=((k.ratN n j).mul (sC k n j t)).im:=by
 by_cases hk:k=.pairs
 ·subst hk
  obtain ⟨g1,g2,g3,g4⟩:=qj (a:=t.re) (b:=t.im) (m:=n) (n*n+1) rfl _ rfl _ _ rfl rfl
  refine ⟨g1,g2,?_,?_⟩
  ·rw [wG]
   show t.re=_+(-n*_ - 1*_)
   unfold sC sF Nm.re Nm.im at *
   dsimp only at *
   grind
  ·rw [wH]
   show t.im=(-n*_+1*_)
   unfold sC sF Nm.re Nm.im at *
   dsimp only at *
   grind
 ·have h4:=eI h5 hk
  obtain ⟨e1,e2⟩:=pd h4 n j
  have hp:=rb h4 hn j
  obtain ⟨a,rfl⟩:=ss hk ht
  have eF:sF k n j (.i a)=k.low n j + (a - k.low n j).fmod (k.size n j):=by rw [← e1]; cases k <;> first | rfl | exact absurd rfl hk
  have eC:sC k n j (.i a)=.i ((a - sF k n j (.i a)).fdiv (k.rat n j)):=by cases k <;> first | rfl | exact absurd rfl hk
  have eR:k.ratN n j=.i (k.rat n j):=by cases k <;> first | rfl | exact absurd rfl hk
  have s1:=ol (lo:=k.low n j) (t:=a) (n:=k.size n j) (by omega)
  have s2:=om (lo:=k.low n j) (t:=a) (n:=k.size n j) (by omega)
  rw [eC,eR,eF]
  refine ⟨s1.1,by have:=s1.2.1; omega,?_,rfl⟩
  show a=_+k.rat n j*_
  rw [Int.mul_comm (k.rat n j)]
  rcases e2 with e | e
  ·rw [e]; exact s1.2.2.symm
  ·rw [e]; exact s2.2.2.symm
def mNx (k:Kd) (n:Int) (c:Nm) (t:Int):Nm:=sC k n 0 (c.add (.i t))
def mFg (k:Kd) (n:Int) (c:Nm) (t:Int):Int:=sF k n 0 (c.add (.i t))
abbrev MR:=Nm × Int × Int × Nm
def vX (k:Kd) (n:Int) (c:Nm) (t:Int):MR:=(c,t,mFg k n c t,mNx k n c t)
def mDt (r:MR):Dt:=.tup [r.1.dt,.int r.2.1,.int r.2.2.1,r.2.2.2.dt]
def xm (lo hi:Int):List Int:=(List.range (hi+1 - lo).toNat).map fun (i:Nat)=>lo+(i:Int)
def xt (k:Kd) (n lo hi:Int) (L:List Nm):List MR:=L.flatMap fun c=>(xm lo hi).map (vX k n c)
def y_ (L:List Nm) (c:Nm):List Nm:=if c∈L then L else L++[c]
def y3 (z:Nm) (R:List MR):List Nm:=R.foldl (fun L r=>y_ L r.2.2.2) [z]
def Kd.one:Kd→Bool
 | .growing=>false | .falling=>false | _=>true
def Kd.far (k:Kd) (n:Int):Int:=match k with
 | .pairs=>if 2*n*n<60 then 2*n*n else 60
 | _=>60
def uG (k:Kd) (n lo hi:Int):Prop:=lo≤0∧0≤hi∧-(k.far n)≤lo∧hi≤k.far n
def mBd (k:Kd) (c:Nm):Prop:=match k with
 | .pairs=>∃ a b,c=.p a b∧a*a+b*b≤361
 | _=>∃ a,c=.i a∧-122≤a∧a≤122
structure Mach (k:Kd) (n lo hi:Int) (L:List Nm) (R:List MR):Prop where
 fnd:L=y3 k.zero R
 rws:R=xt k n lo hi L
 bd:∀ c∈L,mBd k c
theorem wC {k:Kd} (h:k.one=true):k.five=true:=by cases k <;> first | rfl | cases h
theorem wl {k:Kd} {c:Nm} (h:mBd k c):c.ty k:=by
 cases k <;> first | (obtain ⟨a,e,_⟩:=h; exact ⟨a,e⟩) | (obtain ⟨a,b,e,_⟩:=h; exact ⟨a,b,e⟩)
theorem lZ (k:Kd):mBd k k.zero:=by cases k <;> first | exact ⟨0,rfl,by decide,by decide⟩ | exact ⟨0,0,rfl,by decide⟩
theorem uC {a u A U:Int} (h1:-A≤a) (h2:a≤A) (h3:-U≤u) (h4:u≤U):a*u≤A*U:=by
 have e1:=Int.mul_nonneg (show 0≤A - a by omega) (show 0≤U+u by omega)
 have e2:=Int.mul_nonneg (show 0≤A+a by omega) (show 0≤U - u by omega)
 have e:(A - a)*(U+u)+(A+a)*(U - u)=2*(A*U) - 2*(a*u):=by grind
 omega
theorem q_ {a b:Int} (h:a*a+b*b≤361):-19≤a∧a≤19∧-19≤b∧b≤19:=by
 have sq:∀ x:Int,0≤x*x:=fun x=>by
  rcases Int.le_total 0 x with h | h
  ·exact Int.mul_nonneg h h
  ·exact Int.mul_nonneg_of_nonpos_of_nonpos h h
 have far:∀ x:Int,x*x≤361→-19≤x∧x≤19:=fun x hx=>by
  refine ⟨Int.not_lt.mp fun z=>?_,Int.not_lt.mp fun z=>?_⟩
  ·have:=Int.mul_le_mul (show 20≤-x by omega) (show 20≤-x by omega) (by omega) (by omega)
   rw [Int.neg_mul_neg] at this
   omega
  ·have:=Int.mul_le_mul (show 20≤x by omega) (show 20≤x by omega) (by omega) (by omega)
   omega
 have ha:=sq a
 have hb:=sq b
 obtain ⟨a1,a2⟩:=far a (by omega)
 obtain ⟨b1,b2⟩:=far b (by omega)
 exact ⟨a1,a2,b1,b2⟩
theorem sK {r c:Int} (h:2≤r) (l:-(182+r)≤r*c) (u:r*c≤182+r):-122≤c∧c≤122:=by
 refine ⟨Int.not_lt.mp fun z=>?_,Int.not_lt.mp fun z=>?_⟩
 ·have:=Int.mul_le_mul_of_nonneg_left (show c≤-123 by omega) (show 0≤r by omega)
  omega
 ·have:=Int.mul_le_mul_of_nonneg_left (show 123≤c by omega) (show 0≤r by omega)
  omega
theorem Zm {k:Kd} {n:Int} {c:Nm} {t:Int} (h1:k.one=true) (hn:k.ok n) (hc:mBd k c) (t1:-(k.far n)≤t) (t2:t≤k.far n):mBd k (mNx k n c t):=by
 have h5:=wC h1
 have hty:=xp (t:=.i t) (wl hc) (fun _=>⟨t,rfl⟩)
 obtain ⟨f1,f2,g1,g2⟩:=ui (j:=0) h5 hn hty
 rw [wo,wG] at g1
 rw [wq,wH] at g2
 have hx:=rg k n 0 (c.add (.i t))
 obtain ⟨b1,b2⟩:=hn
 show mBd k (sC k n 0 (c.add (.i t)))
 generalize sC k n 0 (c.add (.i t))=d at *
 generalize sF k n 0 (c.add (.i t))=f at *
 cases k with
 | growing=>cases h1
 | falling=>cases h1
 | plain=>
  obtain ⟨a,rfl,a1,a2⟩:=hc
  obtain ⟨x,rfl⟩:=hx
  have t1':-60≤t:=t1
  have t2':t≤60:=t2
  have g:a+t=f+(n*x - 0*0):=g1
  have f1':0≤f:=f1
  have f2':f≤n - 1:=f2
  have b1':2≤n:=b1
  exact ⟨x,rfl,sK b1' (by omega) (by omega)⟩
 | below=>
  obtain ⟨a,rfl,a1,a2⟩:=hc
  obtain ⟨x,rfl⟩:=hx
  have t1':-60≤t:=t1
  have t2':t≤60:=t2
  have g:a+t=f+(-n*x - 0*0):=g1
  have f1':0≤f:=f1
  have f2':f≤n - 1:=f2
  have b1':2≤n:=b1
  rw [Int.neg_mul] at g
  exact ⟨x,rfl,sK b1' (by omega) (by omega)⟩
 | balanced=>
  obtain ⟨a,rfl,a1,a2⟩:=hc
  obtain ⟨x,rfl⟩:=hx
  have t1':-60≤t:=t1
  have t2':t≤60:=t2
  have g:a+t=f+((2*n+1)*x - 0*0):=g1
  have f1':-n≤f:=f1
  have f2':f≤n:=f2
  have b1':1≤n:=b1
  exact ⟨x,rfl,sK (r:=2*n+1) (by omega) (by omega) (by omega)⟩
 | pairs=>
  obtain ⟨a,b,rfl,hab⟩:=hc
  obtain ⟨x,y,rfl⟩:=hx
  refine ⟨x,y,rfl,?_⟩
  have g:a+t=f+(-n*x - 1*y):=g1
  have g':b+0=-n*y+1*x:=g2
  have f1':0≤f:=f1
  have f2':f≤n*n:=f2
  have b1':1≤n:=b1
  have b2':n≤9:=b2
  obtain ⟨a1,a2,_,_⟩:=q_ hab
  have key:(n*n+1)*(x*x+y*y)=(a+(t - f))*(a+(t - f))+b*b:=by
   have e1:a+(t - f)=-n*x - y:=by omega
   have e2:b=x - n*y:=by
    rw [Int.neg_mul] at g'
    omega
   rw [e1,e2]
   grind
  have key2:(a+(t - f))*(a+(t - f))+b*b=(a*a+b*b)+2*(a*(t - f))+(t - f)*(t - f):=by grind
  have go:∀ U:Int,-U≤t - f→t - f≤U→361+38*U+U*U<362*(n*n+1)→x*x+y*y≤361:=fun U u1 u2 hU=>by
   have m1:=uC a1 a2 u1 u2
   have m2:=uC u1 u2 u1 u2
   have:(n*n+1)*(x*x+y*y)<(n*n+1)*362:=by
    rw [key,key2]
    omega
   have:=Int.lt_of_mul_lt_mul_left this (by
    have:=Int.mul_nonneg (show 0≤n by omega) (show 0≤n by omega)
    omega)
   omega
  unfold Kd.far at t1 t2
  dsimp only at t1 t2
  have hcase:n=1∨n=2∨n=3∨n=4∨n=5∨n=6∨n=7∨n=8∨n=9:=by omega
  rcases hcase with rfl | rfl | rfl | rfl | rfl | rfl | rfl | rfl | rfl
  ·exact go 3 (by omega) (by omega) (by decide)
  ·exact go 12 (by omega) (by omega) (by decide)
  ·exact go 27 (by omega) (by omega) (by decide)
  ·exact go 48 (by omega) (by omega) (by decide)
  ·exact go 75 (by omega) (by omega) (by decide)
  ·exact go 96 (by omega) (by omega) (by decide)
  ·exact go 109 (by omega) (by omega) (by decide)
  ·exact go 124 (by omega) (by omega) (by decide)
  ·exact go 141 (by omega) (by omega) (by decide)
theorem qw:∀ (N:Nat) (l:List Nat),l.Nodup→(∀ x∈l,x<N)→l.length≤N
 | 0,l,_,h=>by
  cases l with
  | nil=>exact Nat.le_refl _
  | cons x _=>exact absurd (h x (List.mem_cons_self ..)) (Nat.not_lt_zero _)
 | N+1,l,hd,h=>by
  by_cases hm:N∈l
  ·have ih:=qw N (l.erase N) (hd.erase N) fun x hx=>by
    obtain ⟨h1,h2⟩:=(List.Nodup.mem_erase_iff hd).mp hx
    have:=h x h2
    omega
   rw [List.length_erase_of_mem hm] at ih
   omega
  ·have ih:=qw N l hd fun x hx=>by
    have:=h x hx
    have:x≠N:=fun e=>hm (e ▸ hx)
    omega
   omega
def vI:Nm→Nat
 | .i a=>(a+122).toNat
 | .p a b=>((a+19)*39+(b+19)).toNat
theorem lY {k:Kd} {c:Nm} (h:mBd k c):vI c<1600:=by
 cases k with
 | pairs=>
  obtain ⟨a,b,rfl,h⟩:=h
  obtain ⟨h1,h2,h3,h4⟩:=q_ h
  simp only [vI]
  omega
 | _=>
  obtain ⟨a,rfl,h1,h2⟩:=h
  simp only [vI]
  omega
theorem oT {k:Kd} {c d:Nm} (h:mBd k c) (h':mBd k d) (e:vI c=vI d):c=d:=by
 cases k with
 | pairs=>
  obtain ⟨a,b,rfl,h⟩:=h
  obtain ⟨a',b',rfl,h'⟩:=h'
  obtain ⟨h1,h2,h3,h4⟩:=q_ h
  obtain ⟨h1',h2',h3',h4'⟩:=q_ h'
  simp only [vI] at e
  obtain ⟨e1,e2⟩:a=a'∧b=b':=by omega
  rw [e1,e2]
 | _=>
  obtain ⟨a,rfl,h1,h2⟩:=h
  obtain ⟨a',rfl,h1',h2'⟩:=h'
  simp only [vI] at e
  have e1:a=a':=by omega
  rw [e1]
theorem few {k:Kd} {L:List Nm} (hd:L.Nodup) (hb:∀ c∈L,mBd k c):L.length≤1600:=by
 have:=qw 1600 (L.map vI) (by
  refine List.pairwise_map.mpr (List.Pairwise.imp_of_mem (fun {a b} ha hb' hne e=>hne (oT (hb a ha) (hb b hb') e)) hd)) (fun x hx=>by
  obtain ⟨c,hc,rfl⟩:=List.mem_map.mp hx
  exact lY (hb c hc))
 rwa [List.length_map] at this
theorem fY {L:List Nm} {c:Nm} (h:L.Nodup):(y_ L c).Nodup:=by
 unfold y_
 split
 ·exact h
 ·rename_i hc
  exact List.nodup_append.mpr ⟨h,List.nodup_cons.mpr ⟨List.not_mem_nil,List.nodup_nil⟩,fun a ha b hb e=>hc (by rw [List.mem_singleton] at hb; rw [← hb,← e]; exact ha)⟩
theorem qQ (z:Nm) (R:List MR) (r:MR):y3 z (R++[r])=y_ (y3 z R) r.2.2.2:=by
 unfold y3
 rw [List.foldl_append]
 rfl
theorem pJ:∀ (R:List MR) (L:List Nm),L.Nodup→(R.foldl (fun L r=>y_ L r.2.2.2) L).Nodup
 | [],_,h=>h
 | _::R,_,h=>pJ R _ (fY h)
theorem uL (z:Nm) (R:List MR):(y3 z R).Nodup:=pJ R [z] (List.nodup_cons.mpr ⟨List.not_mem_nil,List.nodup_nil⟩)
theorem rM:∀ (R:List MR) (L:List Nm),∃ ex,R.foldl (fun L r=>y_ L r.2.2.2) L=L++ex
 | [],L=>⟨[],(List.append_nil _).symm⟩
 | r::R,L=>by
  obtain ⟨ex,e⟩:=rM R (y_ L r.2.2.2)
  show ∃ ex,R.foldl (fun L r=>y_ L r.2.2.2) (y_ L r.2.2.2)=L++ex
  rw [e]
  unfold y_
  split
  ·exact ⟨_,rfl⟩
  ·exact ⟨_,by rw [List.append_assoc]⟩
theorem qR (z:Nm) (R:List MR):∃ ex,y3 z R=z::ex:=rM R [z]
theorem ot (k:Kd) (n lo hi:Int) (L:List Nm) (c:Nm):xt k n lo hi (L++[c])=xt k n lo hi L++(xm lo hi).map (vX k n c):=by
 unfold xt
 rw [List.flatMap_append]
 simp
theorem wy (k:Kd) (n lo hi:Int):∀ L:List Nm,(xt k n lo hi L).length=L.length*(hi+1 - lo).toNat
 | []=>by simp [xt]
 | c::L=>by
  have ih:=wy k n lo hi L
  unfold xt at ih ⊢
  rw [List.flatMap_cons,List.length_append,ih,List.length_map,List.length_cons,Nat.succ_mul]
  unfold xm
  rw [List.length_map,List.length_range,Nat.add_comm]
def Nm.key:Nm→KD
 | .i a=>.ki a
 | .p a b=>.kp [a,b]
def Kd.md:Kd→KM
 | .pairs=>.mp
 | _=>.mi
def zV (c:Nm) (t:Int):KD:=match c with
 | .i a=>.kp [a,t]
 | .p a b=>.kn [a,b] t
def Kd.mdl:Kd→KM
 | .pairs=>.mn
 | _=>.mp
def yJ (r:MR):KD × Dt:=(zV r.1 r.2.1,.tup [.int r.2.2.1,r.2.2.2.dt])
theorem qJ (c:Nm):c.dt=KD.dt c.key:=by cases c <;> rfl
theorem qI {k:Kd} {c:Nm} (h:c.ty k):c.key.md=k.md:=by
 by_cases hk:k=.pairs
 ·subst hk; obtain ⟨a,b,rfl⟩:=h; rfl
 ·obtain ⟨a,rfl⟩:=ss hk h
  cases k <;> first | rfl | exact absurd rfl hk
theorem wL (c:Nm) (t:Int):Dt.tup [c.dt,.int t]=KD.dt (zV c t):=by cases c <;> rfl
theorem wK {k:Kd} {c:Nm} (t:Int) (h:c.ty k):(zV c t).md=k.mdl:=by
 by_cases hk:k=.pairs
 ·subst hk; obtain ⟨a,b,rfl⟩:=h; rfl
 ·obtain ⟨a,rfl⟩:=ss hk h
  cases k <;> first | rfl | exact absurd rfl hk
theorem eD {c d:Nm} (h:c.key=d.key):c=d:=by
 cases c <;> cases d <;> simp only [Nm.key] at h <;> cases h <;> rfl
theorem vo {c d:Nm} {t u:Int} (h:zV c t=zV d u):c=d∧t=u:=by
 cases c <;> cases d <;> simp only [zV] at h <;> cases h <;> exact ⟨rfl,rfl⟩
theorem wm {kvs:DKV} {k:KD} (h:∀ x∈kvs,x.1≠k):zQ kvs k=none:=by
 unfold zQ
 rw [List.find?_eq_none.mpr fun x hx=>by rw [decide_eq_true_iff]; exact h x hx]
 rfl
theorem qF {kvs:DKV} {k:KD} {v:Dt} (hd:(kvs.map (·.1)).Nodup) (h:(k,v)∈kvs):zQ kvs k=some v:=by
 unfold zQ
 induction kvs with
 | nil=>cases h
 | cons x xs ih=>
  rw [List.map_cons,List.nodup_cons] at hd
  rw [List.find?_cons]
  rcases List.mem_cons.mp h with e | e
  ·subst e
   rw [decide_eq_true rfl]
   rfl
  ·rw [decide_eq_false fun z=>hd.1 (by rw [z]; exact List.mem_map.mpr ⟨_,e,rfl⟩)]
   exact ih hd.2 e
def xF (L:List Nm):DKV:=L.map fun c=>(c.key,Dt.bl true)
theorem rJ {L:List Nm} {c:Nm}:(!(zQ (xF L) c.key).isSome)=!(decide (c∈L)):=by
 by_cases h:c∈L
 ·have:(zQ (xF L) c.key).isSome=true:=by
   unfold zQ
   rw [Option.isSome_map,List.find?_isSome]
   exact ⟨_,List.mem_map.mpr ⟨c,h,rfl⟩,by rw [decide_eq_true_iff]⟩
  rw [this,decide_eq_true h]
 ·rw [wm fun x hx e=>?_,decide_eq_false h]
  ·rfl
  ·obtain ⟨d,hd,rfl⟩:=List.mem_map.mp hx
   exact h (eD e ▸ hd)
theorem cg (lo hi:Int):(xm lo hi).Nodup:=by
 unfold xm
 exact List.pairwise_map.mpr (List.Pairwise.imp (fun h e=>h (by omega)) List.nodup_range)
theorem tot_mem {lo hi t:Int}:t∈xm lo hi↔lo≤t∧t≤hi:=by
 unfold xm
 rw [List.mem_map]
 constructor
 ·rintro ⟨i,hi',rfl⟩
  rw [List.mem_range] at hi'
  omega
 ·rintro ⟨h1,h2⟩
  exact ⟨(t - lo).toNat,by rw [List.mem_range]; omega,by omega⟩
theorem eo {k:Kd} {n lo hi:Int} {L:List Nm} (h:L.Nodup):((xt k n lo hi L).map fun r=>zV r.1 r.2.1).Nodup:=by
 unfold xt
 rw [List.map_flatMap]
 refine List.pairwise_flatMap.mpr ⟨fun c _=>?_,?_⟩
 ·rw [List.map_map]
  exact List.pairwise_map.mpr (List.Pairwise.imp (fun hne e=>hne (vo e).2) (cg lo hi))
 ·refine List.Pairwise.imp (fun {c d} hne x hx y hy e=>?_) h
  obtain ⟨r,hr,rfl⟩:=List.mem_map.mp hx
  obtain ⟨t,_,rfl⟩:=List.mem_map.mp hr
  obtain ⟨r',hr',rfl⟩:=List.mem_map.mp hy
  obtain ⟨t',_,rfl⟩:=List.mem_map.mp hr'
  exact hne (vo e).1
theorem rows_mem {k:Kd} {n lo hi:Int} {L:List Nm} {r:MR}:r∈xt k n lo hi L↔∃ c t,c∈L∧lo≤t∧t≤hi∧r=vX k n c t:=by
 unfold xt
 rw [List.mem_flatMap]
 constructor
 ·rintro ⟨c,hc,h⟩
  obtain ⟨t,ht,rfl⟩:=List.mem_map.mp h
  exact ⟨c,t,hc,(tot_mem.mp ht).1,(tot_mem.mp ht).2,rfl⟩
 ·rintro ⟨c,t,hc,h1,h2,rfl⟩
  exact ⟨c,hc,List.mem_map.mpr ⟨t,tot_mem.mpr ⟨h1,h2⟩,rfl⟩⟩
theorem uW {lo hi:Int} {i:Nat} (h:i<(hi+1 - lo).toNat):(xm lo hi).take (i+1)=(xm lo hi).take i++[lo+(i:Int)]:=by
 unfold xm
 rw [List.take_succ,List.getElem?_map,List.getElem?_range h]
 rfl
theorem ju (lo hi:Int):(xm lo hi).length=(hi+1 - lo).toNat:=by
 unfold xm
 rw [List.length_map,List.length_range]
theorem Mach.lnd {k:Kd} {n lo hi:Int} {L:List Nm} {R:List MR} (M:Mach k n lo hi L R):L.Nodup:=by rw [M.fnd]; exact uL _ _
theorem Mach.len {k:Kd} {n lo hi:Int} {L:List Nm} {R:List MR} (M:Mach k n lo hi L R) (h:(hi+1 - lo).toNat≤121):R.length≤193600:=by
 have h1:=few M.lnd M.bd
 have e:R.length=L.length*(hi+1 - lo).toNat:=by rw [← wy k n lo hi L,← M.rws]
 have:=Nat.mul_le_mul h1 h
 omega
theorem Mach.ty {k:Kd} {n lo hi:Int} {L:List Nm} {R:List MR} (M:Mach k n lo hi L R):∀ r∈R,r.1.ty k:=by
 intro r hr
 rw [M.rws] at hr
 obtain ⟨c,t,hc,_,_,rfl⟩:=rows_mem.mp hr
 exact wl (M.bd c hc)
theorem Mach.knd {k:Kd} {n lo hi:Int} {L:List Nm} {R:List MR} (M:Mach k n lo hi L R):(R.map fun r=>zV r.1 r.2.1).Nodup:=by
 have h:=eo (k:=k) (n:=n) (lo:=lo) (hi:=hi) M.lnd
 rwa [← M.rws] at h
theorem Xo (k:Kd) (n:Int):k.far n≤60:=by
 cases k <;> first | exact Int.le_refl _ | (show (if 2 * n * n < 60 then 2 * n * n else 60)≤60; split <;> omega)
theorem nk {k:Kd} {n lo hi:Int} (h:uG k n lo hi):(hi+1 - lo).toNat≤121:=by
 obtain ⟨h1,h2,h3,h4⟩:=h
 have:=Xo k n
 omega
theorem rE {R:List MR} {i:Nat} {r:MR} (hnd:(R.map fun r=>zV r.1 r.2.1).Nodup) (hr:R[i]? = some r):zQ ((R.take i).map yJ) (zV r.1 r.2.1)=none:=by
 have hi:=(List.getElem?_eq_some_iff.mp hr).1
 refine wm fun x hx e=>?_
 obtain ⟨r',hr',rfl⟩:=List.mem_map.mp hx
 obtain ⟨j,hj⟩:=List.mem_iff_getElem?.mp hr'
 have hji:j<i:=by
  have:=(List.getElem?_eq_some_iff.mp hj).1
  rw [List.length_take] at this
  omega
 rw [List.getElem?_take_of_lt hji] at hj
 have h1:(R.map fun r=>zV r.1 r.2.1)[j]? = some (zV r'.1 r'.2.1):=by rw [List.getElem?_map,hj]; rfl
 have h2:(R.map fun r=>zV r.1 r.2.1)[i]? = some (zV r.1 r.2.1):=by rw [List.getElem?_map,hr]; rfl
 have e:zV r'.1 r'.2.1=zV r.1 r.2.1:=e
 rw [e] at h1
 have:=(List.getElem?_inj (by rw [List.length_map]; omega) hnd).mp (h1.trans h2.symm)
 omega
def mgC (k:Kd) (n:Int):Nm→List Int→Nm
 | c,[]=>c
 | c,t::ts=>mgC k n (mNx k n c t) ts
def mgF (k:Kd) (n:Int):Nm→List Int→List Int
 | _,[]=>[]
 | c,t::ts=>mFg k n c t::mgF k n (mNx k n c t) ts
theorem uE (k:Kd) (n:Int) (t:Int):∀ (ts:List Int) (c:Nm),mgC k n c (ts++[t])=mNx k n (mgC k n c ts) t
 | [],_=>rfl
 | _::ts,_=>uE k n t ts _
theorem uD (k:Kd) (n:Int) (t:Int):∀ (ts:List Int) (c:Nm),mgF k n c (ts++[t])=mgF k n c ts++[mFg k n (mgC k n c ts) t]
 | [],_=>rfl
 | u::ts,c=>by
  show mFg k n c u::mgF k n (mNx k n c u) (ts++[t])=_
  rw [uD k n t ts]
  rfl
theorem wI (k:Kd) (n:Int):∀ (ts:List Int) (c:Nm),(mgF k n c ts).length=ts.length
 | [],_=>rfl
 | _::ts,_=>by
  show (mgF k n _ ts).length+1=ts.length+1
  rw [wI k n ts]
theorem uM:∀ (R:List MR) (L:List Nm),(∀ c∈L,c∈R.foldl (fun L r=>y_ L r.2.2.2) L)∧∀ r∈R,r.2.2.2∈R.foldl (fun L r=>y_ L r.2.2.2) L
 | [],_=>⟨fun _ h=>h,fun _ h=>nomatch h⟩
 | r::R,L=>by
  obtain ⟨h1,h2⟩:=uM R (y_ L r.2.2.2)
  have s1:∀ c∈L,c∈y_ L r.2.2.2:=fun c hc=>by
   unfold y_
   split
   ·exact hc
   ·exact List.mem_append_left _ hc
  have s2:r.2.2.2∈y_ L r.2.2.2:=by
   unfold y_
   split
   ·assumption
   ·exact List.mem_append_right _ (List.mem_singleton.mpr rfl)
  refine ⟨fun c hc=>h1 c (s1 c hc),fun r' hr'=>?_⟩
  rcases List.mem_cons.mp hr' with rfl | hr'
  ·exact h1 _ s2
  ·exact h2 r' hr'
theorem Mach.zero {k:Kd} {n lo hi:Int} {L:List Nm} {R:List MR} (M:Mach k n lo hi L R):k.zero∈L:=by
 rw [M.fnd]
 exact (uM R [k.zero]).1 _ (List.mem_singleton.mpr rfl)
theorem Mach.row {k:Kd} {n lo hi:Int} {L:List Nm} {R:List MR} (M:Mach k n lo hi L R) {c:Nm} {t:Int} (hc:c∈L) (h1:lo≤t) (h2:t≤hi):vX k n c t∈R:=by
 rw [M.rws]
 exact rows_mem.mpr ⟨c,t,hc,h1,h2,rfl⟩
theorem Mach.next {k:Kd} {n lo hi:Int} {L:List Nm} {R:List MR} (M:Mach k n lo hi L R) {c:Nm} {t:Int} (hc:c∈L) (h1:lo≤t) (h2:t≤hi):mNx k n c t∈L:=by
 have h:=(uM R [k.zero]).2 _ (M.row hc h1 h2)
 have e:y3 k.zero R=L:=M.fnd.symm
 rw [← e]
 exact h
theorem Mach.go {k:Kd} {n lo hi:Int} {L:List Nm} {R:List MR} (M:Mach k n lo hi L R):∀ (ts:List Int) (c:Nm),c∈L→(∀ t∈ts,lo≤t∧t≤hi)→mgC k n c ts∈L
 | [],_,h,_=>h
 | t::ts,c,h,ht=>M.go ts _ (M.next h (ht t (List.mem_cons_self ..)).1 (ht t (List.mem_cons_self ..)).2) fun u hu=>ht u (List.mem_cons_of_mem _ hu)
theorem Mach.look {k:Kd} {n lo hi:Int} {L:List Nm} {R:List MR} (M:Mach k n lo hi L R) {c:Nm} {t:Int} (hc:c∈L) (h1:lo≤t) (h2:t≤hi):zQ (R.map yJ) (zV c t)=some (.tup [.int (mFg k n c t),(mNx k n c t).dt]):=by
 refine qF ?_ (List.mem_map.mpr ⟨vX k n c t,M.row hc h1 h2,rfl⟩)
 have h:=M.knd
 rw [List.map_map]
 exact h
theorem Mach.none {k:Kd} {n lo hi:Int} {L:List Nm} {R:List MR} (M:Mach k n lo hi L R) {c:Nm} {t:Int} (h:¬ (lo≤t∧t≤hi)):zQ (R.map yJ) (zV c t)=Option.none:=by
 refine wm fun x hx e=>h ?_
 obtain ⟨r,hr,rfl⟩:=List.mem_map.mp hx
 rw [M.rws] at hr
 obtain ⟨c',t',_,h1,h2,rfl⟩:=rows_mem.mp hr
 obtain ⟨_,rfl⟩:=vo (show zV c' t'=zV c t from e)
 exact ⟨h1,h2⟩
theorem lW (k:Kd):k.mdl≠.mi:=by cases k <;> exact fun z=>nomatch z
theorem jv {p:Int→Prop} {ts:List Int} {i:Nat} {t:Int} (h:∀ u∈ts.take i,p u) (ht:p t) (hi:ts[i]? = some t):∀ u∈ts.take (i+1),p u:=by
 intro u hu
 rw [List.take_succ,hi] at hu
 rcases List.mem_append.mp hu with hu | hu
 ·exact h u hu
 ·cases List.mem_singleton.mp hu; exact ht
def pw (p:Str × Bool):Dt:=.tup [.str p.1,.bl p.2]
def ra (l:List (Str × Bool)):List Dt:=(l.filter fun p=>p.2).map fun p=>Dt.str p.1
theorem qY {ρ:DS} {Q:Dt→Prop} (l:List (Str × Bool)) (q:Q (.lst (ra l))):vA [] (fun _ q=>q (l.map pw).length fun i e=>(l.map pw)[i]? = some e) Xs (rV (ZQ 1)) (ZQ 0) ρ Q:=by
 refine ⟨fun i es=>es=ra (l.take i),rfl,?_,?_⟩
 ·rintro i e es hi he rfl
  rw [List.getElem?_map] at he
  obtain ⟨⟨w,t⟩,hp,rfl⟩:=Option.map_eq_some_iff.mp he
  refine ⟨_,⟨_,_,rfl,rfl⟩,_,rfl,t,rfl,?_⟩
  have ek:ra (l.take (i+1))=ra (l.take i)++if t=true then [Dt.str w] else []:=by
   unfold ra
   rw [take_succ_filter (fun p:Str × Bool=>p.2) l i (w,t) hp,List.map_append]
   cases t <;> rfl
  cases t with
  | true=>exact ifT rfl ⟨_,rfl,ek.symm⟩
  | false=>exact ifF rfl (by rw [if_neg Bool.false_ne_true,List.append_nil] at ek; exact ek.symm)
 ·rintro es rfl
  rw [List.length_map,List.take_length]
  exact q
def Kd.nam:Kd→Str
 | .plain=>.ofString "plain"
 | .below=>.ofString "below"
 | .balanced=>.ofString "balanced"
 | .growing=>.ofString "growing"
 | .falling=>.ofString "falling"
 | .pairs=>.ofString "pairs"
def jm:DSp:=fun ds Q=>∃ (c:Nm) (t:Int),ds=[c.dt,.int t]∧Q (c.add (.i t)).dt
def qd:DSp:=fun ds Q=>∃ k n,∃ c:Nm,ds=[.str (Kd.nam k),.int n,c.dt]∧k.one=true∧k.ok n∧c.ty k∧Q ((k.ratN n 0).mul c).dt
def jl:DSp:=fun ds Q=>∃ k n f,ds=[.str (Kd.nam k),.int n,.int f]∧k.one=true∧k.ok n∧k.low n 0≤f∧f≤k.high n 0∧Q (.bl true)
def pZ:DSp:=fun ds Q=>∃ k,ds=[.str (Kd.nam k)]∧Q k.zero.dt
def jk:DSp:=fun ds Q=>∃ k,∃ c:Nm,ds=[.str (Kd.nam k),c.dt]∧c.ty k∧Q (.bl true)
def sk:DSp:=fun ds Q=>∃ c,ds=[.int c]∧∀ k n,k.one=true→k.ok n→Q (.tup [.str (Kd.nam k),.int n])
def pY:DSp:=fun ds Q=>∃ k n c,ds=[.str (Kd.nam k),.int n,.int c]∧k.one=true∧k.ok n∧∀ lo hi,uG k n lo hi→hi - lo≤18→Q (.tup [.int lo,.int hi])
theorem Xg (i:Int):∃ k:Kd,k.one=true∧atI [Dt.str (.ofString "plain"),.str (.ofString "below"),.str (.ofString "balanced"),.str (.ofString "pairs")] (i.fmod 4)=some (.str k.nam):=by
 have a0:=Int.fmod_nonneg_of_pos i (show (0:Int)<4 by decide)
 have a1:=Int.fmod_lt_of_pos i (show (0:Int)<4 by decide)
 rcases (by omega:i.fmod 4=0∨i.fmod 4=1∨i.fmod 4=2∨i.fmod 4=3) with e | e | e | e <;> rw [e]
 ·exact ⟨.plain,rfl,rfl⟩
 ·exact ⟨.below,rfl,rfl⟩
 ·exact ⟨.balanced,rfl,rfl⟩
 ·exact ⟨.pairs,rfl,rfl⟩
def hn (k:Kd) (n:Int):List Int→Nm→Nm
 | [],l=>l
 | t::ts,l=>((k.ratN n 0).mul (hn k n ts l)).add (.i t)
def p7:DSp:=fun ds Q=>∃ k n,∃ r:List Int,∃ l:Nm,ds=[.str (Kd.nam k),.int n,yO r,l.dt]∧k.one=true∧k.ok n∧l.ty k∧r.length≤1000∧Q (hn k n r l).dt
def d6:DSp:=fun ds Q=>∃ k n,∃ ts:List Int,ds=[.str (Kd.nam k),.int n,.tup [yO (mgF k n k.zero ts),(mgC k n k.zero ts).dt],yO ts]∧k.one=true∧k.ok n∧ts.length≤1000∧Q (.bl true)
def nt:Dt:=.lst [.str (.ofString "NoTotal")]
structure Adr where
 Plain:Addr
 Below:Addr
 Balanced:Addr
 Growing:Addr
 Falling:Addr
 Pairs:Addr
 Machine:Addr
 OddError:Addr
 NoTotal:Addr
 NoSpan:Addr
 NoPairs:Addr
 NoWriting:Addr
 NoWay:Addr
 NoNumber:Addr
 TooLess:Addr
 NoFalling:Addr
 Nought:Addr
 NoRatio:Addr
 NoText:Addr
 NoRow:Addr
structure Txt (K:PySem.W.Frag) (mg:Str→Option Value) (A:Adr):Prop where
 kt:dH K
 isinstance:mg "isinstance"=none
 n_int:mg "int"=none
 n_bool:mg "bool"=none
 n_tuple:mg "tuple"=none
 n_list:mg "list"=none
 len:mg "len"=none
 range:mg "range"=none
 n_min:mg "min"=none
 n_ValueError:mg "ValueError"=none
 Vs:Cls K A.Plain
 Tc:NoAttr K A.Plain "base"
 Vt:Cls K A.Below
 Td:NoAttr K A.Below "base"
 Vr:Cls K A.Balanced
 Um:NoAttr K A.Balanced "half"
 Vv:Cls K A.Growing
 Se:NoAttr K A.Growing "first"
 Uo:Cls K A.Falling
 Si:NoAttr K A.Falling "most"
 Vm:Cls K A.Pairs
 Vq:NoAttr K A.Pairs "most"
 cl_Machine:Cls K A.Machine
 na_Machine_found:NoAttr K A.Machine "found"
 na_Machine_made:NoAttr K A.Machine "made"
 na_Machine_leads:NoAttr K A.Machine "leads"
 Sj:mg "Pairs"=some (.ref A.Pairs)
 Sk:mg "Growing"=some (.ref A.Growing)
 Sm:mg "Falling"=some (.ref A.Falling)
 Sn:x9 K A.Plain
 VB:PySem.W.kitOne K (.ref A.Plain) (.ref A.Pairs)=some false
 VC:PySem.W.kitOne K (.ref A.Plain) (.ref A.Growing)=some false
 VD:PySem.W.kitOne K (.ref A.Plain) (.ref A.Falling)=some false
 So:x9 K A.Below
 VE:PySem.W.kitOne K (.ref A.Below) (.ref A.Pairs)=some false
 VF:PySem.W.kitOne K (.ref A.Below) (.ref A.Growing)=some false
 VG:PySem.W.kitOne K (.ref A.Below) (.ref A.Falling)=some false
 Sq:x9 K A.Balanced
 VH:PySem.W.kitOne K (.ref A.Balanced) (.ref A.Pairs)=some false
 VI:PySem.W.kitOne K (.ref A.Balanced) (.ref A.Growing)=some false
 VJ:PySem.W.kitOne K (.ref A.Balanced) (.ref A.Falling)=some false
 Sr:x9 K A.Growing
 VL:PySem.W.kitOne K (.ref A.Growing) (.ref A.Pairs)=some false
 VM:PySem.W.kitOne K (.ref A.Growing) (.ref A.Growing)=some true
 VN:PySem.W.kitOne K (.ref A.Growing) (.ref A.Falling)=some false
 Ss:x9 K A.Falling
 VO:PySem.W.kitOne K (.ref A.Falling) (.ref A.Pairs)=some false
 VP:PySem.W.kitOne K (.ref A.Falling) (.ref A.Growing)=some false
 VQ:PySem.W.kitOne K (.ref A.Falling) (.ref A.Falling)=some true
 Su:x9 K A.Pairs
 VR:PySem.W.kitOne K (.ref A.Pairs) (.ref A.Pairs)=some true
 VS:PySem.W.kitOne K (.ref A.Pairs) (.ref A.Growing)=some false
 VT:PySem.W.kitOne K (.ref A.Pairs) (.ref A.Falling)=some false
 Sv:mg "OddError"=some (.ref A.OddError)
 Sf:mg "NoTotal"=some (.ref A.NoTotal)
 Sg:mg "NoSpan"=some (.ref A.NoSpan)
 Sw:mg "NoPairs"=some (.ref A.NoPairs)
 Sx:mg "NoWriting"=some (.ref A.NoWriting)
 Sy:mg "NoWay"=some (.ref A.NoWay)
 Sz:mg "NoNumber"=some (.ref A.NoNumber)
 SA:mg "TooLess"=some (.ref A.TooLess)
 SB:mg "NoFalling"=some (.ref A.NoFalling)
 SC:mg "Nought"=some (.ref A.Nought)
 Sh:mg "NoRatio"=some (.ref A.NoRatio)
 SD:mg "NoText"=some (.ref A.NoText)
 SE:mg "NoRow"=some (.ref A.NoRow)
 VU:ExcK K A.NoRatio
 Up:x8 K A.NoRatio
 Uq:PySem.W.exmOne K (.ref A.NoRatio) (.ref A.OddError)=some true
 Ur:PySem.W.kitOne K (.ref A.NoRatio) (.ref A.OddError)=some true
 Us:PySem.W.kitOne K (.ref A.NoRatio) (.ref A.NoTotal)=some false
 Ut:PySem.W.kitOne K (.ref A.NoRatio) (.ref A.NoSpan)=some false
 Uu:PySem.W.kitOne K (.ref A.NoRatio) (.ref A.NoPairs)=some false
 Uv:PySem.W.kitOne K (.ref A.NoRatio) (.ref A.NoWriting)=some false
 Uw:PySem.W.kitOne K (.ref A.NoRatio) (.ref A.NoWay)=some false
 Ux:PySem.W.kitOne K (.ref A.NoRatio) (.ref A.NoNumber)=some false
 Uy:PySem.W.kitOne K (.ref A.NoRatio) (.ref A.TooLess)=some false
 Uz:PySem.W.kitOne K (.ref A.NoRatio) (.ref A.NoFalling)=some false
 UA:PySem.W.kitOne K (.ref A.NoRatio) (.ref A.Nought)=some false
 UB:PySem.W.kitOne K (.ref A.NoRatio) (.ref A.NoRatio)=some true
 UC:PySem.W.kitOne K (.ref A.NoRatio) (.ref A.NoText)=some false
 UD:PySem.W.kitOne K (.ref A.NoRatio) (.ref A.NoRow)=some false
 UE:PySem.W.kitOne K (.ref A.NoRatio) (.type "ValueError")=some true
 VV:ExcK K A.NoSpan
 UF:x8 K A.NoSpan
 UG:PySem.W.exmOne K (.ref A.NoSpan) (.ref A.OddError)=some true
 UH:PySem.W.kitOne K (.ref A.NoSpan) (.ref A.OddError)=some true
 UI:PySem.W.kitOne K (.ref A.NoSpan) (.ref A.NoTotal)=some false
 UJ:PySem.W.kitOne K (.ref A.NoSpan) (.ref A.NoSpan)=some true
 UK:PySem.W.kitOne K (.ref A.NoSpan) (.ref A.NoPairs)=some false
 UL:PySem.W.kitOne K (.ref A.NoSpan) (.ref A.NoWriting)=some false
 UM:PySem.W.kitOne K (.ref A.NoSpan) (.ref A.NoWay)=some false
 UN:PySem.W.kitOne K (.ref A.NoSpan) (.ref A.NoNumber)=some false
 UO:PySem.W.kitOne K (.ref A.NoSpan) (.ref A.TooLess)=some false
 UP:PySem.W.kitOne K (.ref A.NoSpan) (.ref A.NoFalling)=some false
 UQ:PySem.W.kitOne K (.ref A.NoSpan) (.ref A.Nought)=some false
 UR:PySem.W.kitOne K (.ref A.NoSpan) (.ref A.NoRatio)=some false
 US:PySem.W.kitOne K (.ref A.NoSpan) (.ref A.NoText)=some false
 UT:PySem.W.kitOne K (.ref A.NoSpan) (.ref A.NoRow)=some false
 UU:PySem.W.kitOne K (.ref A.NoSpan) (.type "ValueError")=some true
 VW:ExcK K A.NoTotal
 Vk:x8 K A.NoTotal
 VX:PySem.W.exmOne K (.ref A.NoTotal) (.ref A.OddError)=some true
 UV:PySem.W.kitOne K (.ref A.NoTotal) (.ref A.OddError)=some true
 VY:PySem.W.kitOne K (.ref A.NoTotal) (.ref A.NoTotal)=some true
 VZ:PySem.W.kitOne K (.ref A.NoTotal) (.ref A.NoSpan)=some false
 V0:PySem.W.kitOne K (.ref A.NoTotal) (.ref A.NoPairs)=some false
 V1:PySem.W.kitOne K (.ref A.NoTotal) (.ref A.NoWriting)=some false
 V2:PySem.W.kitOne K (.ref A.NoTotal) (.ref A.NoWay)=some false
 V3:PySem.W.kitOne K (.ref A.NoTotal) (.ref A.NoNumber)=some false
 V4:PySem.W.kitOne K (.ref A.NoTotal) (.ref A.TooLess)=some false
 V5:PySem.W.kitOne K (.ref A.NoTotal) (.ref A.NoFalling)=some false
 V6:PySem.W.kitOne K (.ref A.NoTotal) (.ref A.Nought)=some false
 V7:PySem.W.kitOne K (.ref A.NoTotal) (.ref A.NoRatio)=some false
 V8:PySem.W.kitOne K (.ref A.NoTotal) (.ref A.NoText)=some false
 V9:PySem.W.kitOne K (.ref A.NoTotal) (.ref A.NoRow)=some false
 V_:PySem.W.kitOne K (.ref A.NoTotal) (.type "ValueError")=some true
def Adr.at (A:Adr):Kd→Addr
 | .plain=>A.Plain | .below=>A.Below | .balanced=>A.Balanced | .growing=>A.Growing | .falling=>A.Falling | .pairs=>A.Pairs
def wZ (A:Adr) (k:Kd) (n:Int):Dt:=.way (A.at k) k.fld n
def xN (A:Adr) (k:Kd) (g:Int→Int→Int):DSp:=fun ds Q=>∃ n p,ds=[wZ A k n,.int p]∧k.ok n∧Q (.int (g n p))
def wt (A:Adr) (k:Kd) (g:Int→Int→Nm):DSp:=fun ds Q=>∃ n p,ds=[wZ A k n,.int p]∧k.ok n∧Q (g n p).dt
def Z2:DSp:=fun ds Q=>∃ o p,ds=[o,p]∧Q (.int 0)
def X7:DSp:=fun ds Q=>∃ o,ds=[o]∧Q (.int 0)
def X6:DSp:=fun ds Q=>∃ o,ds=[o]∧Q (.tup [.int 0,.int 0])
def X8 (k:Kd):DSp:=fun ds Q=>∃ o,ds=[o]∧Q k.zero.dt
theorem Xq (k:Kd):(("low":Str) == k.fld)=false:=by cases k <;> decide +kernel
theorem ZC (k:Kd):(("high":Str) == k.fld)=false:=by cases k <;> decide +kernel
def jc (A:Adr):DSp:=fun ds Q=>∃ k n t j,ds=[wZ A k n,.int t,.int ((j:Nat):Int)]∧k.four=true∧k.ok n∧j≤100000∧Q (.tup [.int (sF k n j (.i t)),(sC k n j (.i t)).dt])
def jd (A:Adr):DSp:=fun ds Q=>∃ n d m j,ds=[wZ A .pairs n,d,.int ((j:Nat):Int)]∧sH d=some m∧Kd.pairs.ok n∧Q (.tup [.int (sF .pairs n j m),(sC .pairs n j m).dt])
def pX (A:Adr) (k:Kd):DSp:=fun ds Q=>∃ n m j,ds=[wZ A k n,Nm.dt m,.int ((j:Nat):Int)]∧m.ty k∧k.ok n∧j≤100000∧Q (.tup [.int (sF k n j m),(sC k n j m).dt])
theorem eN (k:Kd):(("split":Str) == k.fld)=false:=by cases k <;> decide +kernel
theorem eO (k:Kd):(("ratio":Str) == k.fld)=false:=by cases k <;> decide +kernel
theorem rP (k:Kd):(("nought":Str) == k.fld)=false:=by cases k <;> decide +kernel
def d7 (A:Adr):DSp:=fun ds Q=>∃ k n,ds=[wZ A k n]∧k.ok n∧Q (.int (k.far n))
def je (A:Adr):z5:=fun ds Q R=>∃ k n,ds=[wZ A k n]∧((k.one=true∧Q .non)∨(k.one=false∧R A.NoRatio))
def d4 (A:Adr):z5:=fun ds Q R=>∃ k n lo hi,ds=[wZ A k n,.int lo,.int hi]∧k.ok n∧((uG k n lo hi∧Q .non)∨(¬ uG k n lo hi∧R A.NoSpan))
def jo (A:Adr):DSp:=fun ds Q=>∃ k n lo hi,ds=[wZ A k n,.int lo,.int hi]∧k.one=true∧k.ok n∧uG k n lo hi∧∀ L R,Mach k n lo hi L R→Q (.tup [.lst (L.map Nm.dt),.lst (R.map mDt)])
def p8 (P:Program) (w:World) (K:PySem.W.Frag):DSp:=fun ds Q=>∃ (k:Kd) (R:List MR),ds=[.lst (R.map mDt)]∧(∀ r∈R,r.1.ty k)∧(R.map fun r=>zV r.1 r.2.1).Nodup∧R.length≤16000000∧Q (.opq (o4 (yM P w K k.mdl (R.map yJ))))
def qZ (P:Program) (w:World) (K:PySem.W.Frag) (A:Adr):z5:=fun ds Q R=>∃ k n lo hi,ds=[wZ A k n,.int lo,.int hi]∧k.ok n∧((k.one=false∧R A.NoRatio)∨(k.one=true∧¬ uG k n lo hi∧R A.NoSpan)∨(k.one=true∧uG k n lo hi∧∀ L Rw,Mach k n lo hi L Rw→Q (.tup [.lst (L.map Nm.dt),.lst (Rw.map mDt),.opq (o4 (yM P w K k.mdl (Rw.map yJ)))])))
def wJ (P:Program) (w:World) (K:PySem.W.Frag) (A:Adr) (k:Kd) (L:List Nm) (R:List MR):Dt:=.opq (vH K A.Machine "found" "made" "leads" (.lst (L.map Nm.dt)) (.lst (R.map mDt)) (.opq (o4 (yM P w K k.mdl (R.map yJ)))))
def jh (P:Program) (w:World) (K:PySem.W.Frag) (A:Adr):DSp:=fun ds Q=>∃ k L R,ds=[wJ P w K A k L R]∧R.length≤100000∧Q (.lst (R.map mDt))
theorem dS {K:PySem.W.Frag} {mg:Str→Option Value} {A:Adr} (T:Txt K mg A) (k:Kd):x9 K (A.at k):=by
 cases k
 ·exact T.Sn
 ·exact T.So
 ·exact T.Sq
 ·exact T.Sr
 ·exact T.Ss
 ·exact T.Su
theorem WF {K:PySem.W.Frag} {mg:Str→Option Value} {A:Adr} (T:Txt K mg A) (k:Kd):PySem.W.kitOne K (.ref (A.at k)) (.ref A.Growing)=some (match k with | .growing=>true | _=>false):=by
 cases k
 ·exact T.VC
 ·exact T.VF
 ·exact T.VI
 ·exact T.VM
 ·exact T.VP
 ·exact T.VS
theorem WG {K:PySem.W.Frag} {mg:Str→Option Value} {A:Adr} (T:Txt K mg A) (k:Kd):PySem.W.kitOne K (.ref (A.at k)) (.ref A.Falling)=some (match k with | .falling=>true | _=>false):=by
 cases k
 ·exact T.VD
 ·exact T.VG
 ·exact T.VJ
 ·exact T.VN
 ·exact T.VQ
 ·exact T.VT
theorem WE {K:PySem.W.Frag} {mg:Str→Option Value} {A:Adr} (T:Txt K mg A) (k:Kd):PySem.W.kitOne K (.ref (A.at k)) (.ref A.Pairs)=some (match k with | .pairs=>true | _=>false):=by
 cases k
 ·exact T.VB
 ·exact T.VE
 ·exact T.VH
 ·exact T.VL
 ·exact T.VO
 ·exact T.VR
def s8 (P:Program) (w:World) (K:PySem.W.Frag) (A:Adr):z5:=fun ds Q E=>∃ k n lo hi L R,∃ ts:List Int,ds=[wJ P w K A k L R,yO ts]∧Mach k n lo hi L R∧ts.length≤1000∧(((∀ t∈ts,lo≤t∧t≤hi)∧Q (.tup [yO (mgF k n k.zero ts),(mgC k n k.zero ts).dt]))∨(¬ (∀ t∈ts,lo≤t∧t≤hi)∧E A.NoTotal))
def jb (A:Adr):DSp:=fun ds Q=>∃ k n,ds=[.str (Kd.nam k),.int n]∧k.one=true∧k.ok n∧Q (wZ A k n)
theorem qA (c:Nm):okE 40 c.dt=true:=by cases c <;> rfl
theorem cr {k:Kd} {n:Int} {c:Nm} {t:Int} (h1:k.one=true) (hn:k.ok n) (hc:c.ty k):c.add (.i t)=((k.ratN n 0).mul (mNx k n c t)).add (.i (mFg k n c t)):=by
 have hty:=xp (t:=.i t) hc (fun _=>⟨t,rfl⟩)
 obtain ⟨f1,f2,g1,g2⟩:=ui (j:=0) (wC h1) hn hty
 have hx:(mNx k n c t).ty k:=rg _ _ _ _
 have hm:((k.ratN n 0).mul (mNx k n c t)).ty k:=by
  generalize mNx k n c t=x at hx
  cases k <;> first | (obtain ⟨a,rfl⟩:=hx; exact ⟨_,rfl⟩) | (obtain ⟨a,b,rfl⟩:=hx; exact ⟨_,_,rfl⟩)
 refine sI hty (xp hm (fun _=>⟨_,rfl⟩)) ?_ ?_
 ·rw [wo (_:Nm) (.i (mFg k n c t)),g1]
  show _=_+mFg k n c t
  rw [Int.add_comm]
  rfl
 ·rw [wq (_:Nm) (.i (mFg k n c t)),g2]
  show _=_+0
  rw [Int.add_zero]
  rfl
theorem ZB {k:Kd} {n:Int} {c:Nm} {t:Int} (h1:k.one=true) (hn:k.ok n) (hc:c.ty k):k.low n 0≤mFg k n c t∧mFg k n c t≤k.high n 0:=by
 obtain ⟨f1,f2,_,_⟩:=ui (j:=0) (wC h1) hn (xp (t:=.i t) hc (fun _=>⟨t,rfl⟩))
 exact ⟨f1,f2⟩
def d8 (P:Program) (w:World) (K:PySem.W.Frag) (A:Adr):DSp:=fun ds Q=>∃ k n lo hi L R,∃ ts:List Int,ds=[.str (Kd.nam k),wJ P w K A k L R,yO ts]∧Mach k n lo hi L R∧R.length≤100000∧ts.length≤1000∧(∀ t∈ts,lo≤t∧t≤hi)∧Q (.tup [yO (mgF k n k.zero ts),(mgC k n k.zero ts).dt])
def ji (P:Program) (w:World) (K:PySem.W.Frag) (A:Adr):DSp:=fun ds Q=>∃ k n lo hi L R,∃ ts:List Int,ds=[wJ P w K A k L R,yO ts]∧Mach k n lo hi L R∧ts.length≤1000∧¬ (∀ t∈ts,lo≤t∧t≤hi)∧Q (.bl true)
def jf (A:Adr):DSp:=fun ds Q=>∃ C,ds=[.exc C]∧C=A.NoTotal∧Q nt
theorem tX {k:Kd} {n:Int} (h1:k.one=true):∀ (r:List Int) {l:Nm},l.ty k→(hn k n r l).ty k
 | [],_,h=>h
 | t::r,l,h=>by
  have ih:=tX (n:=n) h1 r h
  show (((k.ratN n 0).mul (hn k n r l)).add (.i t)).ty k
  refine xp ?_ (fun _=>⟨_,rfl⟩)
  generalize hn k n r l=x at ih
  cases k <;> first | (obtain ⟨a,rfl⟩:=ih; exact ⟨_,rfl⟩) | (obtain ⟨a,b,rfl⟩:=ih; exact ⟨_,_,rfl⟩)
theorem qC {k:Kd} {n:Int}:∀ (ts:List Int) {c:Nm},c.ty k→(mgC k n c ts).ty k
 | [],_,h=>h
 | _::ts,_,_=>qC ts (rg _ _ _ _)
theorem lV {k:Kd} {n:Int} (h1:k.one=true) (hn':k.ok n):∀ (ts:List Int) {c:Nm},c.ty k→∀ f∈mgF k n c ts,k.low n 0≤f∧f≤k.high n 0
 | [],_,_,_,h=>nomatch h
 | t::ts,c,hc,f,h=>by
  rcases List.mem_cons.mp h with rfl | h
  ·exact ZB h1 hn' hc
  ·exact lV h1 hn' ts (rg _ _ _ _) f h
theorem dU {k:Kd} {n:Int} (h1:k.one=true) (hn':k.ok n):∀ (ts:List Int) {c:Nm},c.ty k→hn k n (mgF k n c ts) (mgC k n c ts)=c.add (hn k n ts k.zero)
 | [],c,hc=>by
  show c=c.add k.zero
  refine sI hc (xp hc (by cases k <;> first | exact fun _=>⟨_,rfl⟩ | exact fun z=>absurd rfl z)) ?_ ?_
  ·rw [wo,q0,Int.add_zero]
  ·rw [wq,q8,Int.add_zero]
 | t::ts,c,hc=>by
  have hx:(mNx k n c t).ty k:=rg _ _ _ _
  have ih:=dU h1 hn' ts hx
  have hA:=tX (n:=n) h1 ts (yu k)
  have hB:=tX (n:=n) h1 (t::ts) (yu k)
  have hL:=tX (n:=n) h1 (mgF k n c (t::ts)) (qC (n:=n) (t::ts) hc)
  have e1:hn k n (mgF k n c (t::ts)) (mgC k n c (t::ts))=((k.ratN n 0).mul (hn k n (mgF k n (mNx k n c t) ts) (mgC k n (mNx k n c t) ts))).add (.i (mFg k n c t)):=rfl
  have e2:hn k n (t::ts) k.zero=((k.ratN n 0).mul (hn k n ts k.zero)).add (.i t):=rfl
  have rw1:=cr (t:=t) h1 hn' hc
  have g1:=congrArg Nm.re rw1
  have g2:=congrArg Nm.im rw1
  simp only [wo,wq,wG,wH] at g1 g2
  refine sI hL (xp hc (by
   by_cases hp:k=.pairs
   ·exact fun z=>absurd hp z
   ·exact fun _=>ss hp hB)) ?_ ?_
  ·rw [e1,ih,e2]
   simp only [wo,wq,wG,wH,Int.mul_add] at *
   show _+mFg k n c t=c.re+(_+t)
   have g1:c.re+t=_+mFg k n c t:=g1
   omega
  ·rw [e1,ih,e2]
   simp only [wo,wq,wG,wH,Int.mul_add] at *
   show _+(0:Int)=c.im+(_+0)
   have g2:c.im+0=_+(0:Int):=g2
   omega
theorem oh {k:Kd} {x:Nm} (h:x.ty k):k.zero.add x=x:=by
 refine sI (k:=k) ?_ h (by rw [wo,q0,Int.zero_add]) (by rw [wq,q8,Int.zero_add])
 refine xp (yu k) ?_
 by_cases hp:k=.pairs
 ·exact fun z=>absurd hp z
 ·exact fun _=>ss hp h
section
variable {P:Program} {w:World} {K:PySem.W.Frag} {mg:Str→Option Value} {base:Heap} {f:Addr} {fd:FuncData} {A:Adr}
abbrev xg:Stmt:=top 45
theorem sc_law_chosen:zi ["_law_cell","_law_name","_law_part"] ["_law_cell"] (defScope xg):=by walk_at "sc"
theorem tE (T:Txt K mg A) (F:Fun K "_law_chosen" "_law_chosen" xg f fd):FnOk P w K mg base CX0 1 f fd ["_law_cell"] (zo K (sk)):=by
 refine okD F sc_law_chosen (by walk_at "ln") fun _ _ _ _ _ _ hr ds Q h=>?_
 obtain ⟨c,rfl,q⟩:=h
 refine ⟨_,(zd (zq (i:=1) sc_law_chosen.nd rfl (Or.inl rfl) (zr (yr (zb zy (zb zy (zb zy (zb zy ze))))) (zk yS (dv 0) zc) (fun _ _=>rfl)))
 (zd (zq (i:=2) sc_law_chosen.nd rfl (Or.inl rfl) (zk xl (dv 0) zc))
 (zd (zK (zE (xr) (dv 1) zy (zB _)) (zf (zm (zu (zb (dv 1) (zb (zk zU zc (zk yS (dv 2) zc)) ze))))) zt)
 (zd (zK (zE (xr) (dv 1) zy (zB _)) (zf (zm (zu (zb (dv 1) (zb (zk zU zc (zk yS (dv 2) zc)) ze))))) zt)
 (zf (zm (zu (zb (dv 1) (zb (zk zU zc (zk yS (dv 2) zc)) ze))))))))),?_⟩
 obtain ⟨k,h1,hk⟩:=Xg c
 refine ⟨rfl,_,rfl,_,_,rfl,rfl,kY (by decide),_,_,_,rfl,rfl,hk,?_⟩
 have b0:=Int.fmod_nonneg_of_pos (c.fdiv 4) (show (0:Int)<59 by decide)
 have b1:=Int.fmod_lt_of_pos (c.fdiv 4) (show (0:Int)<59 by decide)
 have c0:=Int.fmod_nonneg_of_pos (c.fdiv 4) (show (0:Int)<30 by decide)
 have c1:=Int.fmod_lt_of_pos (c.fdiv 4) (show (0:Int)<30 by decide)
 have d0:=Int.fmod_nonneg_of_pos (c.fdiv 4) (show (0:Int)<9 by decide)
 have d1:=Int.fmod_lt_of_pos (c.fdiv 4) (show (0:Int)<9 by decide)
 cases k
 ·walk_at "rd"
  exact q .plain _ rfl ⟨by show (2:Int)≤_; omega,by show _≤(60:Int); omega⟩
 ·walk_at "rd"
  exact q .below _ rfl ⟨by show (2:Int)≤_; omega,by show _≤(60:Int); omega⟩
 ·walk_at "rd"
  exact q .balanced _ rfl ⟨by show (1:Int)≤_; omega,by show _≤(30:Int); omega⟩
 ·cases h1
 ·cases h1
 ·walk_at "rd"
  exact q .pairs _ rfl ⟨by show (1:Int)≤_; omega,by show _≤(9:Int); omega⟩
abbrev yU:Stmt:=top 38
theorem uk:zi ["_law_script","_law_k"] ["_law_script","_law_k"] (defScope yU):=by walk_at "sc"
theorem uu (T:Txt K mg A) (F:Fun K "_law_cell_at" "_law_cell_at" yU f fd):FnOk P w K mg base CX0 1 f fd ["_law_script","_law_k"] (zo K (jn)):=by
 refine okD F uk (by walk_at "ln") fun _ _ _ _ _ _ hr ds Q h=>?_
 obtain ⟨ns,k,rfl,hk,q⟩:=h
 refine ⟨_,(zd (zK (zE (oB) (dv 1) (wn rfl T.len (dv 0)) (zB _)) (zf (zm (zr (dv 0) (dv 1) (fun _ _=>rfl)))) zt)
 (zf (zm zc))),?_⟩
 walk_at "rd"
 refine WK (fun hlt=>?_) (fun _=>q 0)
 have hlt:k<(ns.map Dt.int).length:=of_decide_eq_true hlt
 rw [List.length_map] at hlt
 exact ⟨_,rfl,_,rfl,_,_,_,rfl,rfl,dF hk hlt,q _⟩
abbrev wa:Stmt:=top 46
theorem sc_law_span:zi ["_law_name","_law_number","_law_cell","_law_most"] ["_law_name","_law_number","_law_cell"] (defScope wa):=by walk_at "sc"
theorem rn (T:Txt K mg A) (F:Fun K "_law_span" "_law_span" wa f fd):FnOk P w K mg base CX0 1 f fd ["_law_name","_law_number","_law_cell"] (zo K (pY)):=by
 refine okD F sc_law_span (by walk_at "ln") fun _ _ _ _ _ _ hr ds Q h=>?_
 obtain ⟨k,n,c,rfl,h1,hn,q⟩:=h
 refine ⟨_,(zd (zq (i:=3) sc_law_span.nd rfl (Or.inl rfl) zc)
 (kB (zK (zE (xr) (dv 0) zy (zB _)) (zf (zq (i:=3) sc_law_span.nd rfl (Or.inl rfl) (kR rfl rfl T.n_min (zb zc (zb (zk yc (zk yc zc (dv 1)) (dv 1)) ze))))) zt)
 (zf (zm (zu (zb (zk ye zc (zk yS (dv 2) (zk zU (dv 3) zc))) (zb (zk yS (zk xl (dv 2) zc) (zk zU (dv 3) zc)) ze))))))),?_⟩
 obtain ⟨b1,b2⟩:=tR hn
 have fin:∀ m:Int,2≤m→m≤9→m≤k.far n→Q (.tup [.int (0 - c.fmod (m+1)),.int ((c.fdiv 10).fmod (m+1))]):=fun m m1 m2 m3=>by
  have a0:=Int.fmod_nonneg_of_pos c (show 0<m+1 by omega)
  have a1:=Int.fmod_lt_of_pos c (show 0<m+1 by omega)
  have c0:=Int.fmod_nonneg_of_pos (c.fdiv 10) (show 0<m+1 by omega)
  have c1:=Int.fmod_lt_of_pos (c.fdiv 10) (show 0<m+1 by omega)
  exact q _ _ ⟨by omega,by omega,by omega,by omega⟩ (by omega)
 have key:∃ m:Int,2≤m∧m≤9∧m≤k.far n∧(if (k.nam == Str.ofString "pairs")=true then m=(if 2*n*n<4 then 2*n*n else 4) else m=9):=by
  by_cases hp:k=.pairs
  ·subst hp
   have e:=Int.mul_le_mul b1 b1 (by decide) (by omega)
   have e:1≤n*n:=by omega
   refine ⟨_,?_,?_,?_,ifT rfl rfl⟩
   ·rw [Int.mul_assoc]; split <;> omega
   ·split <;> omega
   ·show _≤(if 2*n*n<60 then 2*n*n else 60)
    rw [Int.mul_assoc]
    split <;> split <;> omega
  ·refine ⟨9,by decide,by decide,?_,ifF (by cases k <;> first | rfl | exact absurd rfl hp) rfl⟩
   cases k <;> first | (show (9:Int)≤60; decide) | exact absurd rfl hp
 obtain ⟨m,m1,m2,m3,hm⟩:=key
 refine ⟨fun ρ=>ρ=[.some (.str k.nam),.some (.int n),.some (.int c),.some (.int m)],?_,?_⟩
 ·refine ⟨_,rfl,_,_,rfl,rfl,_,rfl,?_⟩
  by_cases e:(k.nam == Str.ofString "pairs")=true
  ·rw [if_pos e] at hm
   refine ifT e ?_
   refine ⟨_,rfl,_,_,rfl,rfl,lU (by decide),_,rfl,_,_,rfl,rfl,small (by omega) (by omega) _,_,_,rfl,?_⟩
   rw [hm]
   rfl
  ·rw [if_neg e] at hm
   refine ifF (by cases z:(k.nam == Str.ofString "pairs") <;> first | rfl | exact absurd z e) ?_
   rw [hm]
   rfl
 ·rintro ρ rfl
  refine ⟨_,rfl,_,rfl,_,_,rfl,rfl,_,_,rfl,rfl,(show m+1≠0 by omega),_,_,rfl,rfl,?_⟩
  walk_at "rd"
  refine ⟨(show m+1≠0 by omega),rfl,?_⟩
  exact fin m m1 m2 m3
abbrev wd:Stmt:=top 16
theorem rd:zi ["value"] ["value"] (defScope wd):=by walk_at "sc"
theorem rq (T:Txt K mg A) (F:Fun K "is_whole" "is_whole" wd f fd):FnOk P w K mg base CX0 1 f fd ["value"] (zo K (wX)):=by
 refine okD F rd (by walk_at "ln") fun _ _ _ _ _ _ hr ds Q h=>?_
 obtain ⟨d,b,rfl,hw,q⟩:=h
 refine ⟨_,(zf (zm (vz (yi (T:=.int) T.kt T.isinstance T.n_int PyProof.Rows.boot_int (dv 0)) (uS (sW (yi (T:=.bool) T.kt T.isinstance T.n_bool PyProof.Rows.boot_bool (dv 0))))))),?_⟩
 cases d <;> cases hw
 all_goals
  walk_at "rd"
  exact q
abbrev vb:Stmt:=top 22
theorem qr:zi ["number","least","most"] ["number","least","most"] (defScope vb):=by walk_at "sc"
theorem qy (T:Txt K mg A) (G_is_whole:DOk P w K mg base 1 "is_whole" (wX)) (F:Fun K "bounded" "bounded" vb f fd):FnOk P w K mg base CX0 2 f fd ["number","least","most"] (zo K (xb)):=by
 refine okD F qr (by walk_at "ln") fun _ _ _ _ _ _ hr ds Q h=>?_
 obtain ⟨n,lo,hi,rfl,h1,h2,q⟩:=h
 refine ⟨_,(zd (zK (DW.dt (xu (y7 (zR (zn G_is_whole (hr.mono (by decide)) rfl (zb (dv 0) ze)))) (xu (zE (oB) (dv 0) (dv 1) (zB _)) (xI (zE (jR) (dv 0) (dv 2) (zB _)))))) (zf kH) zt)
 (zf (zm (dv 0)))),?_⟩
 walk_at "rd"
 rw [decide_eq_false (by omega:¬ n<lo)]
 walk_at "rd"
 rw [decide_eq_false (by omega:¬ hi<n)]
 walk_at "rd"
 exact q
abbrev yw:Stmt:=inClass (top 24) 0
theorem u_:zi ["self","base"] ["self","base"] (defScope yw):=by walk_at "sc"
theorem tF (T:Txt K mg A) (G_bounded:DOk P w K mg base 2 "bounded" (xb)) (F:Fun K "__init__" "Plain.__init__" yw f fd):FnOk P w K mg base CX0 3 f fd ["self","base"] (xP A.Plain "base" (Kd.ok .plain)):=by
 refine v6 F u_ T.Vs T.Tc (fun cdv A outer s H E hr=>?_)
 obtain ⟨te,p,l⟩:=((zn G_bounded (hr.mono (by decide)) rfl (zb (dv 1) (zb zc (zb zc ze)))):DE (yb CX0 P w K mg base ["self","base"] "Plain.__init__" (defScope yw) f cdv A outer s H E).nox _ _)
 refine ⟨te,_,xQ (wf (pv 0) p rfl),l,fun i hi=>?_⟩
 exact ⟨_,rfl,_,_,_,rfl,hi.1,hi.2,rfl⟩
abbrev yy:Stmt:=inClass (top 25) 0
theorem tw:zi ["self","base"] ["self","base"] (defScope yy):=by walk_at "sc"
theorem tJ (T:Txt K mg A) (G_bounded:DOk P w K mg base 2 "bounded" (xb)) (F:Fun K "__init__" "Below.__init__" yy f fd):FnOk P w K mg base CX0 3 f fd ["self","base"] (xP A.Below "base" (Kd.ok .below)):=by
 refine v6 F tw T.Vt T.Td (fun cdv A outer s H E hr=>?_)
 obtain ⟨te,p,l⟩:=((zn G_bounded (hr.mono (by decide)) rfl (zb (dv 1) (zb zc (zb zc ze)))):DE (yb CX0 P w K mg base ["self","base"] "Below.__init__" (defScope yy) f cdv A outer s H E).nox _ _)
 refine ⟨te,_,xQ (wf (pv 0) p rfl),l,fun i hi=>?_⟩
 exact ⟨_,rfl,_,_,_,rfl,hi.1,hi.2,rfl⟩
abbrev z9:Stmt:=inClass (top 26) 0
theorem w9:zi ["self","half"] ["self","half"] (defScope z9):=by walk_at "sc"
theorem vj (T:Txt K mg A) (G_bounded:DOk P w K mg base 2 "bounded" (xb)) (F:Fun K "__init__" "Balanced.__init__" z9 f fd):FnOk P w K mg base CX0 3 f fd ["self","half"] (xP A.Balanced "half" (Kd.ok .balanced)):=by
 refine v6 F w9 T.Vr T.Um (fun cdv A outer s H E hr=>?_)
 obtain ⟨te,p,l⟩:=((zn G_bounded (hr.mono (by decide)) rfl (zb (dv 1) (zb zc (zb zc ze)))):DE (yb CX0 P w K mg base ["self","half"] "Balanced.__init__" (defScope z9) f cdv A outer s H E).nox _ _)
 refine ⟨te,_,xQ (wf (pv 0) p rfl),l,fun i hi=>?_⟩
 exact ⟨_,rfl,_,_,_,rfl,hi.1,hi.2,rfl⟩
abbrev yx:Stmt:=inClass (top 29) 0
theorem tm:zi ["self","most"] ["self","most"] (defScope yx):=by walk_at "sc"
theorem tH (T:Txt K mg A) (G_bounded:DOk P w K mg base 2 "bounded" (xb)) (F:Fun K "__init__" "Pairs.__init__" yx f fd):FnOk P w K mg base CX0 3 f fd ["self","most"] (xP A.Pairs "most" (Kd.ok .pairs)):=by
 refine v6 F tm T.Vm T.Vq (fun cdv A outer s H E hr=>?_)
 obtain ⟨te,p,l⟩:=((zn G_bounded (hr.mono (by decide)) rfl (zb (dv 1) (zb zc (zb zc ze)))):DE (yb CX0 P w K mg base ["self","most"] "Pairs.__init__" (defScope yx) f cdv A outer s H E).nox _ _)
 refine ⟨te,_,xQ (wf (pv 0) p rfl),l,fun i hi=>?_⟩
 exact ⟨_,rfl,_,_,_,rfl,hi.1,hi.2,rfl⟩
abbrev va:Stmt:=top 44
theorem qp:zi ["_law_name","_law_number"] ["_law_name","_law_number"] (defScope va):=by walk_at "sc"
theorem qx (T:Txt K mg A) (Te:KOk P w K mg base 3 "Plain" A.Plain "base" (Kd.ok .plain)) (Tf:KOk P w K mg base 3 "Below" A.Below "base" (Kd.ok .below)) (Tg:KOk P w K mg base 3 "Balanced" A.Balanced "half" (Kd.ok .balanced)) (Th:KOk P w K mg base 3 "Pairs" A.Pairs "most" (Kd.ok .pairs)) (F:Fun K "_law_way" "_law_way" va f fd):FnOk P w K mg base CX0 5 f fd ["_law_name","_law_number"] (zo K (jb A)):=by
 refine okD F qp (by walk_at "ln") fun _ _ _ _ _ _ hr ds Q h=>?_
 obtain ⟨k,n,rfl,h1,hn,q⟩:=h
 refine ⟨_,(zd (zK (zE (xr) (dv 0) zy (zB _)) (zf (zm (ud Te (hr.mono (by decide)) rfl (zb (dv 1) ze)))) zt)
 (zd (zK (zE (xr) (dv 0) zy (zB _)) (zf (zm (ud Tf (hr.mono (by decide)) rfl (zb (dv 1) ze)))) zt)
 (zd (zK (zE (xr) (dv 0) zy (zB _)) (zf (zm (ud Tg (hr.mono (by decide)) rfl (zb (dv 1) ze)))) zt)
 (zf (zm (ud Th (hr.mono (by decide)) rfl (zb (dv 1) ze))))))),?_⟩
 cases k <;> try cases h1
 all_goals
  walk_at "rd"
  exact ⟨hn,q⟩
abbrev yl:Stmt:=top 43
theorem w4:zi ["_law_name","_law_thing"] ["_law_name","_law_thing"] (defScope yl):=by walk_at "sc"
theorem vg (T:Txt K mg A) (F:Fun K "_law_is_number" "_law_is_number" yl f fd):FnOk P w K mg base CX0 1 f fd ["_law_name","_law_thing"] (zo K (jk)):=by
 refine okD F w4 (by walk_at "ln") fun _ _ _ _ _ _ hr ds Q h=>?_
 obtain ⟨k,c,rfl,hc,q⟩:=h
 refine ⟨_,(zd (zK (zE (YG) (dv 0) zy (zB _)) (zf (zm (vz (yi (T:=.int) T.kt T.isinstance T.n_int PyProof.Rows.boot_int (dv 1)) (uS (sW (yi (T:=.bool) T.kt T.isinstance T.n_bool PyProof.Rows.boot_bool (dv 1))))))) zt)
 (zd (zK (DW.dt (xu (y7 (zR (yi (T:=.tuple) T.kt T.isinstance T.n_tuple PyProof.Rows.boot_tuple (dv 1)))) (xI (zE (oA hr) (wn rfl T.len (dv 1)) zc (zB _))))) (zf (zm x6)) zt)
 (zf (zm (vz (yi (T:=.int) T.kt T.isinstance T.n_int PyProof.Rows.boot_int (zr (dv 1) zc (fun _ _=>rfl))) (vz (yi (T:=.int) T.kt T.isinstance T.n_int PyProof.Rows.boot_int (zr (dv 1) zc (fun _ _=>rfl))) (uS (sW (yi (T:=.bool) T.kt T.isinstance T.n_bool PyProof.Rows.boot_bool (zr (dv 1) zc (fun _ _=>rfl))))))))))),?_⟩
 by_cases hp:k=.pairs
 ·subst hp
  obtain ⟨a,b,rfl⟩:=hc
  walk_at "rd"
  exact q
 ·obtain ⟨a,rfl⟩:=ss hp hc
  have e:(Kd.nam k == Str.ofString "pairs")=false:=by cases k <;> first | rfl | exact absurd rfl hp
  refine ⟨_,rfl,_,_,rfl,rfl,_,rfl,ifT (by rw [e]; rfl) ?_⟩
  walk_at "rd"
  exact q
abbrev ym:Stmt:=top 41
theorem w6:zi ["_law_name","_law_number","_law_figure"] ["_law_name","_law_number","_law_figure"] (defScope ym):=by walk_at "sc"
theorem vh (T:Txt K mg A) (F:Fun K "_law_is_figure" "_law_is_figure" ym f fd):FnOk P w K mg base CX0 1 f fd ["_law_name","_law_number","_law_figure"] (zo K (jl)):=by
 refine okD F w6 (by walk_at "ln") fun _ _ _ _ _ _ hr ds Q h=>?_
 obtain ⟨k,n,f,rfl,h1,hn,f1,f2,q⟩:=h
 refine ⟨_,(zd (zK (DW.dt (xu (y7 (zR (yi (T:=.int) T.kt T.isinstance T.n_int PyProof.Rows.boot_int (dv 2)))) (xI (zR (yi (T:=.bool) T.kt T.isinstance T.n_bool PyProof.Rows.boot_bool (dv 2)))))) (zf (zm x6)) zt)
 (zd (zK (zE (xr) (dv 0) zy (zB _)) (zf (zm (uT (nN) (nN) (zk ye zc (dv 1)) (dv 2) (dv 1)))) zt)
 (zd (zK (zE (xr) (dv 0) zy (zB _)) (zf (zm (uT (nN) (nN) zc (dv 2) (zk yc (dv 1) (dv 1))))) zt)
 (zf (zm (uT (nN) (oB) zc (dv 2) (dv 1))))))),?_⟩
 obtain ⟨b1,b2⟩:=tR hn
 cases k
 ·have f1:0≤f:=f1
  have f2:f≤n - 1:=f2
  have q:Q (.bl (decide (f<n))):=by rw [decide_eq_true (by omega:f<n)]; exact q
  walk_at "rd"
  refine ifT (decide_eq_true f1) ?_
  walk_at "rd"
  exact q
 ·have f1:0≤f:=f1
  have f2:f≤n - 1:=f2
  have q:Q (.bl (decide (f<n))):=by rw [decide_eq_true (by omega:f<n)]; exact q
  walk_at "rd"
  refine ifT (decide_eq_true f1) ?_
  walk_at "rd"
  exact q
 ·have f1:-n≤f:=f1
  have f2:f≤n:=f2
  have q:Q (.bl (decide (f≤n))):=by rw [decide_eq_true f2]; exact q
  walk_at "rd"
  refine ifT (decide_eq_true (by omega)) ?_
  walk_at "rd"
  exact q
 ·cases h1
 ·cases h1
 ·have f1:0≤f:=f1
  have f2:f≤n*n:=f2
  have q:Q (.bl (decide (f≤n*n))):=by rw [decide_eq_true f2]; exact q
  walk_at "rd"
  refine ifT (decide_eq_true f1) ?_
  walk_at "rd"
  refine ⟨small (by omega) (by omega) _,?_⟩
  walk_at "rd"
  exact q
abbrev xy:Stmt:=top 39
theorem sw:zi ["_law_one","_law_other"] ["_law_one","_law_other"] (defScope xy):=by walk_at "sc"
theorem sG (T:Txt K mg A) (F:Fun K "_law_added" "_law_added" xy f fd):FnOk P w K mg base CX0 1 f fd ["_law_one","_law_other"] (zo K (jm)):=by
 refine okD F sw (by walk_at "ln") fun _ _ _ _ _ _ hr ds Q h=>?_
 obtain ⟨c,t,rfl,q⟩:=h
 refine ⟨_,(zd (zK (y7 (zR (yi (T:=.tuple) T.kt T.isinstance T.n_tuple PyProof.Rows.boot_tuple (dv 0)))) (zf (zm (zk zU (dv 0) (dv 1)))) zt)
 (zf (zm (zu (zb (zk zU (zr (dv 0) zc (fun _ _=>rfl)) (dv 1)) (zb (zr (dv 0) zc (fun _ _=>rfl)) ze)))))),?_⟩
 cases c with
 | i a=>
  walk_at "rd"
  exact q
 | p a b=>
  have q:Q (.tup [.int (a+t),.int (b+0)]):=q
  rw [Int.add_zero] at q
  walk_at "rd"
  exact q
abbrev xx:Stmt:=top 40
theorem sv:zi ["_law_name","_law_number","_law_carry"] ["_law_name","_law_number","_law_carry"] (defScope xx):=by walk_at "sc"
theorem sD (T:Txt K mg A) (F:Fun K "_law_times" "_law_times" xx f fd):FnOk P w K mg base CX0 1 f fd ["_law_name","_law_number","_law_carry"] (zo K (qd)):=by
 refine okD F sv (by walk_at "ln") fun _ _ _ _ _ _ hr ds Q h=>?_
 obtain ⟨k,n,c,rfl,h1,hn,hc,q⟩:=h
 refine ⟨_,(zd (zK (zE (xr) (dv 0) zy (zB _)) (zf (zm (zk yc (dv 1) (dv 2)))) zt)
 (zd (zK (zE (xr) (dv 0) zy (zB _)) (zf (zm (zk ye zc (zk yc (dv 1) (dv 2))))) zt)
 (zd (zK (zE (xr) (dv 0) zy (zB _)) (zf (zm (zk yc (zk zU (zk yc zc (dv 1)) zc) (dv 2)))) zt)
 (zf (zm (zu (zb (zk ye (zk ye zc (zk yc (dv 1) (zr (dv 2) zc (fun _ _=>rfl)))) (zr (dv 2) zc (fun _ _=>rfl))) (zb (zk ye (zr (dv 2) zc (fun _ _=>rfl)) (zk yc (dv 1) (zr (dv 2) zc (fun _ _=>rfl)))) ze)))))))),?_⟩
 obtain ⟨b1,b2⟩:=tR hn
 have sm:=fun z=>ql (n:=n) (by omega) (by omega) z
 have sm2:=fun z=>ql (n:=2*n+1) (by omega) (by omega) z
 cases k
 ·obtain ⟨a,rfl⟩:=hc
  walk_at "rd"
  exact ⟨sm _,q⟩
 ·obtain ⟨a,rfl⟩:=hc
  walk_at "rd"
  refine ⟨sm _,_,_,rfl,rfl,?_⟩
  have q:Q (.int (-n*a)):=q
  rw [Int.neg_mul] at q
  dsimp only
  rw [Int.zero_sub]
  exact q
 ·obtain ⟨a,rfl⟩:=hc
  walk_at "rd"
  exact ⟨sm2 _,q⟩
 ·cases h1
 ·cases h1
 ·obtain ⟨a,b,rfl⟩:=hc
  have q:Q (.tup [.int (-n*a - 1*b),.int (-n*b+1*a)]):=q
  have e1:-n*a - 1*b=0 - n*a - b:=by rw [Int.neg_mul]; omega
  have e2:-n*b+1*a=a - n*b:=by rw [Int.neg_mul]; omega
  rw [e1,e2] at q
  walk_at "rd"
  refine ⟨sm _,?_⟩
  walk_at "rd"
  refine ⟨sm _,?_⟩
  walk_at "rd"
  exact q
abbrev wc:Stmt:=top 48
theorem sc_law_high:zi ["_law_name","_law_number","_law_row","_law_last","_law_found","_law_k"] ["_law_name","_law_number","_law_row","_law_last"] (defScope wc):=by walk_at "sc"
theorem rp (T:Txt K mg A) (G__law_added:DOk P w K mg base 1 "_law_added" (jm)) (G__law_times:DOk P w K mg base 1 "_law_times" (qd)) (F:Fun K "_law_high" "_law_high" wc f fd):FnOk P w K mg base CX0 2 f fd ["_law_name","_law_number","_law_row","_law_last"] (zo K (p7)):=by
 refine okD F sc_law_high (by walk_at "ln") fun _ _ _ _ _ _ hr ds Q h=>?_
 obtain ⟨k,n,r,l,rfl,h1,hn',hty,hl,q⟩:=h
 refine ⟨_,(zd (zq (i:=4) sc_law_high.nd rfl (Or.inl rfl) (dv 3))
 (zd (eX (j:=5) rfl sc_law_high.nd rfl (Or.inl rfl) PassesOwn.never rfl T.range (zb (zk ye (wn rfl T.len (dv 2)) zc) (zb (xK zc) (zb (xK zc) ze))) (zf (zq (i:=4) sc_law_high.nd rfl (Or.inl rfl) (zn G__law_added (hr.mono (by decide)) rfl (zb (zn G__law_times (hr.mono (by decide)) rfl (zb (dv 0) (zb (dv 1) (zb (dv 4) ze)))) (zb (zr (dv 2) (dv 5) (fun _ _=>rfl)) ze))))))
 (zf (zm (dv 4))))),?_⟩
 have lr:(r.map Dt.int).length=r.length:=List.length_map _
 refine ⟨_,rfl,_,rfl,_,rfl,_,_,rfl,rfl,_,rfl,_,rfl,_,_,fun i ρ=>∃ v5,ρ=[.some (.str k.nam),.some (.int n),.some (yO r),.some l.dt,.some (hn k n (r.drop (r.length - i)) l).dt,v5],rfl,by omega,by omega,by decide,by decide,⟨.none,?_⟩,?_,?_⟩
 ·rw [Nat.sub_zero,List.drop_length]; rfl
 ·rintro i ρ' hi ⟨v5,rfl⟩
  have hi:i<r.length:=by omega
  have e1:((r.map Dt.int).length:Int) - 1 - i=((r.length - (i+1):Nat):Int):=by omega
  dsimp only
  rw [e1]
  obtain ⟨t,ht⟩:∃ t,r[r.length - (i+1)]? = some t:=⟨_,List.getElem?_eq_getElem (by omega)⟩
  have e2:r.drop (r.length - (i+1))=t::r.drop (r.length - i):=by
   rw [List.drop_eq_getElem_cons (by omega:r.length - (i+1)<r.length),show r.length - (i+1)+1=r.length - i by omega]
   rw [List.getElem?_eq_getElem (by omega:r.length - (i+1)<r.length)] at ht
   rw [Option.some.inj ht]
  have hat:(r.map Dt.int)[r.length - (i+1)]? = some (.int t):=by rw [List.getElem?_map,ht]; rfl
  refine ⟨_,rfl,_,rfl,_,rfl,k,n,_,rfl,h1,hn',tX h1 _ hty,_,rfl,_,rfl,_,_,_,rfl,rfl,uf hat,_,_,rfl,.some (.int ((r.length - (i+1):Nat):Int)),?_⟩
  rw [e2]
  rfl
 ·rintro ρ' ⟨v5,rfl⟩
  have e:(((r.map Dt.int).length:Int) - 1 - -1).toNat=r.length:=by omega
  dsimp only at *
  rw [e,Nat.sub_self,List.drop_zero]
  exact ⟨_,rfl,q⟩
abbrev xf:Stmt:=top 42
theorem uY:zi ["_law_name"] ["_law_name"] (defScope xf):=by walk_at "sc"
theorem tD (T:Txt K mg A) (F:Fun K "_law_nought" "_law_nought" xf f fd):FnOk P w K mg base CX0 1 f fd ["_law_name"] (zo K (pZ)):=by
 refine okD F uY (by walk_at "ln") fun _ _ _ _ _ _ hr ds Q h=>?_
 obtain ⟨k,rfl,q⟩:=h
 refine ⟨_,(zd (zK (zE (xr) (dv 0) zy (zB _)) (zf (zm (zu (zb zc (zb zc ze))))) zt)
 (zf (zm zc))),?_⟩
 cases k
 all_goals
  walk_at "rd"
  exact q
abbrev wb:Stmt:=top 49
theorem sc_law_read:zi ["_law_name","_law_number","_law_found","_law_totals","_law_figure","_law_worth_of"] ["_law_name","_law_number","_law_found","_law_totals"] (defScope wb):=by walk_at "sc"
theorem ro (T:Txt K mg A) (G__law_is_number:DOk P w K mg base 1 "_law_is_number" (jk)) (G__law_is_figure:DOk P w K mg base 1 "_law_is_figure" (jl)) (G__law_high:DOk P w K mg base 2 "_law_high" (p7)) (G__law_nought:DOk P w K mg base 1 "_law_nought" (pZ)) (F:Fun K "_law_read" "_law_read" wb f fd):FnOk P w K mg base CX0 3 f fd ["_law_name","_law_number","_law_found","_law_totals"] (zo K (d6)):=by
 refine okD F sc_law_read (by walk_at "ln") fun _ _ _ _ _ _ hr ds Q h=>?_
 obtain ⟨k,n,ts,rfl,h1,hn',hl,q⟩:=h
 refine ⟨_,(zd (zK (DW.dt (xu (y7 (zR (yi (T:=.tuple) T.kt T.isinstance T.n_tuple PyProof.Rows.boot_tuple (dv 2)))) (xu (zE (oA hr) (wn rfl T.len (dv 2)) zc (zB _)) (xI (y7 (zR (yi (T:=.list) T.kt T.isinstance T.n_list PyProof.Rows.boot_list (zr (dv 2) zc (fun _ _=>rfl))))))))) (zf (zm x6)) zt)
 (zd (zK (DW.dt (xu (zE (oA hr) (wn rfl T.len (zr (dv 2) zc (fun _ _=>rfl))) (wn rfl T.len (dv 3)) (zB _)) (xI (y7 (zR (zn G__law_is_number (hr.mono (by decide)) rfl (zb (dv 0) (zb (zr (dv 2) zc (fun _ _=>rfl)) ze)))))))) (zf (zm x6)) zt)
 (zd (uP (j:=4) rfl sc_law_read.nd rfl (Or.inl rfl) PassesOwn.never (zr (dv 2) zc (fun _ _=>rfl)) (zf (zK (y7 (zR (zn G__law_is_figure (hr.mono (by decide)) rfl (zb (dv 0) (zb (dv 1) (zb (dv 4) ze)))))) (zf (zm x6)) zt)))
 (zd (zq (i:=5) sc_law_read.nd rfl (Or.inl rfl) (zn G__law_high (hr.mono (by decide)) rfl (zb (dv 0) (zb (dv 1) (zb (dv 3) (zb (zn G__law_nought (hr.mono (by decide)) rfl (zb (dv 0) ze)) ze))))))
 (zf (zm (sY (jS hr) (dv 5) (zn G__law_high (hr.mono (by decide)) rfl (zb (dv 0) (zb (dv 1) (zb (zr (dv 2) zc (fun _ _=>rfl)) (zb (zr (dv 2) zc (fun _ _=>rfl)) ze))))) (zB _)))))))),?_⟩
 have hC:=qC (n:=n) ts (yu k)
 have hF:=lV h1 hn' ts (yu k)
 have lF:=wI k n ts k.zero
 have eh:=dU h1 hn' ts (yu k)
 rw [oh (tX h1 ts (yu k))] at eh
 generalize mgC k n k.zero ts=c at *
 generalize mgF k n k.zero ts=fs at *
 have e1:eqD (.int ((fs.map Dt.int).length:Int)) (.int ((ts.map Dt.int).length:Int))=true:=by
  refine eqI ?_
  rw [List.length_map,List.length_map,lF]
 walk_at "rd"
 refine ifF (nT e1) ?_
 refine ⟨_,rfl,_,rfl,_,_,_,rfl,rfl,rfl,k,c,rfl,hC,_,rfl,ifF rfl ?_⟩
 refine ⟨_,rfl,_,_,_,rfl,rfl,rfl,_,fun i ρ=>∃ v,ρ=[.some (.str k.nam),.some (.int n),.some (.tup [yO fs,c.dt]),.some (yO ts),v,.none],rfl,⟨_,rfl⟩,?_,?_⟩
 ·rintro i e ρ' he ⟨v,rfl⟩
  rw [List.getElem?_map] at he
  obtain ⟨f',hf',rfl⟩:=Option.map_eq_some_iff.mp he
  obtain ⟨f1,f2⟩:=hF f' (List.mem_of_getElem? hf')
  exact ⟨_,rfl,_,rfl,_,rfl,k,n,f',rfl,h1,hn',f1,f2,_,rfl,ifF rfl ⟨_,rfl⟩⟩
 ·rintro ρ' ⟨v,rfl⟩
  refine ⟨_,rfl,_,rfl,_,rfl,_,rfl,k,rfl,k,n,ts,k.zero,rfl,h1,hn',yu k,hl,?_⟩
  refine ⟨_,rfl,_,rfl,_,rfl,_,rfl,_,_,_,rfl,rfl,rfl,_,rfl,_,_,_,rfl,rfl,rfl,k,n,fs,c,rfl,h1,hn',hC,by omega,qA _,qA _,?_⟩
  have e3:eqD (hn k n ts k.zero).dt (hn k n fs c).dt=true:=by rw [eh]; exact xa 40 (qA _)
  exact e3.symm ▸ q
abbrev yC:Stmt:=inClass (top 36) 2
theorem vM:zi ["self"] ["self"] (defScope yC):=by walk_at "sc"
theorem vR (T:Txt K mg A) (F:Fun K "rows" "Machine.rows" yC f fd):FnOk P w K mg base CX0 1 f fd ["self"] (xZ K (jh P w K A)):=by
 refine okF F vM (by walk_at "ln") fun _ _ _ _ _ _ hr ds Q h=>?_
 obtain ⟨k,L,R,rfl,hl,q⟩:=h
 refine ⟨_,(zf (eV (sV rfl T.n_list (sX (C:=A.Machine) (f1:="found") (f2:="made") (f3:="leads") (j:=1) (dv 0))))),?_⟩
 exact ⟨_,rfl,_,_,_,rfl,T.cl_Machine,T.na_Machine_made,_,rfl,rfl,by decide,by decide,by decide,_,rfl,q⟩
abbrev yV:Stmt:=top 47
theorem sc_law_by_rows:zi ["_law_name","_law_machine","_law_totals","_law_table","_law_row","_law_carry","_law_figures","_law_total","_law_figure"] ["_law_name","_law_machine","_law_totals"] (defScope yV):=by walk_at "sc"
theorem uv (T:Txt K mg A) (G__law_nought:DOk P w K mg base 1 "_law_nought" (pZ)) (HMr:FMOk P w K mg base 1 A.Machine "rows" (jh P w K A)) (F:Fun K "_law_by_rows" "_law_by_rows" yV f fd):FnOk P w K mg base CX0 2 f fd ["_law_name","_law_machine","_law_totals"] (zo K (d8 P w K A)):=by
 refine okD F sc_law_by_rows (by walk_at "ln") fun _ _ _ _ _ _ hr ds Q h=>?_
 obtain ⟨k,n,lo,hi,L,R,ts,rfl,M,hR,hl,ht,q⟩:=h
 refine ⟨_,(zd (kJ (i:=3) sc_law_by_rows.nd rfl (Or.inl rfl))
 (zd (uP (j:=4) rfl sc_law_by_rows.nd rfl (Or.inl rfl) PassesOwn.never (DF.de (o7 hr (dv 1))) (zf (sS 3 hr.u9 (zu (zb (zr (dv 4) zc (fun _ _=>rfl)) (zb (zr (dv 4) zc (fun _ _=>rfl)) ze))) (zu (zb (zr (dv 4) zc (fun _ _=>rfl)) (zb (zr (dv 4) zc (fun _ _=>rfl)) ze))))))
 (zd (zq (i:=5) sc_law_by_rows.nd rfl (Or.inl rfl) (zn G__law_nought (hr.mono (by decide)) rfl (zb (dv 0) ze)))
 (zd (wS (i:=6) sc_law_by_rows.nd rfl (Or.inl rfl) (sU ze))
 (zd (uP (j:=7) rfl sc_law_by_rows.nd rfl (Or.inl rfl) PassesOwn.never (dv 2) (zd (qU (i:=8) (j:=5) rfl sc_law_by_rows.nd rfl rfl (Or.inl rfl) (Or.inl rfl) (ZM 3 hr.u9 (zu (zb (dv 5) (zb (dv 7) ze))) (fun _ _=>rfl)))
 (zf (qV 6 (dv 8)))))
 (eQ 6 (zf (zm (zu (zb (dv 6) (zb (dv 5) ze))))))))))),?_⟩
 obtain ⟨b,eb⟩:∃ b:Bool,(if b=true then KM.mp else KM.mn)=k.mdl:=by
  cases k <;> first | exact ⟨true,rfl⟩ | exact ⟨false,rfl⟩
 refine ⟨rfl,b,?_⟩
 rw [eb]
 refine ⟨_,rfl,A.Machine,"found","made","leads",_,_,_,_,rfl,⟨rfl,rfl,rfl⟩,HMr.mono (by decide),k,L,R,rfl,hR,_,fun i ρ=>∃ v,ρ=[.some (.str k.nam),.some (wJ P w K A k L R),.some (yO ts),.obj (yM P w K k.mdl ((R.take i).map yJ)),v,.none,.none,.none,.none],rfl,⟨_,rfl⟩,?_,?_⟩
 ·rintro i e ρ' he ⟨v,rfl⟩
  rw [List.getElem?_map] at he
  obtain ⟨r,hr,rfl⟩:=Option.map_eq_some_iff.mp he
  refine ⟨_,_,rfl,_,rfl,_,_,_,rfl,rfl,rfl,_,rfl,_,_,_,rfl,rfl,rfl,rfl,_,rfl,_,_,_,rfl,rfl,rfl,_,rfl,_,_,_,rfl,rfl,rfl,rfl,zV r.1 r.2.1,wL _ _,wK _ (M.ty r (List.mem_of_getElem? hr)),rE M.knd hr,by rw [List.length_map,List.length_take]; omega,?_⟩
  have e:(R.take (i+1)).map yJ=(R.take i).map yJ++[yJ r]:=by rw [List.take_succ,hr,List.map_append]; rfl
  refine ⟨.some (mDt r),?_⟩
  rw [e]
  rfl
 rintro ρ' ⟨v,rfl⟩
 rw [List.length_map,List.take_length]
 refine ⟨_,rfl,k,rfl,rfl,_,rfl,?_⟩
 refine ⟨_,rfl,_,fun i ρ=>∃ v7 v8,ρ=[.some (.str k.nam),.some (wJ P w K A k L R),.some (yO ts),.obj (yM P w K k.mdl (R.map yJ)),v,.some (mgC k n k.zero (ts.take i)).dt,.own ((mgF k n k.zero (ts.take i)).map Dt.int),v7,v8],rfl,⟨_,_,rfl⟩,?_,?_⟩
 ·rintro i e ρ' he ⟨v7,v8,rfl⟩
  rw [List.getElem?_map] at he
  obtain ⟨t,hti,rfl⟩:=Option.map_eq_some_iff.mp he
  have hc:mgC k n k.zero (ts.take i)∈L:=M.go _ _ M.zero fun u hu=>ht u (List.mem_of_mem_take hu)
  have hty:=wl (M.bd _ hc)
  have hb:=ht t (List.mem_of_getElem? hti)
  have et:ts.take (i+1)=ts.take i++[t]:=by rw [List.take_succ,hti]; rfl
  have eC:mgC k n k.zero (ts.take (i+1))=mNx k n (mgC k n k.zero (ts.take i)) t:=by rw [et,uE]
  have eF:mgF k n k.zero (ts.take (i+1))=mgF k n k.zero (ts.take i)++[mFg k n (mgC k n k.zero (ts.take i)) t]:=by rw [et,uD]
  have lF:(mgF k n k.zero (ts.take i)).length≤1000:=by rw [wI,List.length_take]; omega
  generalize mgC k n k.zero (ts.take i)=c at *
  generalize mgF k n k.zero (ts.take i)=fs at *
  refine ⟨_,_,rfl,lW k,_,rfl,_,rfl,rfl,zV c t,_,wL c t,wK t hty,M.look hc hb.1 hb.2,_,_,rfl,?_⟩
  refine ⟨_,rfl,_,rfl,by rw [List.length_map]; omega,.some (.int t),.some (.int (mFg k n c t)),?_⟩
  rw [eC,eF,List.map_append]
  rfl
 ·rintro ρ' ⟨v7,v8,rfl⟩
  rw [List.length_map,List.take_length]
  exact ⟨_,rfl,_,rfl,_,rfl,rfl,q⟩
abbrev yQ:Stmt:=top 50
theorem sc_law_names:zi ["_law_e","_law_some"] ["_law_e"] (defScope yQ):=by walk_at "sc"
theorem sE (T:Txt K mg A) (F:Fun K "_law_names" "_law_names" yQ f fd):FnOk P w K mg base CX0 1 f fd ["_law_e"] (zo K (jf A)):=by
 refine okD F sc_law_names (by walk_at "ln") fun _ _ _ _ _ _ hr ds Q h=>?_
 obtain ⟨C,rfl,rfl,q⟩:=h
 refine ⟨_,(zd (zq (i:=1) sc_law_names.nd rfl (Or.inl rfl) (yr (zb (zu (zb zy (zb (z_ T.isinstance T.Sf (dv 0)) ze))) (zb (zu (zb zy (zb (z_ T.isinstance T.Sg (dv 0)) ze))) ze))))
 (zd (zq (i:=1) sc_law_names.nd rfl (Or.inl rfl) (zk tS (dv 1) (yr (zb (zu (zb zy (zb (z_ T.isinstance T.Sw (dv 0)) ze))) (zb (zu (zb zy (zb (z_ T.isinstance T.Sx (dv 0)) ze))) ze)))))
 (zd (zq (i:=1) sc_law_names.nd rfl (Or.inl rfl) (zk tS (dv 1) (yr (zb (zu (zb zy (zb (z_ T.isinstance T.Sy (dv 0)) ze))) (zb (zu (zb zy (zb (z_ T.isinstance T.Sz (dv 0)) ze))) ze)))))
 (zd (zq (i:=1) sc_law_names.nd rfl (Or.inl rfl) (zk tS (dv 1) (yr (zb (zu (zb zy (zb (z_ T.isinstance T.SA (dv 0)) ze))) (zb (zu (zb zy (zb (z_ T.isinstance T.SB (dv 0)) ze))) ze)))))
 (zd (zq (i:=1) sc_law_names.nd rfl (Or.inl rfl) (zk tS (dv 1) (yr (zb (zu (zb zy (zb (z_ T.isinstance T.SC (dv 0)) ze))) (zb (zu (zb zy (zb (z_ T.isinstance T.Sh (dv 0)) ze))) ze)))))
 (zd (zq (i:=1) sc_law_names.nd rfl (Or.inl rfl) (zk tS (dv 1) (yr (zb (zu (zb zy (zb (z_ T.isinstance T.SD (dv 0)) ze))) (zb (zu (zb zy (zb (z_ T.isinstance T.SE (dv 0)) ze))) ze)))))
 (zd (zq (i:=1) sc_law_names.nd rfl (Or.inl rfl) (zk tS (dv 1) (yr (zb (zu (zb zy (zb (sW (kS T.isinstance T.n_ValueError (dv 0))) ze))) ze))))
 (zf (zm (DF.de (kO (L:=0) (osc:=defScope yQ) (N0:=["_law_e","_law_some"]) (bs:=["_law_word","_law_truth"]) (caps:=[]) (js:=[]) rfl (by decide +kernel) rfl rfl rfl (pQ (dv 1)) (fun _ _ _ _ _=>(nC rfl (wA (yR (i:=0) (show List.Nodup [("_law_word":Str),("_law_truth":Str)] by decide +kernel) rfl (Or.inl (lookup_relabel_local rfl)) (.inl rfl)) (wA (yR (i:=1) (show List.Nodup [("_law_word":Str),("_law_truth":Str)] by decide +kernel) rfl (Or.inl (lookup_relabel_local rfl)) (.inl rfl)) pr)))) f_ (fun _ _ _ _ _=>(ZN (zR (dv 1)))) (fun _ _ _ _ _=>(dv 0))))))))))))),?_⟩
 repeat (first | (walk_at "rd1") | refine ⟨by decide,?_⟩ | refine ⟨_,_,rfl,T.Vk,T.VY,?_⟩ | refine ⟨_,_,rfl,T.Vk,T.VZ,?_⟩ | refine ⟨_,_,rfl,T.Vk,T.V0,?_⟩ | refine ⟨_,_,rfl,T.Vk,T.V1,?_⟩ | refine ⟨_,_,rfl,T.Vk,T.V2,?_⟩ | refine ⟨_,_,rfl,T.Vk,T.V3,?_⟩ | refine ⟨_,_,rfl,T.Vk,T.V4,?_⟩ | refine ⟨_,_,rfl,T.Vk,T.V5,?_⟩ | refine ⟨_,_,rfl,T.Vk,T.V6,?_⟩ | refine ⟨_,_,rfl,T.Vk,T.V7,?_⟩ | refine ⟨_,_,rfl,T.Vk,T.V8,?_⟩ | refine ⟨_,_,rfl,T.Vk,T.V9,?_⟩ | refine ⟨_,_,rfl,T.Vk,T.V_,?_⟩)
 exact qY (ρ:=[]) [(.ofString "NoTotal",true),(.ofString "NoSpan",false),(.ofString "NoPairs",false),(.ofString "NoWriting",false),(.ofString "NoWay",false),(.ofString "NoNumber",false),(.ofString "TooLess",false),(.ofString "NoFalling",false),(.ofString "Nought",false),(.ofString "NoRatio",false),(.ofString "NoText",false),(.ofString "NoRow",false),(.ofString "plain",false)] q
abbrev yD:Stmt:=inClass (top 36) 3
theorem sc_Machine_read:zi ["self","totals","figures","carry","total","lead"] ["self","totals"] (defScope yD):=by walk_at "sc"
theorem vS (T:Txt K mg A) (F:Fun K "read" "Machine.read" yD f fd):FnOk P w K mg base (CX1 P w) 1 f fd ["self","totals"] (vC K (.t true false) (s8 P w K A)):=by
 refine Wt F sc_Machine_read (by walk_at "ln") fun _ _ _ _ _ _ hr ds Q R h rz=>?_
 obtain ⟨k,n,lo,hi,L,Rw,ts,rfl,M,hl,hw⟩:=h
 refine ⟨_,(zd (wS (i:=2) sc_Machine_read.nd rfl (Or.inl rfl) (sU ze))
 (zd (zq (i:=3) sc_Machine_read.nd rfl (Or.inl rfl) (zr (sX (C:=A.Machine) (f1:="found") (f2:="made") (f3:="leads") (j:=0) (dv 0)) zc (fun _ _=>rfl)))
 (zd (uP (j:=4) rfl sc_Machine_read.nd rfl (Or.inl rfl) Ws (dv 1) (zd (zq (i:=5) sc_Machine_read.nd rfl (Or.inl rfl) (dr hr.u9 (sX (C:=A.Machine) (f1:="found") (f2:="made") (f3:="leads") (j:=2) (dv 0)) (zb (zu (zb (dv 3) (zb (dv 4) ze))) ze)))
 (zd (zK (ZD (dv 5)) (zf (uO rfl rfl T.Sf T.VW zy)) zt)
 (zd (qV 2 (zr (dv 5) zc (fun _ _=>rfl)))
 (zf (zq (i:=3) sc_Machine_read.nd rfl (Or.inl rfl) (zr (dv 5) zc (fun _ _=>rfl))))))))
 (zf (eU (Xr 2) (WM (dv 3))))))),?_⟩
 obtain ⟨ex,hex⟩:=qR k.zero Rw
 rw [← M.fnd] at hex
 have h0:atI (L.map Nm.dt) 0=some k.zero.dt:=by rw [hex]; exact uf (show (List.map Nm.dt (k.zero::ex))[0]? = some k.zero.dt from rfl)
 refine ⟨rfl,_,rfl,?_⟩
 refine ⟨_,rfl,_,_,_,rfl,T.cl_Machine,T.na_Machine_found,_,rfl,rfl,by decide,by decide,by decide,_,_,_,rfl,rfl,h0,?_⟩
 refine ⟨_,rfl,_,fun i ρ=>∃ v4 v5,ρ=[.some (wJ P w K A k L Rw),.some (yO ts),.own ((mgF k n k.zero (ts.take i)).map Dt.int),.some (mgC k n k.zero (ts.take i)).dt,v4,v5]∧∀ t∈ts.take i,lo≤t∧t≤hi,rfl,⟨_,_,rfl,fun t ht=>nomatch ht⟩,?_,?_⟩
 ·rintro i e ρ' he ⟨v4,v5,rfl,hin⟩
  rw [List.getElem?_map] at he
  obtain ⟨t,ht,rfl⟩:=Option.map_eq_some_iff.mp he
  have hc:mgC k n k.zero (ts.take i)∈L:=M.go _ _ M.zero hin
  have hty:=wl (M.bd _ hc)
  have et:ts.take (i+1)=ts.take i++[t]:=by rw [List.take_succ,ht]; rfl
  have eC:mgC k n k.zero (ts.take (i+1))=mNx k n (mgC k n k.zero (ts.take i)) t:=by rw [et,uE]
  have eF:mgF k n k.zero (ts.take (i+1))=mgF k n k.zero (ts.take i)++[mFg k n (mgC k n k.zero (ts.take i)) t]:=by rw [et,uD]
  have lF:(mgF k n k.zero (ts.take i)).length≤1000:=by rw [wI,List.length_take]; omega
  generalize mgC k n k.zero (ts.take i)=c at *
  generalize mgF k n k.zero (ts.take i)=fs at *
  refine ⟨_,rfl,_,_,_,rfl,T.cl_Machine,T.na_Machine_leads,_,rfl,rfl,by decide,by decide,by decide,k.mdl,_,rfl,lW k,_,rfl,_,rfl,rfl,zV c t,congrArg (fun x=>[x]) (wL c t),wK t hty,?_⟩
  by_cases hb:lo≤t∧t≤hi
  ·rw [M.look hc hb.1 hb.2]
   refine ⟨_,rfl,_,rfl,ifF rfl ?_⟩
   refine ⟨_,rfl,_,rfl,_,_,_,rfl,rfl,rfl,by rw [List.length_map]; omega,?_⟩
   refine ⟨_,rfl,_,_,_,rfl,rfl,rfl,.some (.int t),.some (.tup [.int (mFg k n c t),(mNx k n c t).dt]),?_,jv hin hb ht⟩
   rw [eC,eF,List.map_append]
   rfl
  ·rw [M.none hb]
   refine ⟨_,rfl,_,rfl,ifT rfl ?_⟩
   rcases hw with ⟨hall,_⟩ | ⟨_,hR⟩
   ·exact absurd (hall t (List.mem_of_getElem? ht)) hb
   ·exact rz _ hR
 ·rintro ρ' ⟨v4,v5,rfl,hin⟩
  rw [List.length_map,List.take_length] at *
  rcases hw with ⟨_,q⟩ | ⟨hn,_⟩
  ·exact .inl ⟨_,rfl,_,rfl,q⟩
  ·exact absurd hin hn
abbrev yT:Stmt:=top 51
theorem sc_law_refused:zi ["_law_machine","_law_totals","_law_error","_law_e"] ["_law_machine","_law_totals"] (defScope yT):=by walk_at "sc"
theorem ut (T:Txt K mg A) (G__law_names:DOk P w K mg base 1 "_law_names" (jf A)) (HMd:TMOkX P w K mg base 1 A.Machine "read" (.t true false) (s8 P w K A)) (F:Fun K "_law_refused" "_law_refused" yT f fd):FnOk P w K mg base CX0 2 f fd ["_law_machine","_law_totals"] (zo K (ji P w K A)):=by
 refine okD F sc_law_refused (by walk_at "ln") fun _ _ _ _ _ _ hr ds Q h=>?_
 obtain ⟨k,n,lo,hi,L,R,ts,rfl,M,hl,hb,q⟩:=h
 refine ⟨_,(zd (zq (i:=2) sc_law_refused.nd rfl (Or.inl rfl) ZK)
 (zd (eT (j:=3) rfl rfl sc_law_refused.nd rfl rfl (o8 (.t true false) hr (dv 0) (zb (dv 1) ze)) (fun _=>(zf (zq (i:=2) sc_law_refused.nd rfl (Or.inl rfl) (dv 3)))) rfl T.Sv)
 (zf (zm (vz (df (dv 2)) (uS (sY (jS hr) (zn G__law_names (hr.mono (by decide)) rfl (zb (dv 2) ze)) (yr (zb zy ze)) (zB _)))))))),?_⟩
 refine ⟨_,rfl,A.Machine,"found","made","leads",_,_,_,_,rfl,⟨rfl,rfl,rfl⟩,HMd.mono (by decide),_,rfl,k,n,lo,hi,L,R,ts,rfl,M,hl,.inr ⟨hb,T.VX,?_⟩⟩
 have e:=xa 40 (d:=nt) rfl
 exact ⟨_,rfl,_,rfl,_,rfl,ifT rfl ⟨_,rfl,A.NoTotal,rfl,rfl,rfl,rfl,rfl,e.symm ▸ q⟩⟩
abbrev zN:Stmt:=top 32
theorem yN:zi ["way"] ["way"] (defScope zN):=by walk_at "sc"
theorem yP (T:Txt K mg A) (F:Fun K "held_to_have_one_ratio" "held_to_have_one_ratio" zN f fd):FnOk P w K mg base (CX1 P w) 1 f fd ["way"] (xY K (je A)):=by
 refine YD F yN (by walk_at "ln") fun _ _ _ _ _ _ hr ds Q R h rz=>?_
 obtain ⟨k,n,rfl,hw⟩:=h
 refine ⟨_,(zf (zK (zR (dm T.isinstance T.Sk T.Sm (dv 0))) (zf (uO rfl rfl T.Sh T.VU zy)) zt)),?_⟩
 refine ⟨_,rfl,_,_,_,_,_,rfl,dS T k,WF T k,WG T k,_,rfl,?_⟩
 rcases hw with ⟨h1,q⟩ | ⟨h1,hR⟩
 ·exact ifF (by cases k <;> first | rfl | cases h1) q
 ·exact ifT (by cases k <;> first | rfl | cases h1) (rz _ hR)
abbrev yg:Stmt:=top 31
theorem ww:zi ["way"] ["way"] (defScope yg):=by walk_at "sc"
theorem wD (T:Txt K mg A) (F:Fun K "farthest_total" "farthest_total" yg f fd):FnOk P w K mg base CX0 1 f fd ["way"] (zo K (d7 A)):=by
 refine okD F ww (by walk_at "ln") fun _ _ _ _ _ _ hr ds Q h=>?_
 obtain ⟨k,n,rfl,hn,q⟩:=h
 refine ⟨_,(zd (zK (zR (dq T.isinstance T.Sj (dv 0))) (zf (zm (kR rfl rfl T.n_min (zb zc (zb (zk yc (zk yc zc (zS (dv 0))) (zS (dv 0))) ze))))) zt)
 (zf (zm zc))),?_⟩
 refine ⟨_,rfl,_,_,_,_,rfl,dS T k,WE T k,_,rfl,?_⟩
 by_cases hk:k=.pairs
 ·subst hk
  obtain ⟨b1,b2⟩:=tR hn
  refine ifT rfl ?_
  refine ⟨_,rfl,_,_,_,rfl,rfl,T.Vm,T.Vq,_,_,rfl,rfl,lU (by decide),_,rfl,_,_,_,rfl,rfl,T.Vm,T.Vq,_,_,rfl,rfl,small (by omega) (by omega) _,_,_,rfl,?_⟩
  exact q
 ·refine ifF (by cases k <;> first | rfl | exact absurd rfl hk) ?_
  have e:k.far n=60:=by cases k <;> first | rfl | exact absurd rfl hk
  rw [e] at q
  exact q
abbrev z7:Stmt:=top 33
theorem sc_held_to_be_a_span:zi ["way","low","high","farthest"] ["way","low","high"] (defScope z7):=by walk_at "sc"
theorem xC (T:Txt K mg A) (G_farthest_total:DOk P w K mg base 1 "farthest_total" (d7 A)) (F:Fun K "held_to_be_a_span" "held_to_be_a_span" z7 f fd):FnOk P w K mg base (CX1 P w) 2 f fd ["way","low","high"] (xY K (d4 A)):=by
 refine YD F sc_held_to_be_a_span (by walk_at "ln") fun _ _ _ _ _ _ hr ds Q R h rz=>?_
 obtain ⟨k,n,lo,hi,rfl,hn,hw⟩:=h
 refine ⟨_,(zd (zq (i:=3) sc_held_to_be_a_span.nd rfl (Or.inl rfl) (zn G_farthest_total (hr.mono (by decide)) rfl (zb (dv 0) ze)))
 (zf (zK (DW.dt (xu (zE (jR) (dv 1) zc (zB _)) (xu (zE (oB) (dv 2) zc (zB _)) (xu (zE (oB) (dv 1) (xK (dv 3)) (zB _)) (xI (zE (jR) (dv 2) (dv 3) (zB _))))))) (zf (uO rfl rfl T.Sg T.VV zy)) zt))),?_⟩
 refine ⟨_,rfl,k,n,rfl,hn,?_⟩
 rcases hw with ⟨⟨h1,h2,h3,h4⟩,q⟩ | ⟨h1,hR⟩
 ·refine ⟨_,rfl,_,_,rfl,rfl,_,rfl,ifF (decide_eq_false (by omega)) ?_⟩
  refine ⟨_,rfl,_,_,rfl,rfl,_,rfl,ifF (decide_eq_false (by omega)) ?_⟩
  refine ⟨_,rfl,_,rfl,_,rfl,_,_,rfl,rfl,_,rfl,ifF (decide_eq_false (by omega)) ?_⟩
  refine ⟨_,rfl,_,rfl,_,_,rfl,rfl,_,rfl,ifF (decide_eq_false (by omega)) ?_⟩
  exact q
 ·refine ⟨_,rfl,_,_,rfl,rfl,_,rfl,ifB (fun _=>ifT rfl (rz _ hR)) (fun z1=>?_)⟩
  refine ⟨_,rfl,_,_,rfl,rfl,_,rfl,ifB (fun _=>ifT rfl (rz _ hR)) (fun z2=>?_)⟩
  refine ⟨_,rfl,_,rfl,_,rfl,_,_,rfl,rfl,_,rfl,ifB (fun _=>ifT rfl (rz _ hR)) (fun z3=>?_)⟩
  refine ⟨_,rfl,_,rfl,_,_,rfl,rfl,_,rfl,ifB (fun _=>rz _ hR) (fun z4=>absurd ?_ h1)⟩
  have z1:=of_decide_eq_false z1
  have z2:=of_decide_eq_false z2
  have z3:=of_decide_eq_false z3
  have z4:=of_decide_eq_false z4
  exact ⟨by omega,by omega,by omega,by omega⟩
abbrev vd:Stmt:=top 18
theorem qt:zi ["number"] ["number"] (defScope vd):=by walk_at "sc"
theorem qz (T:Txt K mg A) (G_is_whole:DOk P w K mg base 1 "is_whole" (wX)) (F:Fun K "as_pair" "as_pair" vd f fd):FnOk P w K mg base CX0 2 f fd ["number"] (zo K (xX)):=by
 refine okD F qt (by walk_at "ln") fun _ _ _ _ _ _ hr ds Q h=>?_
 obtain ⟨d,m,rfl,hm,q⟩:=h
 refine ⟨_,(zd (zK (zR (zn G_is_whole (hr.mono (by decide)) rfl (zb (dv 0) ze))) (zf (zm (zu (zb (dv 0) (zb zc ze))))) zt)
 (zf (zm (dv 0)))),?_⟩
 obtain rfl:=wF hm
 cases m with
 | i n=>
  walk_at "rd"
  exact q
 | p a b=>
  walk_at "rd"
  exact q
abbrev sx:Stmt:=top 19
theorem sc_added:zi ["one","other","left","right"] ["one","other"] (defScope sx):=by walk_at "sc"
theorem nL (T:Txt K mg A) (G_is_whole:DOk P w K mg base 1 "is_whole" (wX)) (G_as_pair:DOk P w K mg base 2 "as_pair" (xX)) (F:Fun K "added" "added" sx f fd):FnOk P w K mg base CX0 3 f fd ["one","other"] (zo K (oe)):=by
 refine okD F sc_added (by walk_at "ln") fun _ _ _ _ _ _ hr ds Q h=>?_
 obtain ⟨d,e,m,n,rfl,hm,hn,q⟩:=h
 refine ⟨_,(zd (zK (DW.dt (kz (zR (zn G_is_whole (hr.mono (by decide)) rfl (zb (dv 0) ze))) (pN (zR (zn G_is_whole (hr.mono (by decide)) rfl (zb (dv 1) ze)))))) (zf (zm (zk zU (dv 0) (dv 1)))) zt)
 (zd (zq (i:=2) sc_added.nd rfl (Or.inl rfl) (zn G_as_pair (hr.mono (by decide)) rfl (zb (dv 0) ze)))
 (zd (zq (i:=3) sc_added.nd rfl (Or.inl rfl) (zn G_as_pair (hr.mono (by decide)) rfl (zb (dv 1) ze)))
 (zf (zm (zu (zb (zk zU (zr (dv 2) zc (fun _ _=>rfl)) (zr (dv 3) zc (fun _ _=>rfl))) (zb (zk zU (zr (dv 2) zc (fun _ _=>rfl)) (zr (dv 3) zc (fun _ _=>rfl))) ze)))))))),?_⟩
 obtain rfl:=wF hm
 obtain rfl:=wF hn
 cases m <;> cases n
 all_goals
  walk_at "rd"
  exact q
abbrev xh:Stmt:=inClass (top 23) 0
theorem uZ:zi ["self"] ["self"] (defScope xh):=by walk_at "sc"
theorem z8 (T:Txt K mg A) (F:Fun K "nought" "Way.nought" xh f fd):FnOk P w K mg base CX0 1 f fd ["self"] (zo K (X7)):=by
 refine okD F uZ (by walk_at "ln") fun _ _ _ _ _ _ hr ds Q h=>?_
 obtain ⟨o,rfl,q⟩:=h
 refine ⟨_,(zf (zm zc)),?_⟩
 exact q
abbrev yB:Stmt:=inClass (top 29) 1
theorem vL:zi ["self"] ["self"] (defScope yB):=by walk_at "sc"
theorem vQ (T:Txt K mg A) (F:Fun K "nought" "Pairs.nought" yB f fd):FnOk P w K mg base CX0 1 f fd ["self"] (zo K (X6)):=by
 refine okD F vL (by walk_at "ln") fun _ _ _ _ _ _ hr ds Q h=>?_
 obtain ⟨o,rfl,q⟩:=h
 refine ⟨_,(zf (zm (zu (zb zc (zb zc ze))))),?_⟩
 exact ⟨rfl,q⟩
abbrev ve:Stmt:=inClass (top 23) 1
theorem qu:zi ["self","place"] ["self","place"] (defScope ve):=by walk_at "sc"
theorem yI (T:Txt K mg A) (F:Fun K "low" "Way.low" ve f fd):FnOk P w K mg base CX0 1 f fd ["self","place"] (zo K (Z2)):=by
 refine okD F qu (by walk_at "ln") fun _ _ _ _ _ _ hr ds Q h=>?_
 obtain ⟨o,p,rfl,q⟩:=h
 refine ⟨_,(zf (zm zc)),?_⟩
 exact q
abbrev yH:Stmt:=inClass (top 26) 1
theorem vP:zi ["self","place"] ["self","place"] (defScope yH):=by walk_at "sc"
theorem vW (T:Txt K mg A) (F:Fun K "low" "Balanced.low" yH f fd):FnOk P w K mg base CX0 1 f fd ["self","place"] (zo K (xN A .balanced (Kd.low .balanced))):=by
 refine okD F vP (by walk_at "ln") fun _ _ _ _ _ _ hr ds Q h=>?_
 obtain ⟨n,p,rfl,hn,q⟩:=h
 refine ⟨_,(zf (zm (xK (zS (dv 0))))),?_⟩
 exact ⟨_,rfl,_,_,_,rfl,rfl,T.Vr,T.Um,_,rfl,q⟩
abbrev xi:Stmt:=inClass (top 24) 1
theorem tj:zi ["self","place"] ["self","place"] (defScope xi):=by walk_at "sc"
theorem tG (T:Txt K mg A) (F:Fun K "high" "Plain.high" xi f fd):FnOk P w K mg base CX0 1 f fd ["self","place"] (zo K (xN A .plain (Kd.high .plain))):=by
 refine okD F tj (by walk_at "ln") fun _ _ _ _ _ _ hr ds Q h=>?_
 obtain ⟨n,p,rfl,hn,q⟩:=h
 refine ⟨_,(zf (zm (zk ye (zS (dv 0)) zc))),?_⟩
 exact ⟨_,rfl,_,_,_,rfl,rfl,T.Vs,T.Tc,_,_,rfl,rfl,q⟩
abbrev xk:Stmt:=inClass (top 25) 1
theorem tx:zi ["self","place"] ["self","place"] (defScope xk):=by walk_at "sc"
theorem tK (T:Txt K mg A) (F:Fun K "high" "Below.high" xk f fd):FnOk P w K mg base CX0 1 f fd ["self","place"] (zo K (xN A .below (Kd.high .below))):=by
 refine okD F tx (by walk_at "ln") fun _ _ _ _ _ _ hr ds Q h=>?_
 obtain ⟨n,p,rfl,hn,q⟩:=h
 refine ⟨_,(zf (zm (zk ye (zS (dv 0)) zc))),?_⟩
 exact ⟨_,rfl,_,_,_,rfl,rfl,T.Vt,T.Td,_,_,rfl,rfl,q⟩
abbrev yo:Stmt:=inClass (top 26) 2
theorem w_:zi ["self","place"] ["self","place"] (defScope yo):=by walk_at "sc"
theorem vk (T:Txt K mg A) (F:Fun K "high" "Balanced.high" yo f fd):FnOk P w K mg base CX0 1 f fd ["self","place"] (zo K (xN A .balanced (Kd.high .balanced))):=by
 refine okD F w_ (by walk_at "ln") fun _ _ _ _ _ _ hr ds Q h=>?_
 obtain ⟨n,p,rfl,hn,q⟩:=h
 refine ⟨_,(zf (zm (zS (dv 0)))),?_⟩
 exact ⟨_,rfl,_,_,_,rfl,rfl,T.Vr,T.Um,q⟩
abbrev yF:Stmt:=inClass (top 27) 1
theorem vN:zi ["self","place"] ["self","place"] (defScope yF):=by walk_at "sc"
theorem vU (T:Txt K mg A) (F:Fun K "high" "Growing.high" yF f fd):FnOk P w K mg base CX0 1 f fd ["self","place"] (zo K (xN A .growing (Kd.high .growing))):=by
 refine okD F vN (by walk_at "ln") fun _ _ _ _ _ _ hr ds Q h=>?_
 obtain ⟨n,p,rfl,hn,q⟩:=h
 refine ⟨_,(zf (zm (zk ye (zk zU (zS (dv 0)) (dv 1)) zc))),?_⟩
 exact ⟨_,rfl,_,_,_,rfl,rfl,T.Vv,T.Se,_,rfl,_,_,rfl,rfl,_,_,rfl,rfl,q⟩
abbrev yG:Stmt:=inClass (top 28) 1
theorem vO:zi ["self","place"] ["self","place"] (defScope yG):=by walk_at "sc"
theorem vV (T:Txt K mg A) (F:Fun K "high" "Falling.high" yG f fd):FnOk P w K mg base CX0 1 f fd ["self","place"] (zo K (xN A .falling (Kd.high .falling))):=by
 refine okD F vO (by walk_at "ln") fun _ _ _ _ _ _ hr ds Q h=>?_
 obtain ⟨n,p,rfl,hn,q⟩:=h
 refine ⟨_,(zf (zm (zS (dv 0)))),?_⟩
 exact ⟨_,rfl,_,_,_,rfl,rfl,T.Uo,T.Si,q⟩
abbrev xj:Stmt:=inClass (top 29) 2
theorem tq:zi ["self","place"] ["self","place"] (defScope xj):=by walk_at "sc"
theorem tI (T:Txt K mg A) (F:Fun K "high" "Pairs.high" xj f fd):FnOk P w K mg base CX0 1 f fd ["self","place"] (zo K (xN A .pairs (Kd.high .pairs))):=by
 refine okD F tq (by walk_at "ln") fun _ _ _ _ _ _ hr ds Q h=>?_
 obtain ⟨n,p,rfl,hn,q⟩:=h
 refine ⟨_,(zf (zm (zk yc (zS (dv 0)) (zS (dv 0))))),?_⟩
 obtain ⟨h1,h2⟩:=tR hn
 exact ⟨_,rfl,_,_,_,rfl,rfl,T.Vm,T.Vq,_,rfl,_,_,_,rfl,rfl,T.Vm,T.Vq,_,_,rfl,rfl,small (by omega) (by omega) _,q⟩
abbrev yW:Stmt:=inClass (top 24) 2
theorem ul:zi ["self","place"] ["self","place"] (defScope yW):=by walk_at "sc"
theorem uw (T:Txt K mg A) (F:Fun K "ratio" "Plain.ratio" yW f fd):FnOk P w K mg base CX0 1 f fd ["self","place"] (zo K (wt A .plain (Kd.ratN .plain))):=by
 refine okD F ul (by walk_at "ln") fun _ _ _ _ _ _ hr ds Q h=>?_
 obtain ⟨n,p,rfl,hn,q⟩:=h
 refine ⟨_,(zf (zm (zS (dv 0)))),?_⟩
 exact ⟨_,rfl,_,_,_,rfl,rfl,T.Vs,T.Tc,q⟩
abbrev yZ:Stmt:=inClass (top 25) 2
theorem uo:zi ["self","place"] ["self","place"] (defScope yZ):=by walk_at "sc"
theorem uz (T:Txt K mg A) (F:Fun K "ratio" "Below.ratio" yZ f fd):FnOk P w K mg base CX0 1 f fd ["self","place"] (zo K (wt A .below (Kd.ratN .below))):=by
 refine okD F uo (by walk_at "ln") fun _ _ _ _ _ _ hr ds Q h=>?_
 obtain ⟨n,p,rfl,hn,q⟩:=h
 refine ⟨_,(zf (zm (xK (zS (dv 0))))),?_⟩
 exact ⟨_,rfl,_,_,_,rfl,rfl,T.Vt,T.Td,_,rfl,q⟩
abbrev yh:Stmt:=inClass (top 26) 3
theorem wx:zi ["self","place"] ["self","place"] (defScope yh):=by walk_at "sc"
theorem wE (T:Txt K mg A) (F:Fun K "ratio" "Balanced.ratio" yh f fd):FnOk P w K mg base CX0 1 f fd ["self","place"] (zo K (wt A .balanced (Kd.ratN .balanced))):=by
 refine okD F wx (by walk_at "ln") fun _ _ _ _ _ _ hr ds Q h=>?_
 obtain ⟨n,p,rfl,hn,q⟩:=h
 refine ⟨_,(zf (zm (zk zU (zk yc zc (zS (dv 0))) zc))),?_⟩
 exact ⟨_,rfl,_,_,_,rfl,rfl,T.Vr,T.Um,_,_,rfl,rfl,lU (by decide),_,_,rfl,rfl,q⟩
abbrev yn:Stmt:=inClass (top 27) 2
theorem w8:zi ["self","place"] ["self","place"] (defScope yn):=by walk_at "sc"
theorem vi (T:Txt K mg A) (F:Fun K "ratio" "Growing.ratio" yn f fd):FnOk P w K mg base CX0 1 f fd ["self","place"] (zo K (wt A .growing (Kd.ratN .growing))):=by
 refine okD F w8 (by walk_at "ln") fun _ _ _ _ _ _ hr ds Q h=>?_
 obtain ⟨n,p,rfl,hn,q⟩:=h
 refine ⟨_,(zf (zm (zk zU (zS (dv 0)) (dv 1)))),?_⟩
 exact ⟨_,rfl,_,_,_,rfl,rfl,T.Vv,T.Se,_,rfl,_,_,rfl,rfl,q⟩
abbrev yY:Stmt:=inClass (top 29) 3
theorem um:zi ["self","place"] ["self","place"] (defScope yY):=by walk_at "sc"
theorem uy (T:Txt K mg A) (F:Fun K "ratio" "Pairs.ratio" yY f fd):FnOk P w K mg base CX0 1 f fd ["self","place"] (zo K (wt A .pairs (Kd.ratN .pairs))):=by
 refine okD F um (by walk_at "ln") fun _ _ _ _ _ _ hr ds Q h=>?_
 obtain ⟨n,p,rfl,hn,q⟩:=h
 refine ⟨_,(zf (zm (zu (zb (xK (zS (dv 0))) (zb zc ze))))),?_⟩
 exact ⟨_,rfl,_,_,_,rfl,rfl,T.Vm,T.Vq,_,rfl,rfl,q⟩
abbrev xz:Stmt:=inClass (top 23) 4
theorem sc_Way_split:zi ["self","total","place","low","figures","figure"] ["self","total","place"] (defScope xz):=by walk_at "sc"
theorem yz (T:Txt K mg A) (HLo:∀ k:Kd,MOk P w K mg base 1 (A.at k) "low" (xN A k (k.low))∧MOk P w K mg base 1 (A.at k) "high" (xN A k (k.high))) (HR:∀ k:Kd,k.five=true→MOk P w K mg base 1 (A.at k) "ratio" (wt A k (k.ratN))) (F:Fun K "split" "Way.split" xz f fd):FnOk P w K mg base CX0 2 f fd ["self","total","place"] (zo K (jc A)):=by
 refine okD F sc_Way_split (by walk_at "ln") fun _ _ _ _ _ _ hr ds Q h=>?_
 obtain ⟨k,n,t,j,rfl,h4,hn,hj,q⟩:=h
 refine ⟨_,(zd (zq (i:=3) sc_Way_split.nd rfl (Or.inl rfl) (uc hr (dv 0) (zb (dv 2) ze)))
 (zd (zq (i:=4) sc_Way_split.nd rfl (Or.inl rfl) (zk zU (zk ye (uc hr (dv 0) (zb (dv 2) ze)) (dv 3)) zc))
 (zd (zq (i:=5) sc_Way_split.nd rfl (Or.inl rfl) (zk zU (dv 3) (zk yS (zk ye (dv 1) (dv 3)) (dv 4))))
 (zf (zm (zu (zb (dv 5) (zb (zk xl (zk ye (dv 1) (dv 5)) (uc hr (dv 0) (zb (dv 2) ze))) ze)))))))),?_⟩
 obtain ⟨M1,M2⟩:=HLo k
 have h5:k.five=true:=by cases k <;> first | rfl | cases h4
 have M3:=HR k h5
 obtain ⟨e1,e2⟩:=pd h4 n j
 have hp:=rb h4 hn j
 have hr:k.ratN n j=.i (k.rat n j):=by cases k <;> first | rfl | cases h4
 have hb:(k.rat n j).natAbs<1073741824:=by
  obtain ⟨b1,b2⟩:=tR hn
  cases k <;> cases h4 <;> simp only [Kd.rat] <;> omega
 refine ⟨_,rfl,_,_,_,_,rfl,Xq k,M1.mono (by decide),_,rfl,n,j,rfl,hn,?_⟩
 refine ⟨_,rfl,_,_,_,_,rfl,ZC k,M2.mono (by decide),_,rfl,n,j,rfl,hn,_,rfl,_,_,rfl,rfl,_,_,rfl,rfl,?_⟩
 refine ⟨_,rfl,_,rfl,_,rfl,_,_,rfl,rfl,_,rfl,_,_,rfl,rfl,(show k.high n j - k.low n j+1≠0 by omega),_,_,rfl,rfl,?_⟩
 refine ⟨_,rfl,_,rfl,_,rfl,_,_,rfl,rfl,_,rfl,_,_,_,_,rfl,eO k,M3.mono (by decide),_,rfl,n,j,rfl,hn,?_⟩
 rw [hr]
 refine ⟨_,_,rfl,rfl,⟨by omega,hb⟩,rfl,?_⟩
 cases k <;> cases h4 <;> exact q
abbrev xc:Stmt:=top 20
theorem sc_multiplied:zi ["one","other","left","right"] ["one","other"] (defScope xc):=by walk_at "sc"
theorem tz (T:Txt K mg A) (G_is_whole:DOk P w K mg base 1 "is_whole" (wX)) (G_as_pair:DOk P w K mg base 2 "as_pair" (xX)) (F:Fun K "multiplied" "multiplied" xc f fd):FnOk P w K mg base CX0 3 f fd ["one","other"] (zo K (jg)):=by
 refine okD F sc_multiplied (by walk_at "ln") fun _ _ _ _ _ _ hr ds Q h=>?_
 obtain ⟨d,e,m,n,rfl,hm,hn,k1,q⟩:=h
 refine ⟨_,(zd (zK (DW.dt (kz (zR (zn G_is_whole (hr.mono (by decide)) rfl (zb (dv 0) ze))) (pN (zR (zn G_is_whole (hr.mono (by decide)) rfl (zb (dv 1) ze)))))) (zf (zm (zk yc (dv 0) (dv 1)))) zt)
 (zd (zq (i:=2) sc_multiplied.nd rfl (Or.inl rfl) (zn G_as_pair (hr.mono (by decide)) rfl (zb (dv 0) ze)))
 (zd (zq (i:=3) sc_multiplied.nd rfl (Or.inl rfl) (zn G_as_pair (hr.mono (by decide)) rfl (zb (dv 1) ze)))
 (zf (zm (zu (zb (zk ye (zk yc (zr (dv 2) zc (fun _ _=>rfl)) (zr (dv 3) zc (fun _ _=>rfl))) (zk yc (zr (dv 2) zc (fun _ _=>rfl)) (zr (dv 3) zc (fun _ _=>rfl)))) (zb (zk zU (zk yc (zr (dv 2) zc (fun _ _=>rfl)) (zr (dv 3) zc (fun _ _=>rfl))) (zk yc (zr (dv 2) zc (fun _ _=>rfl)) (zr (dv 3) zc (fun _ _=>rfl)))) ze)))))))),?_⟩
 obtain rfl:=wF hm
 obtain rfl:=wF hn
 obtain ⟨h1,h2,h3,h4⟩:=k1
 cases m <;> cases n
 all_goals
  walk_at "rd"
  first | refine ⟨h1,?_⟩ | skip
  walk_at "rd"
  first | exact q | skip
  try refine ⟨h2,?_⟩
  walk_at "rd"
  try refine ⟨h3,?_⟩
  walk_at "rd"
  try refine ⟨h4,?_⟩
  walk_at "rd"
  try exact q
abbrev yX:Stmt:=inClass (top 29) 4
theorem Ua:zi ["self","total","place","pair","figures","figure","turned"] ["self","total","place"] (defScope yX):=by walk_at "sc"
theorem ux (T:Txt K mg A) (G_as_pair:DOk P w K mg base 2 "as_pair" (xX)) (G_multiplied:DOk P w K mg base 3 "multiplied" (jg)) (F:Fun K "split" "Pairs.split" yX f fd):FnOk P w K mg base CX0 4 f fd ["self","total","place"] (zo K (jd A)):=by
 refine okD F Ua (by walk_at "ln") fun _ _ _ _ _ _ hr ds Q h=>?_
 obtain ⟨n,d,m,j,rfl,hm,hn,q⟩:=h
 refine ⟨_,(zd (zq (i:=3) Ua.nd rfl (Or.inl rfl) (zn G_as_pair (hr.mono (by decide)) rfl (zb (dv 1) ze)))
 (zd (zq (i:=4) Ua.nd rfl (Or.inl rfl) (zk zU (zk yc (zS (dv 0)) (zS (dv 0))) zc))
 (zd (zq (i:=5) Ua.nd rfl (Or.inl rfl) (zk yS (zk zU (zr (dv 3) zc (fun _ _=>rfl)) (zk yc (zS (dv 0)) (zr (dv 3) zc (fun _ _=>rfl)))) (dv 4)))
 (zd (zq (i:=6) Ua.nd rfl (Or.inl rfl) (zn G_multiplied (hr.mono (by decide)) rfl (zb (zu (zb (zk ye (zr (dv 3) zc (fun _ _=>rfl)) (dv 5)) (zb (zr (dv 3) zc (fun _ _=>rfl)) ze))) (zb (zu (zb (xK (zS (dv 0))) (zb (xK zc) ze))) ze))))
 (zf (zm (zu (zb (dv 5) (zb (zu (zb (zk xl (zr (dv 6) zc (fun _ _=>rfl)) (dv 4)) (zb (zk xl (zr (dv 6) zc (fun _ _=>rfl)) (dv 4)) ze))) ze))))))))),?_⟩
 have hn1:1≤n:=hn.1
 have hn2:n≤9:=hn.2
 have sq:n*n≤81:=by
  have:=Int.mul_le_mul hn2 hn2 (by omega) (by omega)
  omega
 have sq0:0≤n*n:=Int.mul_nonneg (by omega) (by omega)
 have hN:og 0 (n*n+1):=⟨by omega,by omega⟩
 refine ⟨_,rfl,_,m,rfl,hm,?_⟩
 refine ⟨_,rfl,_,_,_,rfl,rfl,T.Vm,T.Vq,_,rfl,_,_,_,rfl,rfl,T.Vm,T.Vq,_,_,rfl,rfl,small (by omega) (by omega) _,_,_,rfl,rfl,?_⟩
 refine ⟨_,rfl,_,_,_,rfl,rfl,rfl,_,rfl,_,_,_,rfl,rfl,T.Vm,T.Vq,_,rfl,_,_,_,rfl,rfl,rfl,_,_,rfl,rfl,ql (by omega) (by omega) _,_,_,rfl,rfl,_,rfl,_,_,rfl,rfl,(show n*n+1≠0 by omega),?_⟩
 repeat (first | (walk_at "rd1") | refine ⟨_,_,_,rfl,rfl,T.Vm,T.Vq,?_⟩)
 refine ⟨⟨small (show -1000000≤-n by omega) (show -n≤1000000 by omega) _,small (show (-1000000:Int)≤-1 by decide) (show (-1:Int)≤1000000 by decide) _,small (show (-1000000:Int)≤-1 by decide) (show (-1:Int)≤1000000 by decide) _,small (show -1000000≤-n by omega) (show -n≤1000000 by omega) _⟩,?_⟩
 repeat (first | (walk_at "rd1") | refine ⟨hN,?_⟩)
 exact q
abbrev ya:Stmt:=top 34
theorem sc_carries_and_rows:zi ["way","low","high","carries","known","rows","at","carry","total","parts"] ["way","low","high"] (defScope ya):=by walk_at "sc"
theorem x5 (T:Txt K mg A) (G_added:DOk P w K mg base 3 "added" (oe)) (HNo:∀ k:Kd,MOk P w K mg base 1 (A.at k) "nought" (X8 k)) (HSp:∀ k:Kd,k.five=true→MOk P w K mg base 4 (A.at k) "split" (pX A k)) (F:Fun K "carries_and_rows" "carries_and_rows" ya f fd):FnOk P w K mg base CX0 5 f fd ["way","low","high"] (pW K (.t true true) (jo A)):=by
 refine okT F sc_carries_and_rows (by walk_at "ln") fun _ _ _ _ _ _ hr ds Q h=>?_
 obtain ⟨k,n,lo,hi,rfl,h1,hn,hs,q⟩:=h
 refine ⟨_,(zd (wS (i:=3) sc_carries_and_rows.nd rfl (Or.inl rfl) (sU (zb (rR hr (dv 0)) ze)))
 (zd (ZG (i:=4) hr.u9 sc_carries_and_rows.nd rfl (Or.inl rfl) (rR hr (dv 0)) x6)
 (zd (wS (i:=5) sc_carries_and_rows.nd rfl (Or.inl rfl) (sU ze))
 (zd (zq (i:=6) sc_carries_and_rows.nd rfl (Or.inl rfl) zc)
 (zd (kF PassesOwn.never (zE (oB) (dv 6) (dj 3 rfl T.len) (zB _)) (zd (zq (i:=7) sc_carries_and_rows.nd rfl (Or.inl rfl) (ZL 3 (dv 6) (fun _ _=>rfl)))
 (zd (kI (j:=8) rfl sc_carries_and_rows.nd rfl (Or.inl rfl) PassesOwn.never rfl T.range (zb (dv 1) (zb (zk zU (dv 2) zc) ze)) (zd (zq (i:=9) sc_carries_and_rows.nd rfl (Or.inl rfl) (uc hr (dv 0) (zb (zn G_added (hr.mono (by decide)) rfl (zb (dv 7) (zb (dv 8) ze))) (zb zc ze))))
 (zd (eZ 5 (zu (zb (dv 7) (zb (dv 8) (zb (zr (dv 9) zc (fun _ _=>rfl)) (zb (zr (dv 9) zc (fun _ _=>rfl)) ze))))))
 (zf (zK (kA 4 hr.u9 (zr (dv 9) zc (fun _ _=>rfl))) (zd (sS 4 hr.u9 (zr (dv 9) zc (fun _ _=>rfl)) x6)
 (zf (qV 3 (zr (dv 9) zc (fun _ _=>rfl))))) zt)))))
 (zf (eY (i:=6) Zz sc_carries_and_rows.nd rfl (Or.inl rfl) zc)))))
 (zf (kG 3 5))))))),?_⟩
 have h5:=wC h1
 obtain ⟨s1,s2,s3,s4⟩:=hs
 have hfar:k.far n≤60:=by
  cases k <;> first | exact Int.le_refl _ | (show (if 2 * n * n < 60 then 2 * n * n else 60)≤60; split <;> omega)
 have hT:(hi+1 - lo).toNat≤121:=by omega
 obtain ⟨b,eb⟩:∃ b:Bool,(if b=true then KM.mi else KM.mp)=k.md:=by
  cases k <;> first | exact ⟨true,rfl⟩ | exact ⟨false,rfl⟩
 have hz:=yu k
 refine ⟨_,rfl,_,_,_,_,rfl,rP k,(HNo k).mono (by decide),_,rfl,rfl,_,rfl,?_⟩
 refine ⟨rfl,b,_,rfl,_,_,_,_,rfl,rP k,(HNo k).mono (by decide),_,rfl,k.zero.key,qJ _,by rw [eb]; exact qI hz,?_⟩
 rw [eb]
 refine ⟨rfl,_,rfl,?_⟩
 refine ⟨fun m ρ=>∃ (at_:Nat) (L:List Nm) (R:List MR) (v7 v8 v9:Sl),ρ=[.some (wZ A k n),.some (.int lo),.some (.int hi),.own (L.map Nm.dt),.obj (yM P w K k.md (xF L)),.own (R.map mDt),.some (.int at_),v7,v8,v9]∧m=1600 - at_∧at_≤L.length∧R=xt k n lo hi (L.take at_)∧L=y3 k.zero R∧∀ c∈L,mBd k c,⟨1600,0,[k.zero],[],_,_,_,rfl,rfl,Nat.zero_le _,rfl,rfl,fun c hc=>by rw [List.mem_singleton.mp hc]; exact lZ k⟩,?_⟩
 rintro m ρ' ⟨at_,L,R,v7,v8,v9,rfl,rfl,hat,hR,hL,hb⟩
 have hnd:L.Nodup:=by rw [hL]; exact uL _ _
 have hfew:=few hnd hb
 have lL:(L.map Nm.dt).length=L.length:=List.length_map _
 refine ⟨_,rfl,_,rfl,_,_,rfl,rfl,_,rfl,ifB (fun hlt=>?_) (fun hge=>?_)⟩
 ·have hlt:at_<L.length:=by have:=of_decide_eq_true hlt; omega
  obtain ⟨c,hc⟩:∃ c,L[at_]? = some c:=⟨_,List.getElem?_eq_getElem hlt⟩
  have hcL:c∈L:=List.mem_of_getElem? hc
  have hcd:(L.map Nm.dt)[at_]? = some c.dt:=by rw [List.getElem?_map,hc]; rfl
  refine ⟨_,rfl,_,rfl,_,_,rfl,uf hcd,?_⟩
  have lR:R.length≤193600:=by
   have e:R.length=(L.take at_).length*(hi+1 - lo).toNat:=by rw [← wy k n lo hi,← hR]
   have:=Nat.mul_le_mul (show (L.take at_).length≤1600 by rw [List.length_take]; omega) hT
   omega
  refine ⟨_,rfl,_,rfl,_,_,rfl,rfl,lo,hi+1,fun i ρ=>∃ (L' ex:List Nm) (v8 v9:Sl),ρ=[.some (wZ A k n),.some (.int lo),.some (.int hi),.own (L'.map Nm.dt),.obj (yM P w K k.md (xF L')),.own ((R++((xm lo hi).take i).map (vX k n c)).map mDt),.some (.int at_),.some c.dt,v8,v9]∧L'=y3 k.zero (R++((xm lo hi).take i).map (vX k n c))∧L'=L++ex∧∀ c∈L',mBd k c,rfl,by omega,by omega,by omega,by omega,⟨L,[],v8,v9,?_,?_,(List.append_nil _).symm,hb⟩,?_,?_⟩
  ·rw [List.take_zero,List.map_nil,List.append_nil]; rfl
  ·rw [List.take_zero,List.map_nil,List.append_nil]; exact hL
  ·rintro i ρ' hi' ⟨L',ex,v8,v9,rfl,hL',hex,hb'⟩
   have hi':i<(hi+1 - lo).toNat:=hi'
   generalize hR':R++((xm lo hi).take i).map (vX k n c)=R' at *
   have lR':R'.length≤200000:=by
    rw [← hR',List.length_append,List.length_map,List.length_take]
    omega
   have lL':L'.length≤1600:=few (k:=k) (by rw [hL']; exact uL _ _) hb'
   have hcb:=hb c hcL
   have hnx:mBd k (mNx k n c (lo+i)):=Zm h1 hn hcb (by omega) (by omega)
   have eR:R++((xm lo hi).take (i+1)).map (vX k n c)=R'++[vX k n c (lo+i)]:=by rw [uW hi',List.map_append,← List.append_assoc,hR']; rfl
   have eL:y3 k.zero (R'++[vX k n c (lo+i)])=y_ L' (mNx k n c (lo+i)):=by rw [qQ,← hL']; rfl
   refine ⟨_,rfl,_,_,_,_,rfl,eN k,(HSp k h5).mono (by decide),_,rfl,_,rfl,_,_,c,.i (lo+i),rfl,pC c,rfl,n,_,0,rfl,xp (wl hcb) (fun _=>⟨_,rfl⟩),hn,by decide,?_⟩
   refine ⟨_,rfl,_,rfl,_,rfl,_,rfl,_,_,_,rfl,rfl,rfl,_,rfl,_,_,_,rfl,rfl,rfl,rfl,by rw [List.length_map]; omega,?_⟩
   refine ⟨_,rfl,_,_,_,rfl,rfl,rfl,_,_,(mNx k n c (lo+i)).key,rfl,qJ _,qI (wl hnx),?_⟩
   rw [rJ]
   refine ifB (fun hnew=>?_) (fun hold=>?_)
   ·have hnew:mNx k n c (lo+i)∉L':=of_decide_eq_false (YE hnew)
    have hn0:zQ (xF L') (mNx k n c (lo+i)).key=none:=by
     have z:=rJ (L:=L') (c:=mNx k n c (lo+i))
     rw [decide_eq_false hnew] at z
     cases e:zQ (xF L') (mNx k n c (lo+i)).key with
     | none=>rfl
     | some v=>rw [e] at z; cases z
    refine ⟨_,_,rfl,_,rfl,_,_,_,rfl,rfl,rfl,_,qJ _,qI (wl hnx),hn0,by unfold xF; rw [List.length_map]; omega,?_⟩
    refine ⟨_,rfl,_,rfl,_,_,_,rfl,rfl,rfl,by rw [List.length_map]; omega,?_⟩
    have eA:y_ L' (mNx k n c (lo+i))=L'++[mNx k n c (lo+i)]:=if_neg hnew
    refine ⟨L'++[mNx k n c (lo+i)],ex++[mNx k n c (lo+i)],.some (.int (lo+i)),.some (.tup [.int (mFg k n c (lo+i)),(mNx k n c (lo+i)).dt]),?_,by rw [eR,eL,eA],by rw [hex,List.append_assoc],fun d hd=>?_⟩
    ·rw [eR,List.map_append,List.map_append]
     unfold xF
     rw [List.map_append]
     rfl
    ·rcases List.mem_append.mp hd with hd | hd
     ·exact hb' d hd
     ·rw [List.mem_singleton.mp hd]; exact hnx
   ·have hold:mNx k n c (lo+i)∈L':=of_decide_eq_true (YF hold)
    have eA:y_ L' (mNx k n c (lo+i))=L':=if_pos hold
    refine ⟨L',ex,.some (.int (lo+i)),.some (.tup [.int (mFg k n c (lo+i)),(mNx k n c (lo+i)).dt]),?_,by rw [eR,eL,eA],hex,hb'⟩
    rw [eR,List.map_append]
    rfl
  ·rintro ρ' ⟨L',ex,v8,v9,rfl,hL',hex,hb'⟩
   have et:(xm lo hi).take (hi+1 - lo).toNat=xm lo hi:=List.take_of_length_le (by rw [ju]; exact Nat.le_refl _)
   rw [et] at hL'
   rw [et]
   refine ⟨_,rfl,_,_,rfl,rfl,1600 - (at_+1),by omega,at_+1,L',R++(xm lo hi).map (vX k n c),_,_,_,rfl,rfl,?_,?_,hL',hb'⟩
   ·rw [hex,List.length_append]; omega
   ·have e1:L'.take (at_+1)=L.take at_++[c]:=by
     rw [hex,List.take_append_of_le_length (by omega),List.take_succ,hc]
     rfl
    rw [e1,ot,← hR]
 ·have hge:¬ at_<L.length:=by have:=of_decide_eq_false hge; omega
  refine ⟨_,rfl,_,rfl,q L R ⟨hL,?_,hb⟩⟩
  rw [List.take_of_length_le (by omega)] at hR
  exact hR
abbrev x_:Stmt:=top 35
theorem sc_leads_of:zi ["rows","leads","row"] ["rows"] (defScope x_):=by walk_at "sc"
theorem rm (T:Txt K mg A) (F:Fun K "leads_of" "leads_of" x_ f fd):FnOk P w K mg base CX0 1 f fd ["rows"] (zo K (p8 P w K)):=by
 refine okD F sc_leads_of (by walk_at "ln") fun _ _ _ _ _ _ hr ds Q h=>?_
 obtain ⟨k,R,rfl,hty,hnd,hl,q⟩:=h
 refine ⟨_,(zd (kJ (i:=1) sc_leads_of.nd rfl (Or.inl rfl))
 (zd (uP (j:=2) rfl sc_leads_of.nd rfl (Or.inl rfl) PassesOwn.never (dv 0) (zf (sS 1 hr.u9 (zu (zb (zr (dv 2) zc (fun _ _=>rfl)) (zb (zr (dv 2) zc (fun _ _=>rfl)) ze))) (zu (zb (zr (dv 2) zc (fun _ _=>rfl)) (zb (zr (dv 2) zc (fun _ _=>rfl)) ze))))))
 (zf (eW 1)))),?_⟩
 obtain ⟨b,eb⟩:∃ b:Bool,(if b=true then KM.mp else KM.mn)=k.mdl:=by
  cases k <;> first | exact ⟨true,rfl⟩ | exact ⟨false,rfl⟩
 refine ⟨rfl,b,?_⟩
 rw [eb]
 refine ⟨_,rfl,_,fun i ρ=>∃ v,ρ=[.some (.lst (R.map mDt)),.obj (yM P w K k.mdl ((R.take i).map yJ)),v],rfl,⟨_,rfl⟩,?_,?_⟩
 ·rintro i e ρ' he ⟨v,rfl⟩
  rw [List.getElem?_map] at he
  obtain ⟨r,hr,rfl⟩:=Option.map_eq_some_iff.mp he
  have hi:=(List.getElem?_eq_some_iff.mp hr).1
  have hno:=rE hnd hr
  refine ⟨_,_,rfl,_,rfl,_,_,_,rfl,rfl,rfl,_,rfl,_,_,_,rfl,rfl,rfl,rfl,_,rfl,_,_,_,rfl,rfl,rfl,_,rfl,_,_,_,rfl,rfl,rfl,rfl,zV r.1 r.2.1,wL _ _,wK _ (hty r (List.mem_of_getElem? hr)),hno,by rw [List.length_map,List.length_take]; omega,?_⟩
  have e:(R.take (i+1)).map yJ=(R.take i).map yJ++[yJ r]:=by rw [List.take_succ,hr,List.map_append]; rfl
  refine ⟨.some (mDt r),?_⟩
  rw [e]
  rfl
 ·rintro ρ' ⟨v,rfl⟩
  rw [List.length_map,List.take_length]
  exact ⟨_,rfl,q⟩
abbrev yE:Stmt:=inClass (top 36) 0
theorem sc_Machine_init:zi ["self","way","low","high","made"] ["self","way","low","high"] (defScope yE):=by walk_at "sc"
theorem vT (T:Txt K mg A) (G_held_to_have_one_ratio:DOkX P w K mg base 1 "held_to_have_one_ratio" (je A)) (G_held_to_be_a_span:DOkX P w K mg base 2 "held_to_be_a_span" (d4 A)) (G_carries_and_rows:TOk P w K mg base 5 "carries_and_rows" (.t true true) (jo A)) (G_leads_of:DOk P w K mg base 1 "leads_of" (p8 P w K)) (F:Fun K "__init__" "Machine.__init__" yE f fd):FnOk P w K mg base (CX1 P w) 6 f fd ["self","way","low","high"] (nn K A.Machine "found" "made" "leads" (qZ P w K A)):=by
 refine Xi (lf:="leads_of") F sc_Machine_init T.cl_Machine T.na_Machine_found T.na_Machine_made T.na_Machine_leads (by decide) (by decide) (by decide) (by walk_at "ln") G_leads_of (by decide) (Or.inl rfl) (Or.inl rfl) (by decide) (by decide) (by decide) (fun _ _ _ _ _ _=>rfl) rfl (fun _ _ _ _ _ _ hr p ds Q R h rz=>?_)
 obtain ⟨k,n,lo,hi,rfl,hn,hw⟩:=h
 refine ⟨_,_,_,(pO (rT G_held_to_have_one_ratio (hr.mono (by decide)) rfl (zb (dv 1) ze))),(pO (rT G_held_to_be_a_span (hr.mono (by decide)) rfl (zb (dv 1) (zb (dv 2) (zb (dv 3) ze))))),(zq (i:=4) sc_Machine_init.nd rfl (Or.inl rfl) (zn G_carries_and_rows.dok (hr.mono (by decide)) rfl (zb (dv 1) (zb (dv 2) (zb (dv 3) ze))))),?_⟩
 rcases hw with ⟨h1,hR⟩ | ⟨h1,hs,hR⟩ | ⟨h1,hs,q⟩
 ·exact ⟨_,rfl,k,n,rfl,.inr ⟨h1,rz _ hR⟩⟩
 ·exact ⟨_,rfl,k,n,rfl,.inl ⟨h1,_,rfl,_,rfl,_,rfl,k,n,lo,hi,rfl,hn,.inr ⟨hs,rz _ hR⟩⟩⟩
 ·exact ⟨_,rfl,k,n,rfl,.inl ⟨h1,_,rfl,_,rfl,_,rfl,k,n,lo,hi,rfl,hn,.inl ⟨hs,_,rfl,_,rfl,_,rfl,k,n,lo,hi,rfl,h1,hn,hs,fun L Rw M=>⟨_,_,rfl,rfl,k,Rw,rfl,M.ty,M.knd,Nat.le_trans (M.len (nk hs)) (by decide),q L Rw M⟩⟩⟩⟩
abbrev vG:Stmt:=top 52
theorem sc_law:zi ["_law_script","_law_name","_law_number","_law_low","_law_high_here","_law_machine","_law_totals","_law_handed","_law_found","_law_odd","_law_beyond","_law_bad","_law_kept","_law_beside"] ["_law_script"] (defScope vG):=by walk_at "sc"
theorem cQ (T:Txt K mg A) (G__law_chosen:DOk P w K mg base 1 "_law_chosen" (sk)) (G__law_cell_at:DOk P w K mg base 1 "_law_cell_at" (jn)) (G__law_span:DOk P w K mg base 1 "_law_span" (pY)) (G__law_way:DOk P w K mg base 5 "_law_way" (jb A)) (G__law_read:DOk P w K mg base 3 "_law_read" (d6)) (G__law_by_rows:DOk P w K mg base 2 "_law_by_rows" (d8 P w K A)) (G__law_nought:DOk P w K mg base 1 "_law_nought" (pZ)) (G__law_refused:DOk P w K mg base 2 "_law_refused" (ji P w K A)) (M_Machine:Z4 P w K mg base 6 "Machine" A.Machine "found" "made" "leads" (qZ P w K A)) (HMd:TMOkX P w K mg base 1 A.Machine "read" (.t true false) (s8 P w K A)) (F:Fun K "law" "law" vG f fd):FnOk P w K mg base CX0 8 f fd ["_law_script"] (zo K (p9)):=by
 refine okD F sc_law (by walk_at "ln") fun _ _ _ _ _ _ hr ds Q h=>?_
 obtain ⟨ns,rfl,hns,q⟩:=h
 refine ⟨_,(zd (qU (i:=1) (j:=2) rfl sc_law.nd rfl rfl (Or.inl rfl) (Or.inl rfl) (zn G__law_chosen (hr.mono (by decide)) rfl (zb (zn G__law_cell_at (hr.mono (by decide)) rfl (zb (dv 0) (zb zc ze))) ze)))
 (zd (qU (i:=3) (j:=4) rfl sc_law.nd rfl rfl (Or.inr rfl) (Or.inr rfl) (zn G__law_span (hr.mono (by decide)) rfl (zb (dv 1) (zb (dv 2) (zb (zn G__law_cell_at (hr.mono (by decide)) rfl (zb (dv 0) (zb zc ze))) ze)))))
 (zd (zq (i:=5) sc_law.nd rfl (Or.inl rfl) (rS M_Machine (hr.mono (by decide)) rfl (zb (zn G__law_way (hr.mono (by decide)) rfl (zb (dv 1) (zb (dv 2) ze))) (zb (dv 3) (zb (dv 4) ze)))))
 (zd (X5 (sR (i:=6) (osc:=defScope vG) (N0:=["_law_script","_law_name","_law_number","_law_low","_law_high_here","_law_machine","_law_totals","_law_handed","_law_found","_law_odd","_law_beyond","_law_bad","_law_kept","_law_beside"]) (bs:=["_law_cell"]) (caps:=["_law_low","_law_high_here"]) (js:=[3,4]) rfl (by decide +kernel) rfl rfl rfl sc_law.nd rfl (Or.inl rfl) (pQ (kQ (dv 0) (pP zc) (pP zc))) (fun _ _ _ _ _=>(yR (i:=0) (show List.Nodup [("_law_cell":Str),("_law_low":Str),("_law_high_here":Str)] by decide +kernel) rfl (Or.inl (lookup_relabel_local rfl)) (.inl rfl))) eg (fun _ _ _ _ _=>ZO) (fun _ _ _ _ _=>(zk zU (dv 1) (zk yS (dv 0) (zk zU (zk ye (dv 2) (dv 1)) zc))))))
 (zd (zq (i:=7) sc_law.nd rfl (Or.inl rfl) (DF.de (sV rfl T.n_list (dv 6))))
 (eP (i:=8) sc_law.nd rfl (Or.inl rfl) (xW (.t true false) hr (dv 5) (zb (dv 7) ze))
 (kE (DW.dt (xu (zE (oA hr) (dv 7) (dv 6) (zB _)) (xI (y7 (zR (zn G__law_read (hr.mono (by decide)) rfl (zb (dv 1) (zb (dv 2) (zb (dv 8) (zb (dv 6) ze)))))))))) (zf (zm x6))
 (kE (DW.dt (xu (zE (oA hr) (dv 8) (zn G__law_by_rows (hr.mono (by decide)) rfl (zb (dv 1) (zb (dv 5) (zb (dv 6) ze)))) (zB _)) (xI (zE (oA hr) (DR.de (xW (.t true false) hr (dv 5) (zb (yr ze) ze))) (zu (zb (yr ze) (zb (zn G__law_nought (hr.mono (by decide)) rfl (zb (dv 1) ze)) ze))) (zB _))))) (zf (zm x6))
 (kC (zq (i:=9) sc_law.nd rfl (Or.inl rfl) (zk xl (zn G__law_cell_at (hr.mono (by decide)) rfl (zb (dv 0) (zb zc ze))) zc))
 (kC (zK (zE (jR) (zk yS (dv 9) zc) zc (zB _)) (zd (zq (i:=10) sc_law.nd rfl (Or.inl rfl) (zr (yr (zb (zk zU (zk zU (dv 4) zc) (zk yS (zk xl (dv 9) zc) (zk dP zc zc))) (zb (zk ye (zk ye (dv 3) zc) (zk yS (zk xl (dv 9) zc) (zk dP zc zc))) ze))) (zk ye (zk yS (dv 9) zc) zc) (fun _ _=>rfl)))
 (zd (wS (i:=11) sc_law.nd rfl (Or.inl rfl) (sV rfl T.n_list (dv 6)))
 (zd (ZF 11 (zk yS (zk xl (dv 9) zc) (zk zU (wn rfl T.len (dv 6)) zc)) (dv 10))
 (zf (zK (ZE (y7 (zR (zn G__law_refused (hr.mono (by decide)) rfl (zb (dv 5) (zb (dv 11) ze)))))) (zf (zm x6)) zt))))) zt)
 (kD (i:=8) (j:=12) (by decide) sc_law.nd rfl rfl (Or.inl rfl) (Or.inl rfl) rfl T.n_list
 (eS (i:=8) zc
 (zd (zq (i:=13) sc_law.nd rfl (Or.inl rfl) (rS M_Machine (hr.mono (by decide)) rfl (zb (zn G__law_way (hr.mono (by decide)) rfl (zb (dv 1) (zb (dv 2) ze))) (zb (dv 3) (zb (dv 4) ze)))))
 (zf (zm (vz (sY (jS hr) (DR.de (xW (.t true false) hr (dv 5) (zb (dv 6) ze))) (dv 12) (zB _)) (uS (sY (jS hr) (DR.de (xW (.t true false) hr (dv 13) (zb (dv 6) ze))) (dv 12) (zB _))))))))))))))))))),?_⟩
 refine ⟨_,rfl,ns,_,rfl,by decide,fun z0=>⟨_,rfl,fun k n h1 hn=>⟨_,_,rfl,?_⟩⟩⟩
 refine ⟨_,rfl,_,rfl,_,rfl,ns,_,rfl,by decide,fun z1=>⟨k,n,_,rfl,h1,hn,fun lo hi hs hd=>⟨_,_,rfl,?_⟩⟩⟩
 refine ⟨_,rfl,_,rfl,k,n,rfl,h1,hn,_,rfl,_,rfl,k,n,lo,hi,rfl,hn,.inr (.inr ⟨h1,hs,fun L R M=>⟨_,_,_,rfl,?_⟩⟩)⟩
 obtain ⟨s1,s2,s3,s4⟩:=id hs
 have hfew:=few M.lnd M.bd
 have lR:R.length≤100000:=by
  have lR:R.length=L.length*(hi+1 - lo).toNat:=by rw [← wy k n lo hi L,← M.rws]
  have:=Nat.mul_le_mul hfew (show (hi+1 - lo).toNat≤19 by omega)
  omega
 have hcl:(rZ (ns.map Dt.int) (some 2) (some 202)).length≤63:=by
  have:=rY (ns.map Dt.int) (some 2) (some 202)
  rw [List.length_map] at this
  omega
 refine ⟨_,rfl,_,rfl,_,rfl,_,rfl,_,fun i es=>∃ zs:List Int,es=zs.map Dt.int∧zs.length=i∧∀ z∈zs,lo≤z∧z≤hi,rfl,by omega,⟨[],rfl,rfl,fun _ h=>nomatch h⟩,?_,?_⟩
 ·rintro i e es he ⟨zs,rfl,hl,hz⟩
  obtain ⟨z,rfl⟩:∃ z,e=.int z:=by
   obtain ⟨z,_,e⟩:=List.mem_map.mp (List.mem_of_mem_drop (List.mem_of_mem_take (List.mem_of_getElem? he)))
   exact ⟨z,e.symm⟩
  have a0:=Int.fmod_nonneg_of_pos z (show 0<hi - lo+1 by omega)
  have a1:=Int.fmod_lt_of_pos z (show 0<hi - lo+1 by omega)
  refine ⟨_,rfl,_,rfl,_,rfl,_,rfl,_,_,rfl,rfl,_,_,rfl,rfl,_,_,rfl,rfl,(show hi - lo+1≠0 by omega),_,_,rfl,rfl,zs++[lo+z.fmod (hi - lo+1)],?_,?_,?_⟩
  ·rw [List.map_append]; rfl
  ·rw [List.length_append,hl]; rfl
  ·intro u hu
   rcases List.mem_append.mp hu with hu | hu
   ·exact hz u hu
   ·rw [List.mem_singleton.mp hu]; omega
 rintro es ⟨ts,rfl,hl,hin⟩
 have hl:ts.length≤63:=by omega
 have okt:=jP ts
 have okf:okE 40 (.tup [yO (mgF k n k.zero ts),(mgC k n k.zero ts).dt])=true:=by
  show (okE 39 (yO (mgF k n k.zero ts)) && (okE 39 (mgC k n k.zero ts).dt && true))=true
  rw [nM]
  cases mgC k n k.zero ts <;> rfl
 have okz:okE 40 (.tup [.lst [],k.zero.dt])=true:=by cases k <;> rfl
 refine ⟨_,rfl,_,rfl,?_⟩
 refine ⟨_,rfl,A.Machine,"found","made","leads",_,_,_,_,rfl,⟨rfl,rfl,rfl⟩,HMd.mono (by decide),_,rfl,k,n,lo,hi,L,R,ts,rfl,M,by omega,.inl ⟨hin,_,_,_,rfl,rfl,?_⟩⟩
 refine ⟨_,rfl,_,rfl,okt,okt,_,rfl,ifF (nT (xa 40 okt)) ⟨_,rfl,_,rfl,_,rfl,_,rfl,k,n,ts,rfl,h1,hn,by omega,_,rfl,ifF rfl ?_⟩⟩
 refine ⟨_,rfl,_,rfl,_,rfl,_,rfl,k,n,lo,hi,L,R,ts,rfl,M,lR,by omega,hin,okf,okf,_,rfl,ifF (nT (xa 40 okf)) ?_⟩
 refine ⟨_,rfl,A.Machine,"found","made","leads",_,_,_,_,rfl,⟨rfl,rfl,rfl⟩,HMd.mono (by decide),rfl,k,n,lo,hi,L,R,[],rfl,M,by decide,.inl ⟨(fun _ h=>nomatch h),rfl,_,rfl,k,rfl,rfl,okz,okz,_,rfl,ifF (nT (xa 40 okz)) ?_⟩⟩
 refine ⟨fun ρ=>∃ od:Int,ρ=[.some (.scr ns),.some (.str k.nam),.some (.int n),.some (.int lo),.some (.int hi),.some (wJ P w K A k L R),.some (yO ts),.some (yO ts),.none,.some (.int od),.none,.none,.none,.none],fun qq=>⟨_,rfl,ns,_,rfl,by decide,fun z=>⟨_,_,rfl,rfl,kZ (by decide),rfl,_,rfl⟩⟩,?_⟩
 rintro ρ ⟨od,rfl⟩
 refine ⟨fun ρ=>∃ v10 v11,ρ=[.some (.scr ns),.some (.str k.nam),.some (.int n),.some (.int lo),.some (.int hi),.some (wJ P w K A k L R),.some (yO ts),.some (yO ts),.none,.some (.int od),v10,v11,.none,.none],fun qq=>?_,?_⟩
 ·have m0:=Int.fmod_nonneg_of_pos od (show (0:Int)<3 by decide)
  have m1:=Int.fmod_lt_of_pos od (show (0:Int)<3 by decide)
  refine ⟨_,rfl,_,_,rfl,rfl,kY (by decide),_,_,rfl,rfl,_,rfl,ifB (fun hpos=>?_) (fun _=>⟨rfl,_,_,rfl⟩)⟩
  have hpos:0<od.fmod 3:=of_decide_eq_true hpos
  have b0:=Int.fmod_nonneg_of_pos (od.fdiv 3) (show (0:Int)<10 ^ 20 by decide)
  have key:∀ x y:Int,hi<x→y<lo→∃ z,atI [Dt.int x,Dt.int y] (od.fmod 3 - 1)=some (.int z)∧¬ (lo≤z∧z≤hi):=fun x y hx hy=>by
   rcases (by omega:od.fmod 3=1∨od.fmod 3=2) with e | e <;> rw [e]
   ·exact ⟨x,rfl,by omega⟩
   ·exact ⟨y,rfl,by omega⟩
  obtain ⟨z,hz1,hz2⟩:=key (hi+1+(od.fdiv 3).fmod (10 ^ 20)) (lo - 1 - (od.fdiv 3).fmod (10 ^ 20)) (by omega) (by omega)
  walk_at "rd"
  refine ⟨_,_,_,rfl,rfl,hz1,?_⟩
  have lt:(ts.map Dt.int).length=ts.length:=List.length_map _
  have hp:(0:Int)<(ts.length:Int)+1:=by omega
  have c0:=Int.fmod_nonneg_of_pos (od.fdiv 7) hp
  have c1:=Int.fmod_lt_of_pos (od.fdiv 7) hp
  refine ⟨_,rfl,_,rfl,_,rfl,?_⟩
  refine ⟨_,rfl,_,rfl,_,_,rfl,rfl,kZ (by decide),_,rfl,_,rfl,_,_,rfl,rfl,_,_,rfl,rfl,(show ((ts.map Dt.int).length:Int)+1≠0 by omega),_,rfl,(od.fdiv 7).fmod (((ts.map Dt.int).length:Int)+1),rfl,by rw [lt]; omega,by rw [lt]; omega,by omega,?_⟩
  have e:(ts.map Dt.int).take ((od.fdiv 7).fmod (((ts.map Dt.int).length:Int)+1)).toNat++Dt.int z::(ts.map Dt.int).drop ((od.fdiv 7).fmod (((ts.map Dt.int).length:Int)+1)).toNat=(ts.take ((od.fdiv 7).fmod (((ts.map Dt.int).length:Int)+1)).toNat++z::ts.drop ((od.fdiv 7).fmod (((ts.map Dt.int).length:Int)+1)).toNat).map Dt.int:=by rw [List.map_append,List.map_cons,List.map_take,List.map_drop]
  rw [e]
  generalize ((od.fdiv 7).fmod (((ts.map Dt.int).length:Int)+1)).toNat=m
  refine ⟨_,rfl,_,rfl,k,n,lo,hi,L,R,ts.take m++z::ts.drop m,rfl,M,?_,fun hall=>hz2 (hall z (List.mem_append_right _ (List.mem_cons_self ..))),_,rfl,ifF rfl ⟨rfl,_,_,rfl⟩⟩
  rw [List.length_append,List.length_take,List.length_cons,List.length_drop]
  omega
 rintro ρ ⟨v10,v11,rfl⟩
 have e9:=xa 40 okf
 refine ⟨⟨_,rfl⟩,?_⟩
 refine ⟨by rw [List.length_map,wI]; omega,?_⟩
 refine ⟨_,rfl,_,rfl,k,n,rfl,h1,hn,_,rfl,_,rfl,k,n,lo,hi,rfl,hn,.inr (.inr ⟨h1,hs,fun L' R' M'=>⟨_,_,_,rfl,?_⟩⟩)⟩
 refine ⟨_,rfl,A.Machine,"found","made","leads",_,_,_,_,rfl,⟨rfl,rfl,rfl⟩,HMd.mono (by decide),_,rfl,k,n,lo,hi,L,R,ts,rfl,M,by omega,.inl ⟨hin,_,rfl,okf,okf,_,rfl,ifT e9 ?_⟩⟩
 exact ⟨_,rfl,A.Machine,"found","made","leads",_,_,_,_,rfl,⟨rfl,rfl,rfl⟩,HMd.mono (by decide),_,rfl,k,n,lo,hi,L',R',ts,rfl,M',by omega,.inl ⟨hin,_,rfl,okf,okf,e9.symm ▸ q⟩⟩
end
def BA (n q:Str) (st:Stmt) (ps:List Str) (us:List Value):Prop:=∀ (kV doc pm:Value) (an:Option Addr) (cdv ct:Value),bindArgs (PySem.W.fnOf n q (defArgs st) (defBody st) (defScope st) .none kV doc pm an cdv ct) ⟨us,[]⟩=pure (ps.zip us)
def BZ (n q:Str) (st:Stmt) (ps:List Str):Prop:=∀ us:List Value,us.length=ps.length→BA n q st ps us
theorem bz1 {n q:Str} {st:Stmt} {ps:List Str} (hl:ps.length=1) (h:∀ u0:Value,BA n q st ps [u0]):BZ n q st ps:=fun us e=>match us,e.trans hl with | [_],_=>h _
theorem bz2 {n q:Str} {st:Stmt} {ps:List Str} (hl:ps.length=2) (h:∀ u0 u1:Value,BA n q st ps [u0,u1]):BZ n q st ps:=fun us e=>match us,e.trans hl with | [_,_],_=>h _ _
theorem bz3 {n q:Str} {st:Stmt} {ps:List Str} (hl:ps.length=3) (h:∀ u0 u1 u2:Value,BA n q st ps [u0,u1,u2]):BZ n q st ps:=fun us e=>match us,e.trans hl with | [_,_,_],_=>h _ _ _
theorem bz4 {n q:Str} {st:Stmt} {ps:List Str} (hl:ps.length=4) (h:∀ u0 u1 u2 u3:Value,BA n q st ps [u0,u1,u2,u3]):BZ n q st ps:=fun us e=>match us,e.trans hl with | [_,_,_,_],_=>h _ _ _ _
section
variable (K:PySem.W.Frag)
def FX (n q:Str) (st:Stmt) (f:Addr):Prop:=∃ oc od kV dc pm an cd ct sl,K.lookup f=some ⟨oc,od,.func (PySem.W.fnOf n q (defArgs st) (defBody st) (defScope st) .none kV dc pm an cd ct),sl⟩∧PySem.W.codeIn K cd q=true∧PySem.W.keepIn K (.ref f)=true
def FD (n:Str) (st:Stmt) (f:Addr):Prop:=PySem.W.nsIn K mainGlobals n=some (some (.ref f))∧FX K n n st f
def FE (g n:Str) (st:Stmt) (f:Addr):Prop:=PySem.W.nsIn K mainGlobals g=some (some (.ref f))∧FX K n n st f
def FM (n q:Str) (st:Stmt) (f:Addr):Prop:=PySem.W.isFn K (.ref f)=true∧FX K n q st f
def Fi (C:Addr) (n:Str) (f:Addr):Prop:=PySem.W.findIn K (.ref C) n=some (some (.ref f))
def Ki (C D:Addr) (b:Bool):Prop:=PySem.W.kitOne K (.ref C) (.ref D)=some b
def Gc (n:Str) (C:Addr):Prop:=PySem.W.nsIn K mainGlobals n=some (some (.ref C))
def Gs (n y:Str) (t:Tok):Prop:=PySem.W.nsIn K mainGlobals n=some (some (.str y t))
def Zn (n:Str):Prop:=PySem.W.nsIn K mainGlobals n=some none
structure ClR (C:Addr) (x:Str):Prop where
 cls:Cls K C
 mks:PySem.W.makesIn K C=true
 kc:PySem.W.keepIn K (.ref C)=true
 na:PySem.W.findIn K (.ref C) x=some none
structure IR (C:Addr):Prop where
 ia:PySem.W.findIn K (.ref C) "__class__"=some (some (.builtin "object.__class__"))
 im:PySem.W.mroIn K C (.type "object")=some true
variable {K} {n q:Str} {st:Stmt} {f:Addr}
theorem FX.mk {oc od kV dc pm an cd ct sl} (l:K.lookup f=some ⟨oc,od,.func (PySem.W.fnOf n q (defArgs st) (defBody st) (defScope st) .none kV dc pm an cd ct),sl⟩) (c:PySem.W.codeIn K cd q=true) (k:PySem.W.keepIn K (.ref f)=true):FX K n q st f:=⟨_,_,_,_,_,_,_,_,_,l,c,k⟩
theorem FX.get (r:FX K n q st f) (ps:List Str) (h:BZ n q st ps):∃ fd,Fun K n q st f fd∧Binds K fd ps []:=
 let ⟨_,_,_,_,_,_,_,_,_,l,c,k⟩:=r; ⟨_,qP l c k,(qP l c k).binds fun a b c d e f us z=>h us z a b c d e f⟩
theorem FD.get (r:FD K n st f) {h:Heap} {mg:Str→Option Value} (X:K.In h) (G:h.Ns mainGlobals mg) (ps:List Str) (h:BZ n n st ps):∃ fd,mg n=some (.ref f)∧Fun K n n st f fd∧Binds K fd ps []:=
 let ⟨fd,F,b⟩:=r.2.get ps h; ⟨fd,PySem.W.mg_of X G r.1,F,b⟩
theorem FE.get {g:Str} (r:FE K g n st f) {h:Heap} {mg:Str→Option Value} (X:K.In h) (G:h.Ns mainGlobals mg) (ps:List Str) (h:BZ n n st ps):∃ fd,mg g=some (.ref f)∧Fun K n n st f fd∧Binds K fd ps []:=
 let ⟨fd,F,b⟩:=r.2.get ps h; ⟨fd,PySem.W.mg_of X G r.1,F,b⟩
theorem mkr (l:PySem.W.OpenLaw) (w:World) (base:Heap) {mg:Str→Option Value} {C:Addr} {k:Nat} {fd:FuncData} {ps:List Str} {S:DSp} (c:Cls K C) (a:Fi K C n f) (r:FM K n q st f) (F:Fun K n q st f fd) (b:Binds K fd ps []) (o:FnOk l.prog w K mg base CX0 k f fd ps (zo K S)):MOk l.prog w K mg base k C n S:=.mk c ⟨_,_,_,⟨a,r.1,F.kp⟩,b,o⟩
theorem WL (l:PySem.W.OpenLaw) (w:World) (base:Heap) {mg:Str→Option Value} {C:Addr} {k:Nat} {fd:FuncData} {ps:List Str} {S:DSp} (c:Cls K C) (a:Fi K C n f) (r:FM K n q st f) (F:Fun K n q st f fd) (b:Binds K fd ps []) (o:FnOk l.prog w K mg base CX0 k f fd ps (xZ K S)):FMOk l.prog w K mg base k C n S:=.mk c ⟨_,_,_,⟨a,r.1,F.kp⟩,b,o⟩
theorem Z8 (l:PySem.W.OpenLaw) (w:World) (base:Heap) {mg:Str→Option Value} {C:Addr} {k:Nat} {fd:FuncData} {ps:List Str} {fr:Fr} {S:z5} (c:Cls K C) (a:Fi K C n f) (r:FM K n q st f) (F:Fun K n q st f fd) (b:Binds K fd ps []) (o:FnOk l.prog w K mg base (CX1 l.prog w) k f fd ps (vC K fr S)):TMOkX l.prog w K mg base k C n fr S:=.mk c ⟨_,_,_,⟨a,r.1,F.kp⟩,b,o⟩
theorem FM.get (r:FM K n q st f) (ps:List Str) (h:BZ n q st ps):∃ fd,Fun K n q st f fd∧Binds K fd ps []:=r.2.get ps h
end
theorem all_mk {l:PySem.W.OpenLaw} {w:World} {K:PySem.W.Frag} {h:Heap} {mg:Str→Option Value} {fa:Addr} (X:K.In h) (G:h.Ns mainGlobals mg) (hfa:mg "law"=some (.ref fa))
 {Vn Vo Vp Vj Vl Vi C_Machine Vu Vf Vg Ub Uc Ud Ue Uf Ug Uh Vh Ui Uj f1 f2 f3 f4 f5 f6 f7 f8 f9 f10 f11 f12 f13 f14 f15 f16 f17 f18 f19 f20 f21 f22 f23 f24 f25 f26 f27 f28 f29 f30 f31 f32 f33 f34 f35 f36 f37 f38 f39 f40 f41 f42 f43 f44 f45 f46 f47 f48 f49:Addr}
 (Ti:Gc K "Plain" Vn)
 (Tj:Gc K "Below" Vo)
 (Tk:Gc K "Balanced" Vp)
 (Tl:Gc K "Growing" Vj)
 (Tm:Gc K "Falling" Vl)
 (UW:Gc K "Pairs" Vi)
 (aC_Machine:Gc K "Machine" C_Machine)
 (Tn:Gc K "OddError" Vu)
 (To:Gc K "NoTotal" Vf)
 (Tp:Gc K "NoSpan" Vg)
 (Tq:Gc K "NoPairs" Ub)
 (Tr:Gc K "NoWriting" Uc)
 (Ts:Gc K "NoWay" Ud)
 (Tt:Gc K "NoNumber" Ue)
 (Tu:Gc K "TooLess" Uf)
 (Tv:Gc K "NoFalling" Ug)
 (Tw:Gc K "Nought" Uh)
 (Tx:Gc K "NoRatio" Vh)
 (Ty:Gc K "NoText" Ui)
 (Tz:Gc K "NoRow" Uj)
 (r1:FD K "_law_chosen" xg f1)
 (r2:FD K "_law_cell_at" yU f2)
 (r3:FD K "_law_span" wa f3)
 (r4:FD K "is_whole" wd f4)
 (r5:FD K "bounded" vb f5)
 (TC:Fi K Vn "__init__" f6)
 (r6:FM K "__init__" "Plain.__init__" yw f6)
 (TD:Fi K Vo "__init__" f7)
 (r7:FM K "__init__" "Below.__init__" yy f7)
 (TF:Fi K Vp "__init__" f8)
 (r8:FM K "__init__" "Balanced.__init__" z9 f8)
 (TH:Fi K Vi "__init__" f9)
 (r9:FM K "__init__" "Pairs.__init__" yx f9)
 (r10:FD K "_law_way" va f10)
 (r11:FD K "_law_is_number" yl f11)
 (r12:FD K "_law_is_figure" ym f12)
 (r13:FD K "_law_added" xy f13)
 (r14:FD K "_law_times" xx f14)
 (r15:FD K "_law_high" wc f15)
 (r16:FD K "_law_nought" xf f16)
 (r17:FD K "_law_read" wb f17)
 (a18_Machine:Fi K C_Machine "rows" f18)
 (r18:FM K "rows" "Machine.rows" yC f18)
 (r19:FD K "_law_by_rows" yV f19)
 (r20:FD K "_law_names" yQ f20)
 (a21_Machine:Fi K C_Machine "read" f21)
 (r21:FM K "read" "Machine.read" yD f21)
 (r22:FD K "_law_refused" yT f22)
 (r23:FD K "held_to_have_one_ratio" zN f23)
 (r24:FD K "farthest_total" yg f24)
 (r25:FD K "held_to_be_a_span" z7 f25)
 (r26:FD K "as_pair" vd f26)
 (r27:FD K "added" sx f27)
 (TJ:Fi K Vn "nought" f28)
 (TK:Fi K Vo "nought" f28)
 (TL:Fi K Vp "nought" f28)
 (TM:Fi K Vj "nought" f28)
 (TN:Fi K Vl "nought" f28)
 (r28:FM K "nought" "Way.nought" xh f28)
 (TQ:Fi K Vi "nought" f29)
 (r29:FM K "nought" "Pairs.nought" yB f29)
 (TR:Fi K Vn "low" f30)
 (TU:Fi K Vo "low" f30)
 (TV:Fi K Vj "low" f30)
 (TW:Fi K Vl "low" f30)
 (TX:Fi K Vi "low" f30)
 (r30:FM K "low" "Way.low" ve f30)
 (TY:Fi K Vp "low" f31)
 (r31:FM K "low" "Balanced.low" yH f31)
 (TZ:Fi K Vn "high" f32)
 (r32:FM K "high" "Plain.high" xi f32)
 (T0:Fi K Vo "high" f33)
 (r33:FM K "high" "Below.high" xk f33)
 (T1:Fi K Vp "high" f34)
 (r34:FM K "high" "Balanced.high" yo f34)
 (T2:Fi K Vj "high" f35)
 (r35:FM K "high" "Growing.high" yF f35)
 (T3:Fi K Vl "high" f36)
 (r36:FM K "high" "Falling.high" yG f36)
 (T4:Fi K Vi "high" f37)
 (r37:FM K "high" "Pairs.high" xj f37)
 (T5:Fi K Vn "ratio" f38)
 (r38:FM K "ratio" "Plain.ratio" yW f38)
 (T6:Fi K Vo "ratio" f39)
 (r39:FM K "ratio" "Below.ratio" yZ f39)
 (T7:Fi K Vp "ratio" f40)
 (r40:FM K "ratio" "Balanced.ratio" yh f40)
 (T8:Fi K Vj "ratio" f41)
 (r41:FM K "ratio" "Growing.ratio" yn f41)
 (T9:Fi K Vi "ratio" f42)
 (r42:FM K "ratio" "Pairs.ratio" yY f42)
 (T_:Fi K Vn "split" f43)
 (Sa:Fi K Vo "split" f43)
 (Sb:Fi K Vp "split" f43)
 (Sc:Fi K Vj "split" f43)
 (r43:FM K "split" "Way.split" xz f43)
 (r44:FD K "multiplied" xc f44)
 (Sd:Fi K Vi "split" f45)
 (r45:FM K "split" "Pairs.split" yX f45)
 (r46:FD K "carries_and_rows" ya f46)
 (r47:FD K "leads_of" x_ f47)
 (a48_Machine:Fi K C_Machine "__init__" f48)
 (r48:FM K "__init__" "Machine.__init__" yE f48)
 (r49:FD K "law" vG f49)
 (Vx:ClR K Vn "base")
 (Vy:ClR K Vo "base")
 (Vz:ClR K Vp "half")
 (Uk:ClR K Vj "first")
 (Ul:ClR K Vl "most")
 (VA:ClR K Vi "most")
 (c_Machine:ClR K C_Machine "found")
 (nb_Machine_made:PySem.W.findIn K (.ref C_Machine) "made"=some none)
 (nb_Machine_leads:PySem.W.findIn K (.ref C_Machine) "leads"=some none)
 (UX:IR K Vn)
 (VB:Ki K Vn Vi false)
 (VC:Ki K Vn Vj false)
 (VD:Ki K Vn Vl false)
 (UY:IR K Vo)
 (VE:Ki K Vo Vi false)
 (VF:Ki K Vo Vj false)
 (VG:Ki K Vo Vl false)
 (UZ:IR K Vp)
 (VH:Ki K Vp Vi false)
 (VI:Ki K Vp Vj false)
 (VJ:Ki K Vp Vl false)
 (U_:IR K Vj)
 (VL:Ki K Vj Vi false)
 (VM:Ki K Vj Vj true)
 (VN:Ki K Vj Vl false)
 (Ta:IR K Vl)
 (VO:Ki K Vl Vi false)
 (VP:Ki K Vl Vj false)
 (VQ:Ki K Vl Vl true)
 (Tb:IR K Vi)
 (VR:Ki K Vi Vi true)
 (VS:Ki K Vi Vj false)
 (VT:Ki K Vi Vl false)
 (in_:PySem.W.specialIn K (.builtin "object.__class__") "__get__"=some (some (.builtin "getset_descriptor.__get__")))
 (it_:PySem.W.takesIn K (.builtin "object.__class__")=some true)
 (VU:ExcK K Vh)
 (Up:x8 K Vh)
 (Uq:PySem.W.exmOne K (.ref Vh) (.ref Vu)=some true)
 (Ur:Ki K Vh Vu true)
 (Us:Ki K Vh Vf false)
 (Ut:Ki K Vh Vg false)
 (Uu:Ki K Vh Ub false)
 (Uv:Ki K Vh Uc false)
 (Uw:Ki K Vh Ud false)
 (Ux:Ki K Vh Ue false)
 (Uy:Ki K Vh Uf false)
 (Uz:Ki K Vh Ug false)
 (UA:Ki K Vh Uh false)
 (UB:Ki K Vh Vh true)
 (UC:Ki K Vh Ui false)
 (UD:Ki K Vh Uj false)
 (UE:PySem.W.kitOne K (.ref Vh) (.type "ValueError")=some true)
 (VV:ExcK K Vg)
 (UF:x8 K Vg)
 (UG:PySem.W.exmOne K (.ref Vg) (.ref Vu)=some true)
 (UH:Ki K Vg Vu true)
 (UI:Ki K Vg Vf false)
 (UJ:Ki K Vg Vg true)
 (UK:Ki K Vg Ub false)
 (UL:Ki K Vg Uc false)
 (UM:Ki K Vg Ud false)
 (UN:Ki K Vg Ue false)
 (UO:Ki K Vg Uf false)
 (UP:Ki K Vg Ug false)
 (UQ:Ki K Vg Uh false)
 (UR:Ki K Vg Vh false)
 (US:Ki K Vg Ui false)
 (UT:Ki K Vg Uj false)
 (UU:PySem.W.kitOne K (.ref Vg) (.type "ValueError")=some true)
 (VW:ExcK K Vf)
 (Vk:x8 K Vf)
 (VX:PySem.W.exmOne K (.ref Vf) (.ref Vu)=some true)
 (UV:Ki K Vf Vu true)
 (VY:Ki K Vf Vf true)
 (VZ:Ki K Vf Vg false)
 (V0:Ki K Vf Ub false)
 (V1:Ki K Vf Uc false)
 (V2:Ki K Vf Ud false)
 (V3:Ki K Vf Ue false)
 (V4:Ki K Vf Uf false)
 (V5:Ki K Vf Ug false)
 (V6:Ki K Vf Uh false)
 (V7:Ki K Vf Vh false)
 (V8:Ki K Vf Ui false)
 (V9:Ki K Vf Uj false)
 (V_:PySem.W.kitOne K (.ref Vf) (.type "ValueError")=some true)
 (z_isinstance:Zn K "isinstance")
 (z_int:Zn K "int")
 (z_bool:Zn K "bool")
 (z_tuple:Zn K "tuple")
 (z_list:Zn K "list")
 (z_len:Zn K "len")
 (z_range:Zn K "range")
 (z_min:Zn K "min")
 (z_ValueError:Zn K "ValueError"):
 ∃ fd:FuncData,(∀ (s:Shared) (v:Value),BindsTo s fd ⟨[v],[]⟩ [("_law_script",v)])∧∀ base:Heap,K.In base→base.Ns mainGlobals mg→FnOk l.prog w K mg base CX0 8 fa fd ["_law_script"] (zo K (p9)):=by
 have mn {n:Str} (z:Zn K n):=PySem.W.mg_none_of X G z
 have mo {n:Str} {C:Addr} (z:Gc K n C):=PySem.W.mg_of X G z
 let A:Adr:=⟨Vn,Vo,Vp,Vj,Vl,Vi,C_Machine,Vu,Vf,Vg,Ub,Uc,Ud,Ue,Uf,Ug,Uh,Vh,Ui,Uj⟩
 have T:Txt K mg A:=⟨WD K,mn z_isinstance,mn z_int,mn z_bool,mn z_tuple,mn z_list,mn z_len,mn z_range,mn z_min,mn z_ValueError,Vx.cls,Vx.na,Vy.cls,Vy.na,Vz.cls,Vz.na,Uk.cls,Uk.na,Ul.cls,Ul.na,VA.cls,VA.na,c_Machine.cls,c_Machine.na,nb_Machine_made,nb_Machine_leads,mo UW,mo Tl,mo Tm,⟨Vx.cls,UX.1,in_,it_,UX.2⟩,VB,VC,VD,⟨Vy.cls,UY.1,in_,it_,UY.2⟩,VE,VF,VG,⟨Vz.cls,UZ.1,in_,it_,UZ.2⟩,VH,VI,VJ,⟨Uk.cls,U_.1,in_,it_,U_.2⟩,VL,VM,VN,⟨Ul.cls,Ta.1,in_,it_,Ta.2⟩,VO,VP,VQ,⟨VA.cls,Tb.1,in_,it_,Tb.2⟩,VR,VS,VT,mo Tn,mo To,mo Tp,mo Tq,mo Tr,mo Ts,mo Tt,mo Tu,mo Tv,mo Tw,mo Tx,mo Ty,mo Tz,VU,Up,Uq,Ur,Us,Ut,Uu,Uv,Uw,Ux,Uy,Uz,UA,UB,UC,UD,UE,VV,UF,UG,UH,UI,UJ,UK,UL,UM,UN,UO,UP,UQ,UR,US,UT,UU,VW,Vk,VX,UV,VY,VZ,V0,V1,V2,V3,V4,V5,V6,V7,V8,V9,V_⟩
 obtain ⟨_,m1,F1,b1⟩:=r1.get X G ["_law_cell"] (bz1 rfl fun _ _ _ _ _ _ _=>rfl)
 obtain ⟨_,m2,F2,b2⟩:=r2.get X G ["_law_script","_law_k"] (bz2 rfl fun _ _ _ _ _ _ _ _=>rfl)
 obtain ⟨_,m3,F3,b3⟩:=r3.get X G ["_law_name","_law_number","_law_cell"] (bz3 rfl fun _ _ _ _ _ _ _ _ _=>rfl)
 obtain ⟨_,m4,F4,b4⟩:=r4.get X G ["value"] (bz1 rfl fun _ _ _ _ _ _ _=>rfl)
 obtain ⟨_,m5,F5,b5⟩:=r5.get X G ["number","least","most"] (bz3 rfl fun _ _ _ _ _ _ _ _ _=>rfl)
 obtain ⟨_,F6,b6⟩:=r6.get ["self","base"] (bz2 rfl fun _ _ _ _ _ _ _ _=>rfl)
 obtain ⟨_,F7,b7⟩:=r7.get ["self","base"] (bz2 rfl fun _ _ _ _ _ _ _ _=>rfl)
 obtain ⟨_,F8,b8⟩:=r8.get ["self","half"] (bz2 rfl fun _ _ _ _ _ _ _ _=>rfl)
 obtain ⟨_,F9,b9⟩:=r9.get ["self","most"] (bz2 rfl fun _ _ _ _ _ _ _ _=>rfl)
 obtain ⟨_,m10,F10,b10⟩:=r10.get X G ["_law_name","_law_number"] (bz2 rfl fun _ _ _ _ _ _ _ _=>rfl)
 obtain ⟨_,m11,F11,b11⟩:=r11.get X G ["_law_name","_law_thing"] (bz2 rfl fun _ _ _ _ _ _ _ _=>rfl)
 obtain ⟨_,m12,F12,b12⟩:=r12.get X G ["_law_name","_law_number","_law_figure"] (bz3 rfl fun _ _ _ _ _ _ _ _ _=>rfl)
 obtain ⟨_,m13,F13,b13⟩:=r13.get X G ["_law_one","_law_other"] (bz2 rfl fun _ _ _ _ _ _ _ _=>rfl)
 obtain ⟨_,m14,F14,b14⟩:=r14.get X G ["_law_name","_law_number","_law_carry"] (bz3 rfl fun _ _ _ _ _ _ _ _ _=>rfl)
 obtain ⟨_,m15,F15,b15⟩:=r15.get X G ["_law_name","_law_number","_law_row","_law_last"] (bz4 rfl fun _ _ _ _ _ _ _ _ _ _=>rfl)
 obtain ⟨_,m16,F16,b16⟩:=r16.get X G ["_law_name"] (bz1 rfl fun _ _ _ _ _ _ _=>rfl)
 obtain ⟨_,m17,F17,b17⟩:=r17.get X G ["_law_name","_law_number","_law_found","_law_totals"] (bz4 rfl fun _ _ _ _ _ _ _ _ _ _=>rfl)
 obtain ⟨_,F18,b18⟩:=r18.get ["self"] (bz1 rfl fun _ _ _ _ _ _ _=>rfl)
 obtain ⟨_,m19,F19,b19⟩:=r19.get X G ["_law_name","_law_machine","_law_totals"] (bz3 rfl fun _ _ _ _ _ _ _ _ _=>rfl)
 obtain ⟨_,m20,F20,b20⟩:=r20.get X G ["_law_e"] (bz1 rfl fun _ _ _ _ _ _ _=>rfl)
 obtain ⟨_,F21,b21⟩:=r21.get ["self","totals"] (bz2 rfl fun _ _ _ _ _ _ _ _=>rfl)
 obtain ⟨_,m22,F22,b22⟩:=r22.get X G ["_law_machine","_law_totals"] (bz2 rfl fun _ _ _ _ _ _ _ _=>rfl)
 obtain ⟨_,m23,F23,b23⟩:=r23.get X G ["way"] (bz1 rfl fun _ _ _ _ _ _ _=>rfl)
 obtain ⟨_,m24,F24,b24⟩:=r24.get X G ["way"] (bz1 rfl fun _ _ _ _ _ _ _=>rfl)
 obtain ⟨_,m25,F25,b25⟩:=r25.get X G ["way","low","high"] (bz3 rfl fun _ _ _ _ _ _ _ _ _=>rfl)
 obtain ⟨_,m26,F26,b26⟩:=r26.get X G ["number"] (bz1 rfl fun _ _ _ _ _ _ _=>rfl)
 obtain ⟨_,m27,F27,b27⟩:=r27.get X G ["one","other"] (bz2 rfl fun _ _ _ _ _ _ _ _=>rfl)
 obtain ⟨_,F28,b28⟩:=r28.get ["self"] (bz1 rfl fun _ _ _ _ _ _ _=>rfl)
 obtain ⟨_,F29,b29⟩:=r29.get ["self"] (bz1 rfl fun _ _ _ _ _ _ _=>rfl)
 obtain ⟨_,F30,b30⟩:=r30.get ["self","place"] (bz2 rfl fun _ _ _ _ _ _ _ _=>rfl)
 obtain ⟨_,F31,b31⟩:=r31.get ["self","place"] (bz2 rfl fun _ _ _ _ _ _ _ _=>rfl)
 obtain ⟨_,F32,b32⟩:=r32.get ["self","place"] (bz2 rfl fun _ _ _ _ _ _ _ _=>rfl)
 obtain ⟨_,F33,b33⟩:=r33.get ["self","place"] (bz2 rfl fun _ _ _ _ _ _ _ _=>rfl)
 obtain ⟨_,F34,b34⟩:=r34.get ["self","place"] (bz2 rfl fun _ _ _ _ _ _ _ _=>rfl)
 obtain ⟨_,F35,b35⟩:=r35.get ["self","place"] (bz2 rfl fun _ _ _ _ _ _ _ _=>rfl)
 obtain ⟨_,F36,b36⟩:=r36.get ["self","place"] (bz2 rfl fun _ _ _ _ _ _ _ _=>rfl)
 obtain ⟨_,F37,b37⟩:=r37.get ["self","place"] (bz2 rfl fun _ _ _ _ _ _ _ _=>rfl)
 obtain ⟨_,F38,b38⟩:=r38.get ["self","place"] (bz2 rfl fun _ _ _ _ _ _ _ _=>rfl)
 obtain ⟨_,F39,b39⟩:=r39.get ["self","place"] (bz2 rfl fun _ _ _ _ _ _ _ _=>rfl)
 obtain ⟨_,F40,b40⟩:=r40.get ["self","place"] (bz2 rfl fun _ _ _ _ _ _ _ _=>rfl)
 obtain ⟨_,F41,b41⟩:=r41.get ["self","place"] (bz2 rfl fun _ _ _ _ _ _ _ _=>rfl)
 obtain ⟨_,F42,b42⟩:=r42.get ["self","place"] (bz2 rfl fun _ _ _ _ _ _ _ _=>rfl)
 obtain ⟨_,F43,b43⟩:=r43.get ["self","total","place"] (bz3 rfl fun _ _ _ _ _ _ _ _ _=>rfl)
 obtain ⟨_,m44,F44,b44⟩:=r44.get X G ["one","other"] (bz2 rfl fun _ _ _ _ _ _ _ _=>rfl)
 obtain ⟨_,F45,b45⟩:=r45.get ["self","total","place"] (bz3 rfl fun _ _ _ _ _ _ _ _ _=>rfl)
 obtain ⟨_,m46,F46,b46⟩:=r46.get X G ["way","low","high"] (bz3 rfl fun _ _ _ _ _ _ _ _ _=>rfl)
 obtain ⟨_,m47,F47,b47⟩:=r47.get X G ["rows"] (bz1 rfl fun _ _ _ _ _ _ _=>rfl)
 obtain ⟨_,F48,b48⟩:=r48.get ["self","way","low","high"] (bz4 rfl fun _ _ _ _ _ _ _ _ _ _=>rfl)
 obtain ⟨a49,_,_,kV,dc,pm,an,cd,ct,_,l49,c49,k49⟩:=r49
 cases hfa.symm.trans (PySem.W.mg_of X G a49)
 have F49:=qP (st:=vG) l49 c49 k49
 refine ⟨PySem.W.fnOf "law" "law" (defArgs vG) (defBody vG) (defScope vG) .none kV dc pm an cd ct,fun s v=>.of_eq rfl,fun base _ _=>?_⟩
 have G__law_chosen:=DOk.mk' F1 m1 b1 (tE (P:=l.prog) (w:=w) (base:=base) T F1)
 have G__law_cell_at:=DOk.mk' F2 m2 b2 (uu (P:=l.prog) (w:=w) (base:=base) T F2)
 have G__law_span:=DOk.mk' F3 m3 b3 (rn (P:=l.prog) (w:=w) (base:=base) T F3)
 have G_is_whole:=DOk.mk' F4 m4 b4 (rq (P:=l.prog) (w:=w) (base:=base) T F4)
 have G_bounded:=DOk.mk' F5 m5 b5 (qy T G_is_whole F5)
 have Te:KOk l.prog w K mg base 3 "Plain" A.Plain "base" (Kd.ok .plain):=⟨_,_,_,mo Ti,⟨Vx.mks,TC,r6.1,Vx.kc⟩,b6,tF T G_bounded F6⟩
 have Tf:KOk l.prog w K mg base 3 "Below" A.Below "base" (Kd.ok .below):=⟨_,_,_,mo Tj,⟨Vy.mks,TD,r7.1,Vy.kc⟩,b7,tJ T G_bounded F7⟩
 have Tg:KOk l.prog w K mg base 3 "Balanced" A.Balanced "half" (Kd.ok .balanced):=⟨_,_,_,mo Tk,⟨Vz.mks,TF,r8.1,Vz.kc⟩,b8,vj T G_bounded F8⟩
 have Th:KOk l.prog w K mg base 3 "Pairs" A.Pairs "most" (Kd.ok .pairs):=⟨_,_,_,mo UW,⟨VA.mks,TH,r9.1,VA.kc⟩,b9,tH T G_bounded F9⟩
 have G__law_way:=DOk.mk' F10 m10 b10 (qx T Te Tf Tg Th F10)
 have G__law_is_number:=DOk.mk' F11 m11 b11 (vg (P:=l.prog) (w:=w) (base:=base) T F11)
 have G__law_is_figure:=DOk.mk' F12 m12 b12 (vh (P:=l.prog) (w:=w) (base:=base) T F12)
 have G__law_added:=DOk.mk' F13 m13 b13 (sG (P:=l.prog) (w:=w) (base:=base) T F13)
 have G__law_times:=DOk.mk' F14 m14 b14 (sD (P:=l.prog) (w:=w) (base:=base) T F14)
 have G__law_high:=DOk.mk' F15 m15 b15 (rp T G__law_added G__law_times F15)
 have G__law_nought:=DOk.mk' F16 m16 b16 (tD (P:=l.prog) (w:=w) (base:=base) T F16)
 have G__law_read:=DOk.mk' F17 m17 b17 (ro T G__law_is_number G__law_is_figure G__law_high G__law_nought F17)
 have N_Machine_rows:=WL l w base T.cl_Machine a18_Machine r18 F18 b18 (vR T F18)
 have HMr:=N_Machine_rows
 have G__law_by_rows:=DOk.mk' F19 m19 b19 (uv T G__law_nought HMr F19)
 have G__law_names:=DOk.mk' F20 m20 b20 (sE (P:=l.prog) (w:=w) (base:=base) T F20)
 have N_Machine_read:=Z8 l w base T.cl_Machine a21_Machine r21 F21 b21 (vS T F21)
 have HMd:=N_Machine_read
 have G__law_refused:=DOk.mk' F22 m22 b22 (ut T G__law_names HMd F22)
 have G_held_to_have_one_ratio:=DOkX.mk' F23 m23 b23 (yP (P:=l.prog) (w:=w) (base:=base) T F23)
 have G_farthest_total:=DOk.mk' F24 m24 b24 (wD (P:=l.prog) (w:=w) (base:=base) T F24)
 have G_held_to_be_a_span:=DOkX.mk' F25 m25 b25 (xC T G_farthest_total F25)
 have G_as_pair:=DOk.mk' F26 m26 b26 (qz T G_is_whole F26)
 have G_added:=DOk.mk' F27 m27 b27 (nL T G_is_whole G_as_pair F27)
 have SF:=mkr l w base T.Vs TJ r28 F28 b28 (z8 T F28)
 have SG:=mkr l w base T.Vt TK r28 F28 b28 (z8 T F28)
 have SH:=mkr l w base T.Vr TL r28 F28 b28 (z8 T F28)
 have SI:=mkr l w base T.Vv TM r28 F28 b28 (z8 T F28)
 have SJ:=mkr l w base T.Uo TN r28 F28 b28 (z8 T F28)
 have SK:=mkr l w base T.Vm TQ r29 F29 b29 (vQ T F29)
 have HNo:∀ k:Kd,MOk l.prog w K mg base 1 (A.at k) "nought" (X8 k):=fun k=>match k with
  | .plain=>SF | .below=>SG | .balanced=>SH | .growing=>SI | .falling=>SJ | .pairs=>SK
 have SL:=mkr l w base T.Vs TR r30 F30 b30 (yI T F30)
 have SM:=mkr l w base T.Vt TU r30 F30 b30 (yI T F30)
 have SN:=mkr l w base T.Vv TV r30 F30 b30 (yI T F30)
 have SO:=mkr l w base T.Uo TW r30 F30 b30 (yI T F30)
 have SQ:=mkr l w base T.Vm TX r30 F30 b30 (yI T F30)
 have SR:=mkr l w base T.Vr TY r31 F31 b31 (vW T F31)
 have SS:=mkr l w base T.Vs TZ r32 F32 b32 (tG T F32)
 have ST:=mkr l w base T.Vt T0 r33 F33 b33 (tK T F33)
 have SU:=mkr l w base T.Vr T1 r34 F34 b34 (vk T F34)
 have SV:=mkr l w base T.Vv T2 r35 F35 b35 (vU T F35)
 have SW:=mkr l w base T.Uo T3 r36 F36 b36 (vV T F36)
 have SY:=mkr l w base T.Vm T4 r37 F37 b37 (tI T F37)
 have HLo:∀ k:Kd,MOk l.prog w K mg base 1 (A.at k) "low" (xN A k (k.low))∧MOk l.prog w K mg base 1 (A.at k) "high" (xN A k (k.high)):=fun k=>match k with
  | .plain=>⟨SL.imp fun ds Q ⟨n,p,e,_,q⟩=>⟨_,_,e,q⟩,SS⟩
  | .below=>⟨SM.imp fun ds Q ⟨n,p,e,_,q⟩=>⟨_,_,e,q⟩,ST⟩
  | .balanced=>⟨SR,SU⟩
  | .growing=>⟨SN.imp fun ds Q ⟨n,p,e,_,q⟩=>⟨_,_,e,q⟩,SV⟩
  | .falling=>⟨SO.imp fun ds Q ⟨n,p,e,_,q⟩=>⟨_,_,e,q⟩,SW⟩
  | .pairs=>⟨SQ.imp fun ds Q ⟨n,p,e,_,q⟩=>⟨_,_,e,q⟩,SY⟩
 have SZ:=mkr l w base T.Vs T5 r38 F38 b38 (uw T F38)
 have S0:=mkr l w base T.Vt T6 r39 F39 b39 (uz T F39)
 have S1:=mkr l w base T.Vr T7 r40 F40 b40 (wE T F40)
 have S2:=mkr l w base T.Vv T8 r41 F41 b41 (vi T F41)
 have S3:=mkr l w base T.Vm T9 r42 F42 b42 (uy T F42)
 have HR:∀ k:Kd,k.five=true→MOk l.prog w K mg base 1 (A.at k) "ratio" (wt A k (k.ratN)):=fun k hk=>match k,hk with
  | .plain,_=>SZ
  | .below,_=>S0
  | .balanced,_=>S1
  | .growing,_=>S2
  | .pairs,_=>S3
 have S4:=mkr l w base T.Vs T_ r43 F43 b43 (yz T HLo HR F43)
 have S5:=mkr l w base T.Vt Sa r43 F43 b43 (yz T HLo HR F43)
 have S6:=mkr l w base T.Vr Sb r43 F43 b43 (yz T HLo HR F43)
 have S7:=mkr l w base T.Vv Sc r43 F43 b43 (yz T HLo HR F43)
 have G_multiplied:=DOk.mk' F44 m44 b44 (tz T G_is_whole G_as_pair F44)
 have S8:=mkr l w base T.Vm Sd r45 F45 b45 (ux T G_as_pair G_multiplied F45)
 have HSp:∀ k:Kd,k.five=true→MOk l.prog w K mg base 4 (A.at k) "split" (pX A k):=fun k hk=>match k,hk with
  | .plain,_=>(S4.imp fun ds Q ⟨n,m,j,e,⟨a,em⟩,h1,h2,q⟩=>⟨.plain,n,a,j,by rw [e,em]; rfl,rfl,h1,h2,by rw [em] at q; exact q⟩).mono (by decide)
  | .below,_=>(S5.imp fun ds Q ⟨n,m,j,e,⟨a,em⟩,h1,h2,q⟩=>⟨.below,n,a,j,by rw [e,em]; rfl,rfl,h1,h2,by rw [em] at q; exact q⟩).mono (by decide)
  | .balanced,_=>(S6.imp fun ds Q ⟨n,m,j,e,⟨a,em⟩,h1,h2,q⟩=>⟨.balanced,n,a,j,by rw [e,em]; rfl,rfl,h1,h2,by rw [em] at q; exact q⟩).mono (by decide)
  | .growing,_=>(S7.imp fun ds Q ⟨n,m,j,e,⟨a,em⟩,h1,h2,q⟩=>⟨.growing,n,a,j,by rw [e,em]; rfl,rfl,h1,h2,by rw [em] at q; exact q⟩).mono (by decide)
  | .pairs,_=>(S8.imp fun ds Q ⟨n,m,j,e,_,h1,h2,q⟩=>⟨n,_,m,j,e,pC m,h1,q⟩).mono (by decide)
 have G_carries_and_rows:=TOk.mk' F46 m46 b46 (x5 T G_added HNo HSp F46)
 have G_leads_of:=DOk.mk' F47 m47 b47 (rm (P:=l.prog) (w:=w) (base:=base) T F47)
 have M_Machine:Z4 l.prog w K mg base 6 "Machine" A.Machine "found" "made" "leads" (qZ l.prog w K A):=⟨_,_,_,mo aC_Machine,⟨c_Machine.mks,a48_Machine,r48.1,c_Machine.kc⟩,b48,vT T G_held_to_have_one_ratio G_held_to_be_a_span G_carries_and_rows G_leads_of F48⟩
 exact cQ T G__law_chosen G__law_cell_at G__law_span G__law_way G__law_read G__law_by_rows G__law_nought G__law_refused M_Machine HMd F49
theorem walk {l:PySem.W.OpenLaw} {q:Program} {loose:List Str} {XP:(Str→Option Value)→Heap→Prop} {YP:World→Heap→Prop} {d:DefRec} {K:Params→PySem.W.Frag} (hn:l.most=some 63) (hdf:d.params.defaults=[])
  (hY:∀ (w:World) (h:Heap),YP w h→(K w.params).In h)
  (F:∀ (w:World) (mg:Str→Option Value) (fa:Addr) (h:Heap),(K w.params).In h→h.Ns mainGlobals mg→mg d.name=some (.ref fa)→
   ∃ fd:FuncData,(∀ (s:Shared) (u:Value),BindsTo s fd ⟨[u],[]⟩ [("_law_script",u)])∧∀ base:Heap,(K w.params).In base→base.Ns mainGlobals mg→FnOk l.prog w (K w.params) mg base CX0 8 fa fd ["_law_script"] (zo (K w.params) (p9))):
  PySem.W.WalkO q loose XP YP l.row.toRowW d [] (fun f vs=>PySem.call f vs):=
 L2.walk_of (n:=63) (k:=8) (x:="_law_script") (CX:=fun _=>CX0) (sp:=fun w=>zo (K w.params) (p9)) hn (by decide) hdf ⟨rfl,by decide,by decide⟩ hY F (fun w H a ns hl _ hS=>⟨⟨H,H,Same.refl H⟩,[.scr ns],fun d=>d=.bl true,rfl,allIs_cons.mpr ⟨_,_,rfl,is_scr.mpr ⟨a,rfl,hS⟩,allIs_nil.mpr rfl⟩,⟨ns,rfl,hl,rfl⟩,fun d v W' _ i e=>by subst e; exact is_bl.mp i⟩) fun _ _ _ _ _ z=>z
end My
local macro_rules | `(tactic| walk_at "fx") => `(tactic| (refine' My.FX.mk ?l ?c ?k; (case l => k_is); (case c => k_is); (case k => k_is)))
local macro_rules | `(tactic| walk_at "kk") => `(tactic| first | k_is | kit_is | kts_exm | (delta L2.ExcK; k_exc) | (delta My.Fi; k_is) | (delta My.Zn; k_is) | (delta My.Gs; k_is) | (delta My.Gc; k_is) | (delta My.Ki; kit_is) | (delta My.FD; refine ⟨?a, ?b⟩; (case a => k_is); (case b => walk_at "fx")) | (delta My.FE; refine ⟨?a, ?b⟩; (case a => k_is); (case b => walk_at "fx")) | (delta My.FM; refine ⟨?a, ?b⟩; (case a => k_is); (case b => walk_at "fx")) | (refine ⟨⟨?_, ?_, ?_, ?_⟩, ?_, ?_, ?_⟩ <;> k_is) | (refine ⟨?_, ?_, ?_, ?_, ?_, ?_, ?_⟩ <;> k_is) | (refine ⟨?_, ?_⟩ <;> k_is))
open PySem PySem.W PyProof.Rows
set_option maxRecDepth 100000 in
set_option maxHeartbeats 0 in
theorem PySem.Challenge.cw_oddbases_k47_machine_reads_holds : PySem.Challenge.rw_oddbases_k47_machine_reads.Holds := by
 w_on; o_law
 refine holds_open (q:=My.h_view_39) (loose:=[]) (Xt:=(fun s=>xlAt My.h_view_39 [] s && recOk (RowW.records (OpenRow.toRowW PySem.Challenge.rw_oddbases_k47_machine_reads.row)) s)) (XP:=XL My.h_view_39 []) (Yf:=Hook.obs (kHook My.h_heap_39 My.myAs My.myE)) (Ya:=Hook.val (kHook My.h_heap_39 My.myAs My.myE)) (YP:=Hook.says (kHook My.h_heap_39 My.myAs My.myE)) (N:=13014) My.left (Hook.of _) (Hook.keeps _) (fun s e=>xl_of s (Bool.and_eq_true_iff.mp e).1) XL.keeps (by rfl) (by rfl) (by rfl) (fun s e=>recFacts_of (Bool.and_eq_true_iff.mp e).2) (by rfl) (by first | assumption | decide +kernel) (by decide +kernel) ⟨rfl,rfl,rfl,rfl,rfl,by decide +kernel⟩ ?hw ?hc
 case hw=>w_witness2
 k_fill
 refine My.walk (l:=PySem.Challenge.rw_oddbases_k47_machine_reads) rfl rfl (fun w h Y=>PySem.W.kIn_of Y) ?F
 case F=>
  intro w mg fa h KX G hmg
  refine' My.all_mk KX G hmg ?Ti ?Tj ?Tk ?Tl ?Tm ?UW ?aC_Machine ?Tn ?To ?Tp ?Tq ?Tr ?Ts ?Tt ?Tu ?Tv ?Tw ?Tx ?Ty ?Tz ?r1 ?r2 ?r3 ?r4 ?r5 ?TC ?r6 ?TD ?r7 ?TF ?r8 ?TH ?r9 ?r10 ?r11 ?r12 ?r13 ?r14 ?r15 ?r16 ?r17 ?a18_Machine ?r18 ?r19 ?r20 ?a21_Machine ?r21 ?r22 ?r23 ?r24 ?r25 ?r26 ?r27 ?TJ ?TK ?TL ?TM ?TN ?r28 ?TQ ?r29 ?TR ?TU ?TV ?TW ?TX ?r30 ?TY ?r31 ?TZ ?r32 ?T0 ?r33 ?T1 ?r34 ?T2 ?r35 ?T3 ?r36 ?T4 ?r37 ?T5 ?r38 ?T6 ?r39 ?T7 ?r40 ?T8 ?r41 ?T9 ?r42 ?T_ ?Sa ?Sb ?Sc ?r43 ?r44 ?Sd ?r45 ?r46 ?r47 ?a48_Machine ?r48 ?r49 ?Vx ?Vy ?Vz ?Uk ?Ul ?VA ?c_Machine ?nb_Machine_made ?nb_Machine_leads ?UX ?VB ?VC ?VD ?UY ?VE ?VF ?VG ?UZ ?VH ?VI ?VJ ?U_ ?VL ?VM ?VN ?Ta ?VO ?VP ?VQ ?Tb ?VR ?VS ?VT ?in_ ?it_ ?VU ?Up ?Uq ?Ur ?Us ?Ut ?Uu ?Uv ?Uw ?Ux ?Uy ?Uz ?UA ?UB ?UC ?UD ?UE ?VV ?UF ?UG ?UH ?UI ?UJ ?UK ?UL ?UM ?UN ?UO ?UP ?UQ ?UR ?US ?UT ?UU ?VW ?Vk ?VX ?UV ?VY ?VZ ?V0 ?V1 ?V2 ?V3 ?V4 ?V5 ?V6 ?V7 ?V8 ?V9 ?V_ ?z_isinstance ?z_int ?z_bool ?z_tuple ?z_list ?z_len ?z_range ?z_min ?z_ValueError
  case Ti | Tj | Tk | Tl | Tm | UW | aC_Machine | Tn | To | Tp | Tq | Tr | Ts | Tt | Tu | Tv | Tw | Tx | Ty | Tz | r1 | r2 | r3 | r4 | r5 | TC | r6 | TD | r7 | TF | r8 | TH | r9 | r10 | r11 | r12 | r13 | r14 | r15 | r16 | r17 | a18_Machine | r18 | r19 | r20 | a21_Machine | r21 | r22 | r23 | r24 | r25 | r26 | r27 | TJ | TK | TL | TM | TN | r28 | TQ | r29 | TR | TU | TV | TW | TX | r30 | TY | r31 | TZ | r32 | T0 | r33 | T1 | r34 | T2 | r35 | T3 | r36 | T4 | r37 | T5 | r38 | T6 | r39 | T7 | r40 | T8 | r41 | T9 | r42 | T_ | Sa | Sb | Sc | r43 | r44 | Sd | r45 | r46 | r47 | a48_Machine | r48 | r49 | Vx | Vy | Vz | Uk | Ul | VA | c_Machine | nb_Machine_made | nb_Machine_leads | UX | VB | VC | VD | UY | VE | VF | VG | UZ | VH | VI | VJ | U_ | VL | VM | VN | Ta | VO | VP | VQ | Tb | VR | VS | VT | in_ | it_ | VU | Up | Uq | Ur | Us | Ut | Uu | Uv | Uw | Ux | Uy | Uz | UA | UB | UC | UD | UE | VV | UF | UG | UH | UI | UJ | UK | UL | UM | UN | UO | UP | UQ | UR | US | UT | UU | VW | Vk | VX | UV | VY | VZ | V0 | V1 | V2 | V3 | V4 | V5 | V6 | V7 | V8 | V9 | V_ | z_isinstance | z_int | z_bool | z_tuple | z_list | z_len | z_range | z_min | z_ValueError=>walk_at "kk"
