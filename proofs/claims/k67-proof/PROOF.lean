import PyProof.Rows.All
import Wide.All
import OpenK.AllK
import Wide.FinOn
import Lean
import PyProof.EqAt
import PyProof.EqKinds
import PyProof.TupleCall
import PyProof.NeKinds
import PySem.Challenge.RW_oddbases_k67_whole_order
set_option Elab.async false
set_option linter.all false
set_option maxRecDepth 100000
namespace L2
open PySem PySem.Spec PyProof.Rows
abbrev Key:=Sum Int Str
def cH:Key→Value→Bool
 | .inl k,v=>Value.isInt k v
 | .inr x,v=>Value.isStrOf x v
def UW (w:World):Key→Int
 | .inl k=>hashInt k
 | .inr x=>hashStr w x
theorem zP:∀ {k:Key} {v:Value},cH k v=true→(∃ i t,k=Sum.inl i∧v=Value.int i t)∨(∃ x t,k=Sum.inr x∧v=Value.str x t)
 | .inl i,v,h=>by
  obtain ⟨t,e⟩:=Value.isInt_shape (k:=i) (v:=v) h
  exact .inl ⟨i,t,rfl,e⟩
 | .inr x,v,h=>by
  obtain ⟨t,e⟩:=Value.isStrOf_shape (x:=x) (v:=v) h
  exact .inr ⟨x,t,rfl,e⟩
theorem Xr (a b:Int):decide ((Sum.inl a:Key)=Sum.inl b)=(a == b):=by
 by_cases e:a=b
 ·subst e; simp
 ·have h:¬ (Sum.inl a:Key)=Sum.inl b:=fun q=>e (Sum.inl.inj q)
  rw [decide_eq_false h]
  exact (beq_eq_false_iff_ne.mpr e).symm
theorem Xo (a b:Str):decide ((Sum.inr a:Key)=Sum.inr b)=decide (a=b):=by
 by_cases e:a=b
 ·subst e; simp
 ·have h:¬ (Sum.inr a:Key)=Sum.inr b:=fun q=>e (Sum.inr.inj q)
  rw [decide_eq_false h,decide_eq_false e]
theorem Xq (a:Int) (b:Str):decide ((Sum.inl a:Key)=Sum.inr b)=false:=decide_eq_false (fun q=>nomatch q)
theorem Xp (a:Str) (b:Int):decide ((Sum.inr a:Key)=Sum.inl b)=false:=decide_eq_false (fun q=>nomatch q)
def qc (prog:Program) (w:World):PySem.KeyKind prog w Key where
 is:=cH
 hash:=UW w
 inj:=fun v a b ha hb=>by
  rcases zP ha with ⟨i,t,rfl,rfl⟩ | ⟨x,t,rfl,rfl⟩
  ·rcases zP hb with ⟨j,u,rfl,e⟩ | ⟨y,u,rfl,e⟩
   ·injection e with e1 _; rw [e1]
   ·exact nomatch e
  ·rcases zP hb with ⟨j,u,rfl,e⟩ | ⟨y,u,rfl,e⟩
   ·exact nomatch e
   ·injection e with e1 _; rw [e1]
 byValue:=fun k v h=>by
  rcases zP h with ⟨i,t,rfl,rfl⟩ | ⟨x,t,rfl,rfl⟩ <;> rfl
 pyHash:=fun hv h=>by
  rcases zP hv with ⟨i,t,rfl,rfl⟩ | ⟨x,t,rfl,rfl⟩
  ·exact wpAny_pyHash_int h
  ·exact wpAny_pyHash_str h
 eqBool:=fun hu hv h=>by
  rcases zP hu with ⟨i,t,rfl,rfl⟩ | ⟨x,t,rfl,rfl⟩
  ·rcases zP hv with ⟨j,u,rfl,rfl⟩ | ⟨y,u,rfl,rfl⟩
   ·rw [Xr] at h; exact wpAny_eqBool_int h
   ·rw [Xq] at h; exact SeqAt.EqAt.int_str i t y u _ _ _ _ h
  ·rcases zP hv with ⟨j,u,rfl,rfl⟩ | ⟨y,u,rfl,rfl⟩
   ·rw [Xp] at h; exact SeqAt.EqAt.str_int x t j u _ _ _ _ h
   ·rw [Xo] at h; exact wpAny_eqBool_str h
 «strs»:=fun k x t v h=>by
  rcases zP h with ⟨i,u,rfl,e⟩ | ⟨y,u,rfl,e⟩
  ·exact nomatch e
  ·injection e with e1 _
   subst e1
   cases v <;> rfl
end L2
namespace L2
open PySem PySem.Spec PyProof.Rows
inductive V where
 | non | bl (b:Bool) | int (i:Int) | str (x:Str) | byt (b:Array UInt8) | flt (b:UInt64) | ref (a:Addr) | ty (n:String)
 deriving DecidableEq
def RelV:V→Value→Prop
 | .non,u=>u=Value.none
 | .bl b,u=>u=Value.bool b
 | .int i,u=>∃ t,u=Value.int i t
 | .str x,u=>∃ t,u=Value.str x t
 | .byt b,u=>∃ t,u=Value.bytes b t
 | .flt b,u=>∃ t,u=Value.float b t
 | .ref a,u=>u=Value.ref a
 | .ty n,u=>u=Value.type n
abbrev Vals:List V→List Value→Prop:=Paired RelV
theorem Vals.length {xs:List V} {us:List Value} (r:Vals xs us):xs.length=us.length:=Paired.length r
theorem Vals.get:∀ {xs:List V} {us:List Value} {i:Nat} {x:V},Vals xs us→xs[i]? = some x→∃ u,us[i]? = some u∧RelV x u
 | _,_,_,_,.nil,e=>by simp at e
 | _,_,0,_,.cons r _,e=>by simp at e; subst e; exact ⟨_,rfl,r⟩
 | _,_,i+1,x,.cons _ t,e=>by
  obtain ⟨u,h1,h2⟩:=Vals.get (i:=i) (x:=x) t (by simpa using e)
  exact ⟨u,by simpa using h1,h2⟩
theorem Vals.set {x:V} {u:Value} (r:RelV x u):∀ {xs:List V} {us:List Value} (i:Nat),Vals xs us→Vals (xs.set i x) (us.set i u)
 | _,_,_,.nil=>.nil
 | _,_,0,.cons _ t=>.cons r t
 | _,_,i+1,.cons q t=>.cons q (Vals.set r i t)
theorem Vals.append:∀ {xs ys:List V} {us ws:List Value},Vals xs us→Vals ys ws→Vals (xs++ys) (us++ws)
 | _,_,_,_,.nil,s=>s
 | _,_,_,_,.cons r t,s=>.cons r (Vals.append t s)
theorem Vals.take:∀ {xs:List V} {us:List Value} (n:Nat),Vals xs us→Vals (xs.take n) (us.take n)
 | _,_,0,_=>.nil
 | _,_,_+1,.nil=>.nil
 | _,_,n+1,.cons r t=>.cons r (Vals.take n t)
theorem Vals.drop:∀ {xs:List V} {us:List Value} (n:Nat),Vals xs us→Vals (xs.drop n) (us.drop n)
 | _,_,0,r=>r
 | _,_,_+1,.nil=>.nil
 | _,_,n+1,.cons _ t=>Vals.drop n t
theorem Vals.none_of:∀ {xs:List V} {us:List Value} {i:Nat},Vals xs us→xs[i]? = none→us[i]? = none:=fun {xs us i} r e=>by
 have h1:=r.length
 have h2:xs.length≤i:=List.getElem?_eq_none_iff.mp e
 exact List.getElem?_eq_none_iff.mpr (by omega)
def RelO:Option V→Option Value→Prop
 | some v,some u=>RelV v u
 | none,none=>True
 | _,_=>False
def KV {κ:Type}:List (κ × V)→List (κ × Value)→Prop:=Paired fun (p:κ × V) (q:κ × Value)=>p.1=q.1∧RelV p.2 q.2
def kV:Key→V
 | .inl i=>.int i
 | .inr x=>.str x
inductive HO where
 | lst (xs:List V)
 | tup (xs:List V)
 | dK (kvs:List (Key × V)) | dT (kvs:List (List Key × V))
 | set (S:Int→Bool) (n:Nat)
 | ins (C dx:Addr) (fs:List (Str × V))
 | own (x:Addr)
 | xd (fs:List (Str × V))
 | met (f x:Addr)
 | rng (lo hi:Int)
 | frz (o:Obj) (u:HO)
 | tbl (ps:Array Value)
 | ext (φ:Heap→Prop)
abbrev Hp:=Addr→Option HO
def upd (H:Hp) (a:Addr) (o:HO):Hp:=fun b=>if b=a then some o else H b
theorem zv {H:Hp} {a:Addr} {o:HO}:upd H a o a=some o:=by unfold upd; rw [if_pos rfl]
theorem zw {H:Hp} {a b:Addr} {o:HO} (h:b≠a):upd H a o b=H b:=by unfold upd; rw [if_neg h]
theorem zQ {H:Hp} {a b:Addr} {o:HO} (h:H a=some o) (h':H b=none):a≠b:=by
 intro e; subst e; rw [h] at h'; cases h'
section
variable (P:Program) (w:World)
def ObjOk (H:Hp) (h:Heap) (a:Addr):HO→Prop
 | .lst xs=>xs.length≤sizeLine∧∃ (its:List Value) (n:Nat),Vals xs its∧h.get? a=some { cls:=.type "list",data:=.seq its.toArray n }
 | .tup xs=>xs.length≤sizeLine∧∃ its:List Value,Vals xs its∧IsTup h a its.toArray
 | .dK kvs=>kvs.length≤sizeLine∧(a == sysModules)=false∧∃ vs,KV kvs vs∧h.DictOf (qc P w) a vs
 | .dT kvs=>kvs.length≤sizeLine∧(a == sysModules)=false∧∃ xs:List (List Key × Addr × Value),
   Paired (fun (p:List Key × V) (q:List Key × Addr × Value)=>p.1=q.1∧H q.2.1=some (.tup (p.1.map kV))∧RelV p.2 q.2.2) kvs xs∧
   ∃ o es ep,h.get? a=some o∧o.ExactDict∧o.data=.dict es ep∧es.toList=xs.map (entryOfKey (tupleKind (qc P w)))∧(xs.map (·.1)).Nodup
 | .set S n=>h.SetOf (intKind P w) a S n
 | .ins C dx fs=>H dx=some (.own a)∧fs.length≤1000∧dx≠a∧h.get? a=some (PySem.W.instObj C dx)∧
   ∃ mA,h.Ns1 dx mA∧(∀ f,RelO (fs.lookup f) (mA f))∧PySem.Within mA (fs.map (·.1))
 | .own _=>∃ o,h.get? a=some o
 | .xd fs=>∃ mA,h.Ns1 a mA∧∀ f,RelO (fs.lookup f) (mA f)
 | .rng lo hi=>∃ t u v,h.get? a=some { cls:=.type "range",data:=.fields #[.int lo t,.int hi u,.int 1 v] }
 | .frz o u=>h.get? a=some o∧ObjOk H h a u
 | .tbl ps=>h.get? a=some { cls:=.none,data:=.fields ps }
 | .met f x=>h.get? a=some (PySem.W.methodObj (.ref f) (.ref x))
 | .ext φ=>φ h∧(∃ o,h.get? a=some o)∧∀ h1 h2:Heap,φ h1→(∀ o,h1.get? a=some o→h2.get? a=some o)→φ h2
def HOk (H:Hp) (h:Heap):Prop:=∀ a o,H a=some o→ObjOk P w H h a o
end
section
variable {P:Program} {w:World} {H H':Hp} {h h':Heap} {a:Addr} {o:HO}
theorem ObjOk.lt (x:ObjOk P w H h a o):a<h.objs.size:=by
 cases o with
 | lst xs=>obtain ⟨_,_,_,_,e⟩:=x; exact Heap.lt_size e
 | tup xs=>obtain ⟨_,_,_,p⟩:=x; exact p.lt
 | dK kvs=>obtain ⟨_,_,_,_,o,_,_,e,_⟩:=x; exact Heap.lt_size e
 | dT kvs=>obtain ⟨_,_,_,_,o,_,_,e,_⟩:=x; exact Heap.lt_size e
 | set S n=>obtain ⟨o,_,_,_,e,_⟩:=x; exact Heap.lt_size e
 | ins C dx fs=>obtain ⟨_,_,_,e,_⟩:=x; exact Heap.lt_size e
 | own y=>obtain ⟨_,e⟩:=x; exact Heap.lt_size e
 | xd fs=>obtain ⟨_,⟨_,_,_,e,_⟩,_⟩:=x; exact Heap.lt_size e
 | rng lo hi=>obtain ⟨_,_,_,e⟩:=x; exact Heap.lt_size e
 | frz ob u=>obtain ⟨e,_⟩:=x; exact Heap.lt_size e
 | tbl ps=>exact Heap.lt_size (show h.get? a=some _ from x)
 | met f y=>exact Heap.lt_size (show h.get? a=some _ from x)
 | ext φ=>obtain ⟨_,⟨_,e⟩,_⟩:=x; exact Heap.lt_size e
theorem Paired.mapP {α β:Type} {F G:α→β→Prop}:∀ {l₁:List α} {l₂:List β},Paired F l₁ l₂→(∀ a b,F a b→G a b)→Paired G l₁ l₂
 | _,_,.nil,_=>.nil
 | _,_,.cons r t,f=>.cons (f _ _ r) (Paired.mapP t f)
theorem ObjOk.stay (x:ObjOk P w H h a o) (k:∀ b u,(b=a∨H b=some (.own a))→h.get? b=some u→h'.get? b=some u)
  (ho:∀ b,H b=some (.own a)→H' b=some (.own a)) (ht:∀ b xs,H b=some (.tup xs)→H' b=some (.tup xs)):ObjOk P w H' h' a o:=by
 induction o with
 | lst xs=>obtain ⟨z,its,n,r,e⟩:=x; exact ⟨z,its,n,r,k _ _ (.inl rfl) e⟩
 | tup xs=>obtain ⟨z,its,r,ob,e,c⟩:=x; exact ⟨z,its,r,ob,k _ _ (.inl rfl) e,c⟩
 | dK kvs=>obtain ⟨z,y,vs,r,ob,es,ep,e,c⟩:=x; exact ⟨z,y,vs,r,ob,es,ep,k _ _ (.inl rfl) e,c⟩
 | dT kvs=>
  obtain ⟨z,y,xs,r,ob,es,ep,e,c⟩:=x
  exact ⟨z,y,xs,Paired.mapP r fun p q z=>⟨z.1,ht _ _ z.2.1,z.2.2⟩,ob,es,ep,k _ _ (.inl rfl) e,c⟩
 | set S n=>obtain ⟨ob,es,ep,t,e,c⟩:=x; exact ⟨ob,es,ep,t,k _ _ (.inl rfl) e,c⟩
 | ins C dx fs=>
  obtain ⟨d,z,ne,e,mA,⟨od,es,ep,e2,c⟩,r⟩:=x
  exact ⟨ho _ d,z,ne,k _ _ (.inl rfl) e,mA,⟨od,es,ep,k _ _ (.inr d) e2,c⟩,r⟩
 | own y=>obtain ⟨ob,e⟩:=x; exact ⟨ob,k _ _ (.inl rfl) e⟩
 | xd fs=>obtain ⟨mA,⟨od,es,ep,e,c⟩,r⟩:=x; exact ⟨mA,⟨od,es,ep,k _ _ (.inl rfl) e,c⟩,r⟩
 | rng lo hi=>obtain ⟨t,u,v,e⟩:=x; exact ⟨t,u,v,k _ _ (.inl rfl) e⟩
 | frz ob u ih=>obtain ⟨e,q⟩:=x; exact ⟨k _ _ (.inl rfl) e,ih q⟩
 | tbl ps=>
  have e:h.get? a=some { cls:=.none,data:=.fields ps }:=x
  show h'.get? a=some { cls:=.none,data:=.fields ps }
  exact k a _ (.inl rfl) e
 | met f y=>
  have e:h.get? a=some (PySem.W.methodObj (.ref f) (.ref y)):=x
  show h'.get? a=some (PySem.W.methodObj (.ref f) (.ref y))
  exact k a _ (.inl rfl) e
 | ext φ=>obtain ⟨p,⟨o,e⟩,st⟩:=x; exact ⟨st _ _ p fun o q=>k _ _ (.inl rfl) q,⟨o,k _ _ (.inl rfl) e⟩,st⟩
theorem HOk.lt (x:HOk P w H h) (e:H a=some o):a<h.objs.size:=(x a o e).lt
theorem HOk.fresh (x:HOk P w H h) (e:h.objs.size≤a):H a=none:=by
 cases q:H a with
 | none=>rfl
 | some u=>exact absurd (Nat.lt_of_lt_of_le (x.lt q) e) (Nat.lt_irrefl _)
theorem HOk.kept (x:HOk P w H h) (k:∀ b u,h.get? b=some u→h'.get? b=some u):HOk P w H h':=fun a o e=>
 (x a o e).stay (fun b u _ q=>k b u q) (fun _ q=>q) fun _ _ q=>q
theorem HOk.laid (x:HOk P w H h) (k:∀ b u,h.get? b=some u→h'.get? b=some u) (hp:h.objs.size≤a) (new:ObjOk P w (upd H a o) h' a o):HOk P w (upd H a o) h':=fun b u e=>by
 have hn:=x.fresh hp
 by_cases hb:b=a
 ·subst hb; rw [zv] at e; cases e; exact new
 ·rw [zw hb] at e
  exact (x b u e).stay (fun c v _ q=>k c v q) (fun c q=>by rw [zw (zQ q hn)]; exact q) fun c xs q=>by rw [zw (zQ q hn)]; exact q
end
def Rd (H:Hp) (a:Addr) (u:HO):Prop:=H a=some u∨∃ o,H a=some (.frz o u)
theorem Rd.of {H:Hp} {a:Addr} {u:HO} (h:H a=some u):Rd H a u:=.inl h
theorem Rd.ok {P:Program} {w:World} {H:Hp} {h:Heap} {a:Addr} {u:HO} (r:Rd H a u) (x:HOk P w H h):ObjOk P w H h a u:=by
 rcases r with r | ⟨o,r⟩
 ·exact x a u r
 ·obtain ⟨_,q⟩:=x a _ r
  exact q
def Mut:Option HO→Prop
 | some (.lst _)=>True
 | some (.dK _)=>True
 | some (.dT _)=>True
 | some (.set _ _)=>True
 | some (.ins _ _ _)=>True
 | some (.ext _)=>True
 | _=>False
section
variable {P:Program} {w:World} {H:Hp} {h h':Heap} {x e:Addr} {o':HO}
theorem HOk.write (ok:HOk P w H h) (mu:Mut (H x)) (he:e=x∨H e=some (.own x)) (k:∀ b u,b≠e→h.get? b=some u→h'.get? b=some u) (heo:∃ u,h'.get? e=some u)
  (new:ObjOk P w (upd H x o') h' x o'):HOk P w (upd H x o') h':=fun b u q=>by
 have nown:∀ c y,H c=some (.own y)→c≠x:=fun c y r z=>by subst z; rw [r] at mu; exact mu
 have ntup:∀ c xs,H c=some (.tup xs)→c≠x:=fun c xs r z=>by subst z; rw [r] at mu; exact mu
 by_cases hb:b=x
 ·subst hb; rw [zv] at q; cases q; exact new
 ·rw [zw hb] at q
  by_cases hbe:b=e
  ·have q':H b=some (.own x):=by
    rcases he with z | z
    ·exact absurd (hbe.trans z) hb
    ·rw [hbe]; exact z
   rw [q] at q'; cases q'
   obtain ⟨v,hv⟩:=heo
   exact ⟨v,by rw [hbe]; exact hv⟩
  ·refine (ok b u q).stay (fun c v hc r=>k c v ?_ r) (fun c r=>by rw [zw (nown c b r)]; exact r) fun c xs r=>by rw [zw (ntup c xs r)]; exact r
   rcases hc with rfl | hc
   ·exact hbe
   ·rintro rfl
    rcases he with z | z
    ·exact nown c b hc z
    ·rw [hc] at z; cases z; exact hb rfl
end
structure Un (fs ex:List Addr) (H H':Hp) (h h':Heap):Prop where
 keep:∀ b o,h.get? b=some o→H b=none→b∉fs→b∉ex→h'.get? b=some o
 slot:∀ b o,h.get? b=some o→H b=none→b∈fs→b∉ex→∃ sl,h'.get? b=some { o with slots:=sl }
 free:∀ b o,h.get? b=some o→H b=none→b∉ex→H' b=none
 there:∀ b o,h.get? b=some o→b∉ex→∃ o',h'.get? b=some o'
 tups:∀ b xs,H b=some (.tup xs)→H' b=some (.tup xs)
 frzs:∀ b o u,H b=some (.frz o u)→H' b=some (.frz o u)
 tbls:∀ b ps,H b=some (.tbl ps)→∃ more,H' b=some (.tbl (ps++more))
section
variable {fs fs' ex ex':List Addr} {H H1 H2:Hp} {h h1 h2 h':Heap} {a x e:Addr} {o:HO}
theorem Un.any (u:Un fs ex H H1 h h1) {b:Addr} {ob:Obj} (q:h.get? b=some ob) (n:H b=none) (hx:b∉ex):∃ sl,h1.get? b=some { ob with slots:=sl }:=by
 by_cases hb:b∈fs
 ·exact u.slot b ob q n hb hx
 ·exact ⟨ob.slots,u.keep b ob q n hb hx⟩
theorem Un.trans (a:Un fs ex H H1 h h1) (b:Un fs ex H1 H2 h1 h2):Un fs ex H H2 h h2 where
 keep:=fun c ob q n hc hx=>b.keep c ob (a.keep c ob q n hc hx) (a.free c ob q n hx) hc hx
 slot:=fun c ob q n hc hx=>by
  obtain ⟨sl,e1⟩:=a.slot c ob q n hc hx
  obtain ⟨sl',e2⟩:=b.slot c _ e1 (a.free c ob q n hx) hc hx
  exact ⟨sl',e2⟩
 free:=fun c ob q n hx=>by
  obtain ⟨o',e1⟩:=a.there c ob q hx
  exact b.free c o' e1 (a.free c ob q n hx) hx
 there:=fun c ob q hx=>by
  obtain ⟨o',e1⟩:=a.there c ob q hx
  exact b.there c o' e1 hx
 tups:=fun c xs q=>b.tups c xs (a.tups c xs q)
 frzs:=fun c ob xs q=>b.frzs c ob xs (a.frzs c ob xs q)
 tbls:=fun c ps q=>by
  obtain ⟨m1,e1⟩:=a.tbls c ps q
  obtain ⟨m2,e2⟩:=b.tbls c _ e1
  exact ⟨m1++m2,by rw [e2,Array.append_assoc]⟩
theorem Un.kept (k:∀ b u,h.get? b=some u→h'.get? b=some u):Un fs ex H H h h':=
 ⟨fun b ob q _ _ _=>k b ob q,fun b ob q _ _ _=>⟨ob.slots,k b ob q⟩,fun _ _ _ n _=>n,fun b ob q _=>⟨ob,k b ob q⟩,fun _ _ q=>q,fun _ _ _ q=>q,fun _ ps q=>⟨#[],by rw [q]; simp⟩⟩
theorem Un.refl:Un fs ex H H h h:=Un.kept fun _ _ q=>q
theorem Un.laid (k:∀ b u,h.get? b=some u→h'.get? b=some u) (hp:h.objs.size≤a) (hn:H a=none):Un fs ex H (upd H a o) h h' where
 keep:=fun b u q _ _ _=>k b u q
 slot:=fun b u q _ _ _=>⟨u.slots,k b u q⟩
 free:=fun b u q n _=>by rw [zw (Nat.ne_of_lt (Nat.lt_of_lt_of_le (Heap.lt_size q) hp))]; exact n
 there:=fun b u q _=>⟨u,k b u q⟩
 tups:=fun b xs q=>by rw [zw (zQ q hn)]; exact q
 frzs:=fun b u xs q=>by rw [zw (zQ q hn)]; exact q
 tbls:=fun b ps q=>⟨#[],by rw [zw (zQ q hn),q]; simp⟩
theorem Un.write (mu:Mut (H x)) (he:e=x∨H e=some (.own x)) (k:∀ b u,b≠e→h.get? b=some u→h'.get? b=some u) (heo:∃ u,h'.get? e=some u):Un fs ex H (upd H x o) h h':=by
 have hx:∀ b,H b=none→b≠x:=fun b n z=>by subst z; rw [n] at mu; exact mu
 have hb:∀ b,H b=none→b≠e:=fun b n z=>by
  subst z
  rcases he with r | r
  ·exact hx b n r
  ·rw [n] at r; cases r
 have hm:∀ b u,H b=some u→¬ Mut (some u)→b≠x:=fun b u q nm z=>by subst z; rw [q] at mu; exact nm mu
 refine ⟨fun b u q n _ _=>k b u (hb b n) q,fun b u q n _ _=>⟨u.slots,k b u (hb b n) q⟩,fun b u q n _=>by rw [zw (hx b n)]; exact n,fun b u q _=>?_,
  fun b xs q=>by rw [zw (hm b _ q fun z=>z)]; exact q,fun b u xs q=>by rw [zw (hm b _ q fun z=>z)]; exact q,fun b ps q=>⟨#[],by rw [zw (hm b _ q fun z=>z),q]; simp⟩⟩
 by_cases hbe:b=e
 ·subst hbe; exact heo
 ·exact ⟨u,k b u hbe q⟩
theorem Un.mono (u:Un fs ex H H1 h h1) (hs:∀ b∈fs,b∈fs') (hx:∀ b∈ex,b∈ex'):Un fs' ex' H H1 h h1:=
 ⟨fun b ob q n hb he=>u.keep b ob q n (fun z=>hb (hs b z)) fun z=>he (hx b z),fun _ _ q n _ he=>u.any q n fun z=>he (hx _ z),fun b ob q n he=>u.free b ob q n fun z=>he (hx b z),fun b ob q he=>u.there b ob q fun z=>he (hx b z),u.tups,u.frzs,u.tbls⟩
end
def trk (h:Heap) (H:Hp):List Addr:=(List.range h.objs.size).filter fun a=>(H a).isSome
def qj (h:Heap) (H:Hp):Heap:=PySem.W.hideAll h (trk h H)
theorem lF (h:Heap) (H:Hp):(qj h H).objs.size=h.objs.size:=PySem.W.hideAll_size _ _
theorem jO {h:Heap} {H:Hp} {b:Addr} {o:Obj} (e:h.get? b=some o) (n:H b=none):(qj h H).get? b=some o:=
 PySem.W.hideAll_get _ e fun hm=>by
  have q:(H b).isSome=true:=(List.mem_filter.mp hm).2
  rw [n] at q; simp at q
theorem gv {h:Heap} {H:Hp} {b:Addr} {o:Obj} (e:(qj h H).get? b=some o):h.get? b=some o∧H b=none:=by
 have e':h.get? b=some o:=PySem.W.of_hideAll (trk h H) e
 refine ⟨e',?_⟩
 cases q:H b with
 | none=>rfl
 | some x=>
  have hm:b∈trk h H:=List.mem_filter.mpr ⟨List.mem_range.mpr (Heap.lt_size e'),by simp [q]⟩
  have z:(qj h H).get? b=none:=PySem.W.hideAll_none (trk h H) hm
  rw [z] at e; cases e
def cq (g h:Heap) (L:Addr):List (Addr × Obj):=(List.range h.objs.size).filterMap fun a=>if a=L∨(g.get? a).isSome=true then none else (h.get? a).map fun o=>(a,o)
def yk (g h:Heap) (L d:Addr):List (Addr × Obj):=(cq g h L).filter fun p=>decide (p.1≠d)
end L2
namespace L2
open PySem PySem.Spec PyProof.Rows
structure Mod (K:PySem.W.Frag) (mg:Str→Option Value) (base:Heap):Prop where
 kin:K.In base
 glob:base.Ns mainGlobals mg
 blt:∃ mb,base.Ns builtinsNs mb∧∀ x:Str,x≠"__name__"→mb x=bootBuiltins x
 nolimit:base.NoLimit
structure Cx where
 prog:Program
 w:World
 K:PySem.W.Frag
 mg:Str→Option Value
 base:Heap
 A:Around
 N:List Str
 s₀:Shared
 H₀:Hp
 env:Env
 outer:List Env
 stack:List Env
 ex:List Addr
 fn:Str→Bool
 calm:Bool
 pn:List (Addr × Obj)
 xe:Value→Shared→Prop
def frs (l:List Env):List Addr:=l.filterMap (·.frame)
abbrev Cx.fs (X:Cx):List Addr:=frs X.outer
def Vis (sc:Scope) (x:Str):Prop:=sc.names.lookup x=some .local∨sc.names.lookup x=some .cell∨sc.names.lookup x=some .free
def Loc (sc:Scope) (x:Str):Prop:=sc.names.lookup x=some .local∨sc.names.lookup x=some .cell
def Ts (env:Env) (h:Heap) (m:Str→Option Value) (x:Str) (u:Value):Prop:=
 (env.kindOf x=some .local∧m x=some u)∨((env.kindOf x=some .cell∨env.kindOf x=some .free)∧∃ c,env.cells.lookup x=some c∧h.IsCell c (some u))
structure Cx.Ok (X:Cx):Prop where
 mod:Mod X.K X.mg X.base
 kind:X.env.scope.kind=.function
 glob:X.env.globals=mainGlobals
 blt:X.env.builtins=builtinsNs
 above:X.s₀.heap.objs.size≤X.env.locals
 inj:∀ x y c,X.env.cells.lookup x=some c→X.env.cells.lookup y=some c→x=y
 has:∀ x,(X.env.kindOf x=some .cell∨X.env.kindOf x=some .free)→∃ c,X.env.cells.lookup x=some c
 cab:∀ x c,X.fn x=true→X.env.cells.lookup x=some c→X.s₀.heap.objs.size≤c
 hd:X.calm=true→X.A.handled=none
 frames:X.A.frames=some X.stack
 stk:X.stack=X.outer∨(X.stack=X.env::X.outer∧X.env.frame=some X.env.locals)
 exf:∀ b∈X.ex,b≠X.env.locals∧∀ x c,X.env.cells.lookup x=some c→c≠b
 bs:∀ b o,X.base.get? b=some o→X.s₀.heap.get? b=some o∧X.H₀ b=none
 bsz:X.base.objs.size≤X.s₀.heap.objs.size
 noex:∀ b o,X.base.get? b=some o→b∉X.ex
 exfs:∀ b∈X.ex,b∉X.fs
 funs:X.s₀.heap.FunFrames X.base X.outer
 frf:∀ b∈X.fs,X.H₀ b=none
structure Inv (X:Cx) (pins:List (Addr × Obj)) (σ:List (Option V)) (H:Hp) (s:Shared):Prop where
 ok:X.Ok
 os:s.os=X.s₀.os
 bare:AllBare s.gens
 base:Un X.fs X.ex X.H₀ H X.s₀.heap s.heap
 loc:∃ m,s.heap.Ns X.env.locals m∧∀ (i:Nat) (x:Str) (v:V),X.N[i]? = some x→σ[i]? = some (some v)→Vis X.env.scope x→∃ u,RelV v u∧Ts X.env s.heap m x u
 cell:∀ x c,X.env.cells.lookup x=some c→∃ v,s.heap.IsCell c v
 free:H X.env.locals=none
 freeC:∀ x c,X.env.cells.lookup x=some c→H c=none
 pin:∀ p∈X.pn++pins,s.heap.get? p.1=some p.2∧H p.1=none∧p.1≠X.env.locals∧p.1∉X.fs∧∀ v,p.2.data≠.cell v
 hok:HOk X.prog X.w H s.heap
 len:σ.length=X.N.length
section
variable {X:Cx} {pins:List (Addr × Obj)} {σ:List (Option V)} {H H':Hp} {s:Shared} {h':Heap}
theorem Cx.Ok.nofr (ok:X.Ok) {b:Addr} {o:Obj} (e:X.base.get? b=some o):b∉X.fs:=fun hb=>by
 have:=(ok.funs.mem hb).1
 rw [e] at this; cases this
theorem Inv.bs (I:Inv X pins σ H s):∀ b o,X.base.get? b=some o→s.heap.get? b=some o∧H b=none:=fun b o e=>
 ⟨I.base.keep b o (I.ok.bs b o e).1 (I.ok.bs b o e).2 (I.ok.nofr e) (I.ok.noex b o e),I.base.free b o (I.ok.bs b o e).1 (I.ok.bs b o e).2 (I.ok.noex b o e)⟩
theorem Inv.bk (I:Inv X pins σ H s):∀ b o,X.base.get? b=some o→s.heap.get? b=some o:=fun b o e=>(I.bs b o e).1
theorem Inv.mod (I:Inv X pins σ H s):Mod X.K X.mg X.base:=I.ok.mod
theorem Inv.kIn (I:Inv X pins σ H s):X.K.In s.heap:=I.ok.mod.kin.keeps I.bk
theorem Inv.nolimit (I:Inv X pins σ H s):s.heap.NoLimit:=I.ok.mod.nolimit.keeps I.bk
theorem Inv.fr (I:Inv X pins σ H s):∃ m,Fr X.base X.env.locals s.heap m:=
 let ⟨m,hn,_⟩:=I.loc
 ⟨m,hn,I.bk,Nat.le_trans I.ok.bsz I.ok.above⟩
theorem Inv.lt (I:Inv X pins σ H s):X.env.locals<s.heap.objs.size:=let ⟨_,hn,_⟩:=I.loc; hn.lt
theorem Inv.sz (I:Inv X pins σ H s):X.s₀.heap.objs.size≤s.heap.objs.size:=Nat.le_trans I.ok.above (Nat.le_of_lt I.lt)
theorem Inv.nofs (I:Inv X pins σ H s) {a:Addr} (h:s.heap.objs.size≤a):a∉X.fs:=fun hb=>by
 obtain ⟨_,o,ho,_⟩:=I.ok.funs.mem hb
 exact absurd (Nat.lt_of_lt_of_le (Heap.lt_size ho) (Nat.le_trans I.sz h)) (Nat.lt_irrefl _)
theorem Inv.cne (I:Inv X pins σ H s):∀ x c,X.env.cells.lookup x=some c→c≠X.env.locals:=fun x c e z=>by
 obtain ⟨v,o,ho,hd⟩:=I.cell x c e
 obtain ⟨m,⟨o',es,ep,ho',hd',_⟩,_⟩:=I.loc
 rw [z,ho'] at ho; cases ho; rw [hd'] at hd; cases hd
theorem Inv.funs (I:Inv X pins σ H s):s.heap.FunFrames X.base X.outer:=by
 have all:∀ (l:List Env),(∀ b∈frs l,b∈X.fs)→X.s₀.heap.FunFrames X.base l→s.heap.FunFrames X.base l:=by
  intro l
  induction l with
  | nil=>intro _ _; trivial
  | cons env r ih=>
   intro hs hl
   obtain ⟨hk,⟨L,o,hf,hn,ho,hd⟩,hr⟩:=hl
   have hL:L∈X.fs:=hs L (by unfold frs; rw [List.filterMap_cons,hf]; exact List.mem_cons_self)
   obtain ⟨sl,e⟩:=I.base.slot L o ho (I.ok.frf L hL) hL fun z=>I.ok.exfs L z hL
   exact ⟨hk,⟨L,_,hf,hn,e,hd⟩,ih (fun b hb=>hs b (by unfold frs; rw [List.filterMap_cons,hf]; exact List.mem_cons_of_mem _ hb)) hr⟩
 exact all X.outer (fun _ hb=>hb) I.ok.funs
theorem Inv.stack (I:Inv X pins σ H s):s.heap.FunFrames X.base X.stack:=by
 rcases I.ok.stk with e | ⟨e,hf⟩
 ·rw [e]; exact I.funs
 ·rw [e]
  obtain ⟨m,hn,_⟩:=I.loc
  refine .cons (by rw [I.ok.kind]; decide) hf hn ?_ I.funs
  exact Heap.get?_none_of_le (Nat.le_trans I.ok.bsz I.ok.above)
theorem Inv.stkSub (I:Inv X pins σ H s):∀ b∈frs X.stack,b∈X.env.locals::X.fs:=fun b hb=>by
 rcases I.ok.stk with e | ⟨e,hf⟩
 ·rw [e] at hb; exact List.mem_cons_of_mem _ hb
 ·rw [e] at hb
  unfold frs at hb
  rw [List.filterMap_cons,hf] at hb
  exact hb
theorem Inv.stkFree (I:Inv X pins σ H s):∀ b∈frs X.stack,H b=none:=fun b hb=>by
 rcases List.mem_cons.mp (I.stkSub b hb) with e | hb
 ·rw [e]; exact I.free
 ·obtain ⟨_,o,ho,_⟩:=I.ok.funs.mem hb
  exact I.base.free b o ho (I.ok.frf b hb) fun z=>I.ok.exfs b z hb
theorem Inv.step {g':Array GenState} {t':Nat} {d':Drawn} {ch:List Addr} (I:Inv X pins σ H s)
  (hch:∀ b∈ch,(b∈X.ex∨X.s₀.heap.objs.size≤b)∧b≠X.env.locals∧(∀ x c,X.env.cells.lookup x=some c→c≠b)∧∀ p∈X.pn++pins,p.1≠b)
  (keep:∀ b o,b≠X.env.locals→b∉X.fs→b∉ch→s.heap.get? b=some o→H b=none→h'.get? b=some o)
  (slot:∀ b o,b≠X.env.locals→b∈X.fs→b∉ch→s.heap.get? b=some o→H b=none→∃ sl,h'.get? b=some { o with slots:=sl }) (free:∀ b o,b∉ch→s.heap.get? b=some o→H b=none→H' b=none)
  (there:∀ b o,b∉ch→s.heap.get? b=some o→∃ o',h'.get? b=some o')
  (tups:∀ b xs,H b=some (.tup xs)→H' b=some (.tup xs)) (frzs:∀ b o u,H b=some (.frz o u)→H' b=some (.frz o u)) (tbls:∀ b ps,H b=some (.tbl ps)→∃ more,H' b=some (.tbl (ps++more)))
  (ns:∀ m,s.heap.Ns X.env.locals m→h'.Ns X.env.locals m) (hok:HOk X.prog X.w H' h') (hg:AllBare g'):
  Inv X pins σ H' { s with heap:=h',gens:=g',drawn:=d',toks:=t' }:=by
 have neL:∀ b o,X.s₀.heap.get? b=some o→b≠X.env.locals:=fun b o e=>Nat.ne_of_lt (Nat.lt_of_lt_of_le (Heap.lt_size e) I.ok.above)
 have neC:∀ b o,X.s₀.heap.get? b=some o→b∉X.ex→b∉ch:=fun b o e hx hb=>by
  rcases (hch b hb).1 with z | z
  ·exact hx z
  ·exact absurd (Nat.lt_of_lt_of_le (Heap.lt_size e) z) (Nat.lt_irrefl _)
 have cellK:∀ x c,X.env.cells.lookup x=some c→∀ v,s.heap.IsCell c v→h'.IsCell c v:=fun x c e v ⟨o,ho,hd⟩=>by
  have nch:c∉ch:=fun z=>(hch c z).2.2.1 x c e rfl
  by_cases hc:c∈X.fs
  ·obtain ⟨sl,q⟩:=slot c o (I.cne x c e) hc nch ho (I.freeC x c e)
   exact ⟨_,q,hd⟩
  ·exact ⟨o,keep c o (I.cne x c e) hc nch ho (I.freeC x c e),hd⟩
 refine ⟨I.ok,I.os,hg,⟨fun b o e n hb hx=>?_,fun b o e n hb hx=>?_,fun b o e n hx=>?_,fun b o e hx=>?_,fun b xs e=>tups b xs (I.base.tups b xs e),fun b o xs e=>frzs b o xs (I.base.frzs b o xs e),fun b ps e=>?_⟩,?_,fun x c e=>?_,?_,fun x c e=>?_,fun p hp=>?_,hok,I.len⟩
 ·exact keep b o (neL b o e) hb (neC b o e hx) (I.base.keep b o e n hb hx) (I.base.free b o e n hx)
 ·obtain ⟨sl,e1⟩:=I.base.slot b o e n hb hx
  obtain ⟨sl',e2⟩:=slot b _ (neL b o e) hb (neC b o e hx) e1 (I.base.free b o e n hx)
  exact ⟨sl',e2⟩
 ·obtain ⟨o',e1⟩:=I.base.there b o e hx
  exact free b o' (neC b o e hx) e1 (I.base.free b o e n hx)
 ·obtain ⟨o',e1⟩:=I.base.there b o e hx
  exact there b o' (neC b o e hx) e1
 ·obtain ⟨m1,e1⟩:=I.base.tbls b ps e
  obtain ⟨m2,e2⟩:=tbls b _ e1
  exact ⟨m1++m2,by rw [e2,Array.append_assoc]⟩
 ·obtain ⟨m,hn,hl⟩:=I.loc
  refine ⟨m,ns m hn,fun i x v e1 e2 e3=>?_⟩
  obtain ⟨u,r,l⟩:=hl i x v e1 e2 e3
  refine ⟨u,r,?_⟩
  rcases l with l | ⟨k,c,e,z⟩
  ·exact .inl l
  ·exact .inr ⟨k,c,e,cellK x c e _ z⟩
 ·obtain ⟨v,z⟩:=I.cell x c e
  exact ⟨v,cellK x c e v z⟩
 ·obtain ⟨m,⟨o,_,_,ho,_⟩,_⟩:=I.loc
  exact free _ o (fun z=>(hch _ z).2.1 rfl) ho I.free
 ·obtain ⟨v,o,ho,hd⟩:=I.cell x c e
  exact free c o (fun z=>(hch c z).2.2.1 x c e rfl) ho (I.freeC x c e)
 ·obtain ⟨e,n,ne,nf,d⟩:=I.pin p hp
  have nch:p.1∉ch:=fun z=>(hch p.1 z).2.2.2 p hp rfl
  exact ⟨keep p.1 p.2 ne nf nch e n,free p.1 p.2 nch e n,ne,nf,d⟩
theorem Inv.un {t':Nat} (I:Inv X pins σ H s) (u:Un X.fs [] H H' s.heap h') (hok:HOk X.prog X.w H' h'):Inv X pins σ H' { s with heap:=h',toks:=t' }:=by
 obtain ⟨m,⟨o,es,ep,ho,r⟩,_⟩:=id I.loc
 obtain ⟨sl,hL⟩:=u.any ho I.free (by simp)
 exact I.step (g':=s.gens) (d':=s.drawn) (ch:=[]) (fun _ z=>nomatch z) (fun b o _ hb _ e n=>u.keep b o e n hb (by simp)) (fun b o _ hb _ e n=>u.slot b o e n hb (by simp)) (fun b o _ e n=>u.free b o e n (by simp)) (fun b o _ e=>u.there b o e (by simp)) u.tups u.frzs u.tbls (fun m' hm=>by
  obtain ⟨o',es',ep',ho',r'⟩:=hm
  rw [ho] at ho'; cases ho'
  exact ⟨_,es',ep',hL,r'⟩) hok I.bare
theorem Inv.call {g':Array GenState} {t':Nat} {d':Drawn} {ch:List Addr} (I:Inv X pins σ H s) (u:Un (frs X.stack) ch H H' s.heap h') (hok:HOk X.prog X.w H' h') (hg:AllBare g')
  (hch:∀ b∈ch,(b∈X.ex∨X.s₀.heap.objs.size≤b)∧b≠X.env.locals∧(∀ x c,X.env.cells.lookup x=some c→c≠b)∧∀ p∈X.pn++pins,p.1≠b):
  Inv X pins σ H' { s with heap:=h',gens:=g',drawn:=d',toks:=t' }:=by
 obtain ⟨m,⟨o,es,ep,ho,r⟩,_⟩:=id I.loc
 obtain ⟨sl,hL⟩:=u.any ho I.free fun z=>(hch _ z).2.1 rfl
 exact I.step (ch:=ch) hch (fun b o hL hb hc e n=>u.keep b o e n (fun z=>(List.mem_cons.mp (I.stkSub b z)).elim hL hb) hc) (fun b o _ _ hc e n=>u.any e n hc) (fun b o hc e n=>u.free b o e n hc) (fun b o hc e=>u.there b o e hc) u.tups u.frzs u.tbls (fun m' hm=>by
  obtain ⟨o',es',ep',ho',r'⟩:=hm
  rw [ho] at ho'; cases ho'
  exact ⟨_,es',ep',hL,r'⟩) hok hg
theorem Inv.turned {t':Nat} {it:Addr} (I:Inv X pins σ H s) (k:∀ b o,b≠it→s.heap.get? b=some o→h'.get? b=some o) (hn:H it=none) (hL:it≠X.env.locals)
  (h1:it∈X.ex∨X.s₀.heap.objs.size≤it) (h2:∀ x c,X.env.cells.lookup x=some c→c≠it) (h3:∀ p∈X.pn++pins,p.1≠it):Inv X pins σ H { s with heap:=h',toks:=t' }:=by
 have nit:∀ b u,H b=some u→b≠it:=fun b u e z=>by rw [z,hn] at e; cases e
 refine I.step (g':=s.gens) (d':=s.drawn) (ch:=[it]) (fun b hb=>?_) (fun b o _ _ hc e _=>k b o (fun z=>hc (by simp [z])) e) (fun b o _ _ hc e _=>⟨o.slots,k b o (fun z=>hc (by simp [z])) e⟩) (fun _ _ _ _ n=>n)
  (fun b o hc e=>⟨o,k b o (fun z=>hc (by simp [z])) e⟩) (fun _ _ e=>e) (fun _ _ _ e=>e) (fun b ps e=>⟨#[],by rw [e]; simp⟩) (fun m hm=>?_) (fun b u e=>?_) I.bare
 ·have e:b=it:=by simpa using hb
  subst e
  exact ⟨h1,hL,h2,h3⟩
 ·obtain ⟨o,es,ep,ho,r⟩:=hm
  exact ⟨o,es,ep,k _ o (Ne.symm hL) ho,r⟩
 ·refine (I.hok b u e).stay (fun c v hc q=>k c v ?_ q) (fun _ q=>q) fun _ _ q=>q
  rcases hc with z | z
  ·rw [z]; exact nit b u e
  ·exact nit c _ z
theorem Inv.tok (I:Inv X pins σ H s) (t:Nat):Inv X pins σ H { s with toks:=t }:=I.un (h':=s.heap) (t':=t) Un.refl I.hok
theorem Inv.kept {t':Nat} (I:Inv X pins σ H s) (k:∀ b u,s.heap.get? b=some u→h'.get? b=some u):Inv X pins σ H { s with heap:=h',toks:=t' }:=I.un (Un.kept k) (I.hok.kept k)
theorem Inv.laid {a:Addr} {o:HO} {t':Nat} (I:Inv X pins σ H s) (k:∀ b u,s.heap.get? b=some u→h'.get? b=some u) (hp:s.heap.objs.size≤a) (new:ObjOk X.prog X.w (upd H a o) h' a o):
  Inv X pins σ (upd H a o) { s with heap:=h',toks:=t' }:=I.un (Un.laid k hp (I.hok.fresh hp)) (I.hok.laid k hp new)
theorem Inv.write {x e:Addr} {o:HO} {t':Nat} (I:Inv X pins σ H s) (mu:Mut (H x)) (he:e=x∨H e=some (.own x)) (k:∀ b u,b≠e→s.heap.get? b=some u→h'.get? b=some u) (heo:∃ u,h'.get? e=some u)
  (new:ObjOk X.prog X.w (upd H x o) h' x o):Inv X pins σ (upd H x o) { s with heap:=h',toks:=t' }:=I.un (Un.write mu he k heo) (I.hok.write mu he k heo new)
theorem Inv.weak {σ':List (Option V)} (I:Inv X pins σ H s) (hl:σ'.length=σ.length) (w:∀ (i:Nat) v,σ'[i]? = some (some v)→σ[i]? = some (some v)):Inv X pins σ' H s:=
 ⟨I.ok,I.os,I.bare,I.base,let ⟨m,hn,hl'⟩:=I.loc; ⟨m,hn,fun i x v e1 e2 e3=>hl' i x v e1 (w i v e2) e3⟩,I.cell,I.free,I.freeC,I.pin,I.hok,hl.trans I.len⟩
theorem Inv.pins_of {pins':List (Addr × Obj)} (I:Inv X pins σ H s) (h:∀ p∈pins',s.heap.get? p.1=some p.2∧H p.1=none∧p.1≠X.env.locals∧p.1∉X.fs∧∀ v,p.2.data≠.cell v):Inv X pins' σ H s:=
 ⟨I.ok,I.os,I.bare,I.base,I.loc,I.cell,I.free,I.freeC,fun p hp=>(List.mem_append.mp hp).elim (fun z=>I.pin p (List.mem_append_left _ z)) (h p),I.hok,I.len⟩
theorem pN {N:List Str} (hN:N.Nodup) {i j:Nat} {x:Str} (a:N[i]? = some x) (b:N[j]? = some x):i=j:=by
 obtain ⟨h1,e1⟩:=List.getElem?_eq_some_iff.mp a
 obtain ⟨h2,e2⟩:=List.getElem?_eq_some_iff.mp b
 exact (List.getElem_inj hN).mp (e1.trans e2.symm)
theorem sR {M:Model} {A:Around} {E:Value→Shared→Prop} {i:Nat} {x:Str} {v:V} {u:Value} {Q:Unit→Shared→Prop} (I:Inv X pins σ H s) (hN:X.N.Nodup) (hi:X.N[i]? = some x) (hx:Loc X.env.scope x) (r:RelV v u)
  (h:∀ s',Inv X pins (σ.set i (some v)) H s'→(∃ a,Heap.SameBut a s.heap s'.heap∧(a=X.env.locals∨X.env.cells.lookup x=some a))→Q () s') (hf:X.fn x=true∨X.env.scope.names.lookup x=some .local:=by first | exact .inl rfl | exact .inr rfl | assumption):wpAny M A (storeName X.env x u) Q E s:=by
 obtain ⟨m,hn,hl⟩:=id I.loc
 have hcls:(X.env.scope.kind == .class || (X.env.scope.kind == .module && X.env.locals != X.env.globals))=false:=by rw [I.ok.kind]; rfl
 have hiσ:i<σ.length:=by rw [I.len]; exact (List.getElem?_eq_some_iff.mp hi).1
 have cne:=I.cne
 have tracked:∀ {a:Addr} {h':Heap},(∃ o,s.heap.get? a=some o∧H a=none)→Heap.SameBut a s.heap h'→HOk X.prog X.w H h':=fun {a h'} ha hs b ob e=>by
  obtain ⟨_,_,hfree⟩:=ha
  refine (I.hok b ob e).stay (fun c w' hc q=>(hs.2 c ?_).trans q) (fun _ q=>q) fun _ _ q=>q
  rintro rfl
  rcases hc with rfl | hc
  ·rw [hfree] at e; cases e
  ·rw [hfree] at hc; cases hc
 rcases hx with hk | hk
 ·refine wpAny_storeName_local hk hn (fun h' hn' hs=>?_) hcls
  obtain ⟨oL,_,_,hoL,_⟩:=id hn
  refine h _ ⟨I.ok,I.os,I.bare,⟨fun b o e n hb hx=>?_,fun b o e n hb hx=>?_,I.base.free,fun b o e hx=>?_,I.base.tups,I.base.frzs,I.base.tbls⟩,⟨_,hn',fun j y v' e1 e2 e3=>?_⟩,fun y c e=>?_,I.free,I.freeC,fun p hp=>?_,tracked ⟨oL,hoL,I.free⟩ hs,by simpa using I.len⟩ ⟨_,hs,.inl rfl⟩
  ·exact (hs.2 b (Nat.ne_of_lt (Nat.lt_of_lt_of_le (Heap.lt_size e) I.ok.above))).trans (I.base.keep b o e n hb hx)
  ·obtain ⟨sl,e1⟩:=I.base.slot b o e n hb hx
   exact ⟨sl,(hs.2 b (Nat.ne_of_lt (Nat.lt_of_lt_of_le (Heap.lt_size e) I.ok.above))).trans e1⟩
  ·obtain ⟨o',e1⟩:=I.base.there b o e hx
   exact ⟨o',(hs.2 b (Nat.ne_of_lt (Nat.lt_of_lt_of_le (Heap.lt_size e) I.ok.above))).trans e1⟩
  ·by_cases hj:j=i
   ·subst hj
    rw [hi] at e1; cases e1
    rw [List.getElem?_set_self hiσ] at e2
    cases e2
    exact ⟨u,r,.inl ⟨hk,by simp⟩⟩
   ·rw [List.getElem?_set_ne (Ne.symm hj)] at e2
    obtain ⟨u',r',q⟩:=hl j y v' e1 e2 e3
    refine ⟨u',r',?_⟩
    rcases q with ⟨k,e⟩ | ⟨k,c,e,z⟩
    ·refine .inl ⟨k,?_⟩
     have:y≠x:=fun e=>hj (pN hN e1 (e ▸ hi))
     simp [this,e]
    ·exact .inr ⟨k,c,e,z.sameBut hs (cne y c e)⟩
  ·obtain ⟨w',z⟩:=I.cell y c e
   exact ⟨w',z.sameBut hs (cne y c e)⟩
  ·obtain ⟨e,n,ne,nf,d⟩:=I.pin p hp
   exact ⟨(hs.2 p.1 ne).trans e,n,ne,nf,d⟩
 ·have hfn:X.fn x=true:=by
   rcases hf with z | z
   ·exact z
   ·rw [z] at hk; cases hk
  obtain ⟨c,hc⟩:=I.ok.has x (.inl hk)
  obtain ⟨w',z⟩:=I.cell x c hc
  refine wpAny_storeName_cell I.ok.kind hk hc z (fun h' hc' hs=>?_)
  obtain ⟨oc,hoc,hocd⟩:=id z
  refine h { s with heap:=h' } ⟨I.ok,I.os,I.bare,⟨fun b o e n hb hx=>?_,fun b o e n hb hx=>?_,I.base.free,fun b o e hx=>?_,I.base.tups,I.base.frzs,I.base.tbls⟩,⟨m,hn.sameBut hs (Ne.symm (cne x c hc)),fun j y v' e1 e2 e3=>?_⟩,fun y c' e=>?_,I.free,I.freeC,fun p hp=>?_,tracked ⟨oc,hoc,I.freeC x c hc⟩ hs,by simpa using I.len⟩ ⟨c,hs,.inr hc⟩
  ·exact (hs.2 b (Nat.ne_of_lt (Nat.lt_of_lt_of_le (Heap.lt_size e) (I.ok.cab x c hfn hc)))).trans (I.base.keep b o e n hb hx)
  ·obtain ⟨sl,e1⟩:=I.base.slot b o e n hb hx
   exact ⟨sl,(hs.2 b (Nat.ne_of_lt (Nat.lt_of_lt_of_le (Heap.lt_size e) (I.ok.cab x c hfn hc)))).trans e1⟩
  ·obtain ⟨o',e1⟩:=I.base.there b o e hx
   exact ⟨o',(hs.2 b (Nat.ne_of_lt (Nat.lt_of_lt_of_le (Heap.lt_size e) (I.ok.cab x c hfn hc)))).trans e1⟩
  ·by_cases hj:j=i
   ·subst hj
    rw [hi] at e1; cases e1
    rw [List.getElem?_set_self hiσ] at e2
    cases e2
    exact ⟨u,r,.inr ⟨.inl hk,c,hc,hc'⟩⟩
   ·rw [List.getElem?_set_ne (Ne.symm hj)] at e2
    obtain ⟨u',r',q⟩:=hl j y v' e1 e2 e3
    refine ⟨u',r',?_⟩
    rcases q with q | ⟨k,c',e,z'⟩
    ·exact .inl q
    ·refine .inr ⟨k,c',e,z'.sameBut hs ?_⟩
     rintro rfl
     exact hj (pN hN e1 (I.ok.inj _ _ _ e hc ▸ hi))
  ·by_cases hcc:c'=c
   ·subst hcc; exact ⟨_,hc'⟩
   ·obtain ⟨w2,z2⟩:=I.cell y c' e
    exact ⟨w2,z2.sameBut hs hcc⟩
  ·obtain ⟨e,n,ne,nf,d⟩:=I.pin p hp
   refine ⟨(hs.2 p.1 ?_).trans e,n,ne,nf,d⟩
   intro q
   rw [q,hoc] at e
   have q':oc=p.2:=Option.some.inj e
   exact d w' (by rw [← q']; exact hocd)
theorem vm {M:Model} {A:Around} {E:Value→Shared→Prop} {i:Nat} {x:Str} {v:V} {u:Value} {Q:Unit→Shared→Prop} (I:Inv X pins σ H s) (hN:X.N.Nodup) (hi:X.N[i]? = some x) (hx:Loc X.env.scope x) (r:RelV v u)
  (h:∀ s',Inv X pins (σ.set i (some v)) H s'→Q () s') (hf:X.fn x=true∨X.env.scope.names.lookup x=some .local:=by first | exact .inl rfl | exact .inr rfl | assumption):wpAny M A (storeName X.env x u) Q E s:=
 sR I hN hi hx r (fun s' I' _=>h s' I') hf
theorem Inv.call' {s':Shared} {ch:List Addr} (I:Inv X pins σ H s) (ho:s'.os=s.os) (u:Un (frs X.stack) ch H H' s.heap s'.heap) (hok:HOk X.prog X.w H' s'.heap) (hg:AllBare s'.gens)
  (hch:∀ b∈ch,(b∈X.ex∨X.s₀.heap.objs.size≤b)∧b≠X.env.locals∧(∀ x c,X.env.cells.lookup x=some c→c≠b)∧∀ p∈X.pn++pins,p.1≠b):Inv X pins σ H' s':=by
 obtain ⟨h',g',d',t',o'⟩:=s'
 have e:o'=s.os:=ho
 subst e
 exact I.call (g':=g') (t':=t') (d':=d') u hok hg hch
end
abbrev XK:=Value→Option Addr→Hp→Prop
abbrev St:=List (Option V)
abbrev VK:=V→Hp→Prop
abbrev TE:=St→Hp→VK→Prop
abbrev TT:=St→Hp→(Bool→Hp→Prop)→Prop
abbrev TA:=St→Hp→(List V→Hp→Prop)→Prop
structure wS where
 nx:St→Hp→Prop
 rt:VK
 bk:St→Hp→Prop:=fun _ _=>False
 ct:St→Hp→Prop:=fun _ _=>False
abbrev TS:=wS→St→Hp→Prop
def EP (X:Cx) (pins:List (Addr × Obj)) (σ:St) (Q:VK) (u:Value) (s':Shared):Prop:=∃ v H',Inv X pins σ H' s'∧RelV v u∧Q v H'
def TP (X:Cx) (pins:List (Addr × Obj)) (σ:St) (Q:Bool→Hp→Prop) (b:Bool) (s':Shared):Prop:=∃ H',Inv X pins σ H' s'∧Q b H'
def AP (X:Cx) (pins:List (Addr × Obj)) (σ:St) (Q:List V→Hp→Prop) (us:List Value) (s':Shared):Prop:=∃ vs H',Inv X pins σ H' s'∧Vals vs us∧Q vs H'
def SP (X:Cx) (pins:List (Addr × Obj)) (D:wS) (f:Flow) (s':Shared):Prop:=
 match f with
 | .next=>∃ σ' H',Inv X pins σ' H' s'∧D.nx σ' H'
 | .brk=>∃ σ' H',Inv X pins σ' H' s'∧D.bk σ' H'
 | .cont=>∃ σ' H',Inv X pins σ' H' s'∧D.ct σ' H'
 | .ret u=>∃ v σ' H',Inv X pins σ' H' s'∧RelV v u∧D.rt v H'
def PE (X:Cx) (e:Expr) (t:TE):Prop:=
 ∀ (pins:List (Addr × Obj)) (s:Shared) (σ:St) (H:Hp) (Q:VK),Inv X pins σ H s→t σ H Q→wpAny (model X.prog X.w) X.A (eval e X.env) (EP X pins σ Q) X.xe s
def PT (X:Cx) (e:Expr) (t:TT):Prop:=
 ∀ (pins:List (Addr × Obj)) (s:Shared) (σ:St) (H:Hp) (Q:Bool→Hp→Prop),Inv X pins σ H s→t σ H Q→wpAny (model X.prog X.w) X.A (isTrue e X.env (eval e X.env)) (TP X pins σ Q) X.xe s
def PW (X:Cx) (e:Expr) (t:TT):Prop:=
 ∀ (yy:Sem Value) (pins:List (Addr × Obj)) (s:Shared) (σ:St) (H:Hp) (Q:Bool→Hp→Prop),Inv X pins σ H s→t σ H Q→wpAny (model X.prog X.w) X.A (isTrue e X.env yy) (TP X pins σ Q) X.xe s
theorem PW.pt {X:Cx} {e:Expr} {t:TT} (h:PW X e t):PT X e t:=h _
def PA (X:Cx) (es:List Expr) (t:TA):Prop:=
 ∀ (pos:Pos) (pins:List (Addr × Obj)) (s:Shared) (σ:St) (H:Hp) (Q:List V→Hp→Prop),Inv X pins σ H s→t σ H Q→wpAny (model X.prog X.w) X.A (spliced (backTo pos (starEach es X.env))) (AP X pins σ Q) X.xe s
def PS (X:Cx) (st:Stmt) (t:TS):Prop:=
 ∀ (pins:List (Addr × Obj)) (s:Shared) (σ:St) (H:Hp) (D:wS),Inv X pins σ H s→t D σ H→wpAny (model X.prog X.w) X.A (exec st X.env) (SP X pins D) X.xe s
def PSs (X:Cx) (st:List Stmt) (t:TS):Prop:=
 ∀ (pins:List (Addr × Obj)) (s:Shared) (σ:St) (H:Hp) (D:wS),Inv X pins σ H s→t D σ H→wpAny (model X.prog X.w) X.A (execs st X.env) (SP X pins D) X.xe s
theorem thn {α:Type} {t:Sem α} {Q Q':α→Shared→Prop} {M:Model} {A:Around} {E:Value→Shared→Prop} {s:Shared} (h:wpAny M A t Q E s) (hQ:∀ a s,Q a s→Q' a s):wpAny M A t Q' E s:=wpAny_mono h hQ fun _ _ x=>x
end L2
namespace L2
open PySem PySem.Spec PyProof.Rows
section
variable {X:Cx}
theorem bin {a b:Expr} {ta tb:TE} (ha:PE X a ta) (hb:PE X b tb) {pins:List (Addr × Obj)} {s:Shared} {σ:St} {H:Hp} {R:V→V→Hp→Prop} (I:Inv X pins σ H s) (h:ta σ H fun x H1=>tb σ H1 fun y H2=>R x y H2)
  {α:Type} {Q:α→Shared→Prop} {f:Value→Value→Sem α}
  (hf:∀ v u s2 x y H2,Inv X pins σ H2 s2→RelV x v→RelV y u→R x y H2→wpAny (model X.prog X.w) X.A (f v u) Q X.xe s2):
  wpAny (model X.prog X.w) X.A (eval a X.env) (fun v s₁=>wpAny (model X.prog X.w) X.A (eval b X.env) (fun u s₂=>wpAny (model X.prog X.w) X.A (f v u) Q X.xe s₂) X.xe s₁) X.xe s:=by
 refine thn (ha pins s σ H _ I h) fun v s1 ⟨x,H1,I1,r1,q1⟩=>?_
 refine thn (hb pins s1 σ H1 _ I1 q1) fun u s2 ⟨y,H2,I2,r2,q2⟩=>?_
 exact hf v u s2 x y H2 I2 r1 r2 q2
def iY (i:Nat):TE:=fun σ H Q=>∃ v,σ[i]? = some (some v)∧Q v H
def tC (v:V):TE:=fun _ H Q=>Q v H
theorem xu {i:Nat} {x:Str} {pos:Pos} (hN:X.N[i]? = some x) (hv:Vis X.env.scope x) (hd:(x == ("__debug__":Str))=false:=by decide) (hcd:(x == ("__classdict__":Str))=false:=by decide):PE X (.Name x pos) (iY i):=by
 intro pins s σ H Q I h
 obtain ⟨v,e,h⟩:=h
 obtain ⟨m,hn,hl⟩:=I.loc
 obtain ⟨u,r,l⟩:=hl i x v hN e hv
 have fin:EP X pins σ Q u s:=⟨v,H,I,r,h⟩
 rcases l with ⟨hk,hm⟩ | ⟨hk,c,hc,hcell⟩
 ·exact wpAny_Name (wpAny_loadName_local I.ok.kind hk hn hm fin) hd
 ·rcases hk with hk | hk
  ·exact wpAny_Name (wpAny_loadName_cell I.ok.kind hk hc hcell fin) hd
  ·exact wpAny_Name (wpAny_loadName_free I.ok.kind hk hc hcell fin hcd) hd
theorem bI {i j pos}:PE X (.Constant (.int i) j pos) (tC (.int i)):=fun _ _ _ H _ I h=>wpAny_Constant_int ⟨.int i,H,I.tok _,⟨_,rfl⟩,h⟩
theorem Ww {b j pos}:PE X (.Constant (.bool b) j pos) (tC (.bl b)):=fun _ _ _ H _ I h=>Constant_bool ⟨.bl b,H,I,rfl,h⟩
theorem bH {j pos}:PE X (.Constant .none j pos) (tC .non):=fun _ _ _ H _ I h=>Constant_none ⟨.non,H,I,rfl,h⟩
theorem bE {x j pos}:PE X (.Constant (.str x) j pos) (tC (.str x)):=fun _ _ _ H _ I h=>Calls.Constant_str ⟨.str x,H,I.tok _,⟨_,rfl⟩,h⟩
def Gl (X:Cx) (x:Str):Prop:=X.env.kindOf x=some .globalImplicit
theorem u5 {E:Value→Shared→Prop} {pins:List (Addr × Obj)} {s:Shared} {σ:St} {H:Hp} {x:Str} {u:Value} {pos:Pos} {Q:Value→Shared→Prop} (I:Inv X pins σ H s) (hg:Gl X x) (hm:X.mg x=some u) (h:Q u s)
  (hd:(x == ("__debug__":Str))=false:=by decide):wpAny (model X.prog X.w) X.A (eval (.Name x pos) X.env) Q E s:=
 Calls.Name_function_global I.ok.kind hg (Calls.loadGlobal_global (by rw [I.ok.glob]; exact I.mod.glob.keeps I.bk) hm h) hd
theorem xQ {E:Value→Shared→Prop} {pins:List (Addr × Obj)} {s:Shared} {σ:St} {H:Hp} {x:Str} {u:Value} {pos:Pos} {Q:Value→Shared→Prop} (I:Inv X pins σ H s) (hg:Gl X x) (hm:X.mg x=none) (hv:bootBuiltins x=some u) (h:Q u s)
  (hn:x≠"__name__":=by decide) (hd:(x == ("__debug__":Str))=false:=by decide):wpAny (model X.prog X.w) X.A (eval (.Name x pos) X.env) Q E s:=by
 obtain ⟨mb,h1,h2⟩:=I.mod.blt
 exact Calls.Name_function_global I.ok.kind hg (Calls.loadGlobal_builtin (by rw [I.ok.glob]; exact I.mod.glob.keeps I.bk) hm (by rw [I.ok.blt]; exact h1.keeps I.bk) ((h2 x hn).trans hv) h) hd
theorem nU {x:Str} {v:V} {u:Value} {pos:Pos} (hg:Gl X x) (hm:X.mg x=some u) (r:RelV v u) (hd:(x == ("__debug__":Str))=false:=by decide):PE X (.Name x pos) (tC v):=
 fun _ _ _ H _ I h=>u5 I hg hm ⟨v,H,I,r,h⟩ hd
theorem gp {x:Str} {v:V} {u:Value} {pos:Pos} (hg:Gl X x) (hm:X.mg x=none) (hv:bootBuiltins x=some u) (r:RelV v u) (hn:x≠"__name__":=by decide) (hd:(x == ("__debug__":Str))=false:=by decide):PE X (.Name x pos) (tC v):=
 fun _ _ _ H _ I h=>xQ I hg hm hv ⟨v,H,I,r,h⟩ hn hd
variable {a b:Expr} {ta tb:TE} {pos:Pos}
def PC (X:Cx) (op:CmpOp) (a b:Expr) (t:TE):Prop:=
 ∀ (pins:List (Addr × Obj)) (s:Shared) (σ:St) (H:Hp) (Q:VK),Inv X pins σ H s→t σ H Q→
  wpAny (model X.prog X.w) X.A (eval a X.env) (fun v s₁=>wpAny (model X.prog X.w) X.A (eval b X.env) (fun u s₂=>wpAny (model X.prog X.w) X.A (compareOp op v u) (EP X pins σ Q) X.xe s₂) X.xe s₁) X.xe s
theorem jG (b:Expr) {op:CmpOp} (h:op≠.In) (h2:op≠.NotIn):behindInMarks op b=false:=by
 have e1:(op == CmpOp.In)=false:=by cases op <;> first | rfl | exact absurd rfl h
 have e2:(op == CmpOp.NotIn)=false:=by cases op <;> first | rfl | exact absurd rfl h2
 cases b <;> simp [behindInMarks,e1,e2]
def We (ta:TE):TE:=fun σ H Q=>ta σ H fun x H1=>Q (.bl (decide (x=.non))) H1
theorem RelV.none_iff {x:V} {v:Value} (r:RelV x v):(v == Value.none)=decide (x=.non):=by
 cases x with
 | non=>cases r; rfl
 | bl _=>cases r; rfl
 | int _=>obtain ⟨t,rfl⟩:=r; rfl
 | str _=>obtain ⟨t,rfl⟩:=r; rfl
 | byt _=>obtain ⟨t,rfl⟩:=r; rfl
 | flt _=>obtain ⟨t,rfl⟩:=r; rfl
 | ref _=>cases r; rfl
 | ty _=>cases r; rfl
theorem bN {j pos'} (ha:PE X a ta):PC X .Is a (.Constant .none j pos') (We ta):=by
 intro pins s σ H Q I h
 refine thn (ha pins s σ H _ I h) fun v s1 ⟨x,H1,I1,r1,q1⟩=>?_
 exact Constant_none (is_none_gen ⟨.bl _,H1,I1,by rw [r1.none_iff]; rfl,q1⟩)
def tB (t:TE):TT:=fun σ H Q=>t σ H fun x H1=>∃ c,x=.bl c∧Q c H1
theorem bw {op:CmpOp} {t:TE} (h:PC X op a b t) (h1:behindInMarks op b=false:=by first | exact jG _ (by decide) (by decide) | rfl):PT X (.Compare a [op] [b] pos) (tB t):=by
 intro pins s σ H Q I hw
 refine wpAny_isTrue_Compare1 (thn (h pins s σ H _ I hw) fun v s1 h1=>thn h1 fun u s2 h2=>thn h2 fun c s3 ⟨x,H1,I1,r1,q1⟩=>?_) h1
 obtain ⟨d,rfl,q⟩:=q1
 cases r1
 exact wpAny_truthy_bool ⟨H1,I1,q⟩
theorem bu {e:Expr} {t:TE} (h:PE X e t) (he:∀ yy,isTrue e X.env yy=(do let v ← yy; standAt e.pos; holding [v] (truthy v)):=by intro _; rfl):PT X e (tB t):=by
 intro pins s σ H Q I hw
 refine isTrue_plain (thn (h pins s σ H _ I hw) fun v s1 ⟨x,H1,I1,r1,q1⟩=>?_) (he _)
 obtain ⟨d,rfl,q⟩:=q1
 cases r1
 exact wpAny_truthy_bool ⟨H1,I1,q⟩
variable {tA tB':TT} {yk:List Expr}
def UI (t u:TT):TT:=fun σ H Q=>t σ H fun c H1=>if c=true then u σ H1 Q else Q false H1
def tOr (t u:TT):TT:=fun σ H Q=>t σ H fun c H1=>if c=true then Q true H1 else u σ H1 Q
def UC (t:TT):TT:=fun σ H Q=>t σ H fun c H1=>Q (!c) H1
theorem gc (ha:PT X a tA):PW X (.BoolOp .And [a] pos) tA:=by
 intro wh pins s σ H Q I h
 refine isTrue_and (thn (ha pins s σ H Q I h) fun c s1 e=>?_)
 cases c with
 | true=>exact isTrue_and_nil e
 | false=>exact e
theorem bq (ha:PT X a tA):PW X (.BoolOp .Or [a] pos) tA:=by
 intro wh pins s σ H Q I h
 refine isTrue_or (thn (ha pins s σ H Q I h) fun c s1 e=>?_)
 cases c with
 | false=>exact isTrue_or_nil e
 | true=>exact e
theorem br (ha:PT X a tA) (hb:PW X (.BoolOp .And (b::yk) pos) tB'):PW X (.BoolOp .And (a::b::yk) pos) (UI tA tB'):=by
 intro wh pins s σ H Q I h
 refine isTrue_and (thn (ha pins s σ H _ I h) fun c s1 ⟨H1,I1,q1⟩=>?_)
 cases c with
 | true=>exact hb wh pins s1 σ H1 Q I1 q1
 | false=>exact ⟨H1,I1,q1⟩
theorem Wr (ha:PT X a tA) (hb:PW X (.BoolOp .Or (b::yk) pos) tB'):PW X (.BoolOp .Or (a::b::yk) pos) (tOr tA tB'):=by
 intro wh pins s σ H Q I h
 refine isTrue_or (thn (ha pins s σ H _ I h) fun c s1 ⟨H1,I1,q1⟩=>?_)
 cases c with
 | true=>exact ⟨H1,I1,q1⟩
 | false=>exact hb wh pins s1 σ H1 Q I1 q1
theorem bv (ha:PT X a tA):PT X (.UnaryOp .Not a pos) (UC tA):=by
 intro pins s σ H Q I h
 exact isTrue_not (ha pins s σ H (fun c H1=>Q (!c) H1) I h)
def Wj (ta tb:TE):TE:=fun σ H Q=>ta σ H fun x H1=>∃ c,x=.bl c∧if c=true then tb σ H1 Q else Q (.bl false) H1
def UB (ta tb:TE):TE:=fun σ H Q=>ta σ H fun x H1=>∃ c,x=.bl c∧if c=true then Q (.bl true) H1 else tb σ H1 Q
def Wa (ta:TE):TE:=fun σ H Q=>ta σ H fun x H1=>∃ c,x=.bl c∧Q (.bl (!c)) H1
theorem bF {op} {t:TE} (h:PE X a t):PE X (.BoolOp op [a] pos) t:=fun pins s σ H Q I hw=>BoolOp_one (h pins s σ H Q I hw)
theorem bL (ha:PE X a ta) (hb:PE X (.BoolOp .And (b::yk) pos) tb):PE X (.BoolOp .And (a::b::yk) pos) (Wj ta tb):=by
 intro pins s σ H Q I h
 refine BoolOp_and (thn (ha pins s σ H _ I h) fun v s1 ⟨x,H1,I1,r1,q1⟩=>?_)
 obtain ⟨c,rfl,q1⟩:=q1
 cases r1
 refine wpAny_truthy_bool ?_
 cases c with
 | true=>exact hb pins s1 σ H1 Q I1 q1
 | false=>exact ⟨.bl false,H1,I1,rfl,q1⟩
theorem Wu (ha:PE X a ta) (hb:PE X (.BoolOp .Or (b::yk) pos) tb):PE X (.BoolOp .Or (a::b::yk) pos) (UB ta tb):=by
 intro pins s σ H Q I h
 refine BoolOp_or (thn (ha pins s σ H _ I h) fun v s1 ⟨x,H1,I1,r1,q1⟩=>?_)
 obtain ⟨c,rfl,q1⟩:=q1
 cases r1
 refine wpAny_truthy_bool ?_
 cases c with
 | false=>exact hb pins s1 σ H1 Q I1 q1
 | true=>exact ⟨.bl true,H1,I1,rfl,q1⟩
theorem bG (ha:PE X a ta):PE X (.UnaryOp .Not a pos) (Wa ta):=by
 intro pins s σ H Q I h
 refine UnaryOp_ (thn (ha pins s σ H _ I h) fun v s1 ⟨x,H1,I1,r1,q1⟩=>?_)
 obtain ⟨c,rfl,q1⟩:=q1
 cases r1
 exact not_of (wpAny_truthy_bool ⟨.bl (!c),H1,I1,rfl,q1⟩)
def tIf (t:TT) (ta tb:TE):TE:=fun σ H Q=>t σ H fun c H1=>if c=true then ta σ H1 Q else tb σ H1 Q
theorem kI {c:Expr} (hc:PT X c tA) (ha:PE X a ta) (hb:PE X b tb):PE X (.IfExp c a b pos) (tIf tA ta tb):=by
 intro pins s σ H Q I h
 refine wpAny_IfExp (thn (hc pins s σ H _ I h) fun d s1 ⟨H1,I1,q1⟩=>?_)
 cases d with
 | true=>exact ha pins s1 σ H1 Q I1 q1
 | false=>exact hb pins s1 σ H1 Q I1 q1
end
end L2
namespace L2
open PySem PySem.Spec PyProof.Rows
def SqL (K:PySem.W.Frag) (H:Hp) (a:Addr) (xs:List V):Prop:=
 Rd H a (.lst xs)∨
  ∃ (o:Obj) (its:Array Value) (n:Nat),K.lookup a=some o∧o.cls=.type "list"∧o.dict=none∧o.data=.seq its n∧its.size≤sizeLine∧Vals xs its.toList
def SqT (K:PySem.W.Frag) (H:Hp) (a:Addr) (xs:List V):Prop:=
 Rd H a (.tup xs)∨
  ∃ (o:Obj) (its:Array Value) (n:Nat),K.lookup a=some o∧o.cls=.type "tuple"∧o.data=.seq its n∧its.size≤sizeLine∧Vals xs its.toList
def Tp:Value→Option V
 | .none=>some .non
 | .bool b=>some (.bl b)
 | .int i _=>some (.int i)
 | .str x _=>some (.str x)
 | .bytes b _=>some (.byt b)
 | .float b _=>some (.flt b)
 | .ref a=>some (.ref a)
 | .type n=>some (.ty n)
 | _=>none
theorem RelV.abs {x:V} {u:Value} (r:RelV x u):Tp u=some x:=by
 cases x with
 | non=>cases r; rfl
 | bl _=>cases r; rfl
 | int _=>obtain ⟨t,rfl⟩:=r; rfl
 | str _=>obtain ⟨t,rfl⟩:=r; rfl
 | byt _=>obtain ⟨t,rfl⟩:=r; rfl
 | flt _=>obtain ⟨t,rfl⟩:=r; rfl
 | ref _=>cases r; rfl
 | ty _=>cases r; rfl
theorem RelV.inj {x y:V} {u:Value} (r:RelV x u) (q:RelV y u):x=y:=Option.some.inj (r.abs.symm.trans q.abs)
theorem Vals.inj:∀ {xs ys:List V} {us:List Value},Vals xs us→Vals ys us→xs=ys
 | _,_,_,.nil,.nil=>rfl
 | _,_,_,.cons r t,.cons r' t'=>by rw [r.inj r',Vals.inj t t']
section
variable {X:Cx} {pins:List (Addr × Obj)} {σ:St} {H:Hp} {s:Shared} {a:Addr} {xs ys:List V}
theorem SqL.of {K:PySem.W.Frag} (h:H a=some (.lst xs)):SqL K H a xs:=.inl (.inl h)
theorem SqT.of {K:PySem.W.Frag} (h:H a=some (.tup xs)):SqT K H a xs:=.inl (.inl h)
theorem Inv.list (I:Inv X pins σ H s) (h:SqL X.K H a xs):∃ its:List Value,Vals xs its∧PlainL s.heap a its.toArray∧xs.length≤sizeLine:=by
 rcases h with h | ⟨o,its,n,hk,hc,hd,hs,hz,r⟩
 ·obtain ⟨z,its,n,r,e⟩:=h.ok I.hok
  exact ⟨its,r,⟨_,n,e,rfl,rfl,rfl⟩,z⟩
 ·refine ⟨its.toList,r,⟨o,n,I.kIn a o hk,hc,hd,by simpa using hs⟩,?_⟩
  have e:=r.length
  simp only [Array.length_toList] at e
  omega
theorem Inv.tuple (I:Inv X pins σ H s) (h:SqT X.K H a xs):∃ its:List Value,Vals xs its∧IsTup s.heap a its.toArray∧xs.length≤sizeLine:=by
 rcases h with h | ⟨o,its,n,hk,hc,hs,hz,r⟩
 ·obtain ⟨z,its,r,p⟩:=h.ok I.hok
  exact ⟨its,r,p,z⟩
 ·refine ⟨its.toList,r,⟨o,I.kIn a o hk,hc,n,by simpa using hs⟩,?_⟩
  have e:=r.length
  simp only [Array.length_toList] at e
  omega
theorem Inv.list_inj (I:Inv X pins σ H s) (h:SqL X.K H a xs) (h':SqL X.K H a ys):xs=ys:=by
 obtain ⟨its,r,⟨o,n,e,_,_,d⟩,_⟩:=I.list h
 obtain ⟨its',r',⟨o',n',e',_,_,d'⟩,_⟩:=I.list h'
 rw [e] at e'; cases e'
 rw [d] at d'
 injection d' with d1 _
 have:its=its':=by simpa using congrArg Array.toList d1
 subst this
 exact r.inj r'
end
abbrev Cx.wish (X:Cx) (E:Value→Shared→Prop):Cx:={ X with xe:=E }
abbrev Cx.nox (X:Cx):Cx:=X.wish fun _ _=>False
theorem Cx.Ok.wish {X:Cx} (ok:X.Ok) (E:Value→Shared→Prop):(X.wish E).Ok:=
 ⟨ok.mod,ok.kind,ok.glob,ok.blt,ok.above,ok.inj,ok.has,ok.cab,ok.hd,ok.frames,ok.stk,ok.exf,ok.bs,ok.bsz,ok.noex,ok.exfs,ok.funs,ok.frf⟩
theorem Cx.Ok.unwish {X:Cx} {E:Value→Shared→Prop} (ok:(X.wish E).Ok):X.Ok:=
 ⟨ok.mod,ok.kind,ok.glob,ok.blt,ok.above,ok.inj,ok.has,ok.cab,ok.hd,ok.frames,ok.stk,ok.exf,ok.bs,ok.bsz,ok.noex,ok.exfs,ok.funs,ok.frf⟩
section
variable {X:Cx} {pins:List (Addr × Obj)} {σ:St} {H:Hp} {s:Shared} {E:Value→Shared→Prop}
theorem Inv.wish (I:Inv X pins σ H s) (E:Value→Shared→Prop):Inv (X.wish E) pins σ H s:=⟨I.ok.wish E,I.os,I.bare,I.base,I.loc,I.cell,I.free,I.freeC,I.pin,I.hok,I.len⟩
theorem Inv.unwish (I:Inv (X.wish E) pins σ H s):Inv X pins σ H s:=⟨I.ok.unwish,I.os,I.bare,I.base,I.loc,I.cell,I.free,I.freeC,I.pin,I.hok,I.len⟩
theorem SP.unwish {D:wS} {f:Flow} {s':Shared} (h:SP (X.wish E) pins D f s'):SP X pins D f s':=by
 cases f with
 | next=>obtain ⟨σ',H',I,q⟩:=h; exact ⟨σ',H',I.unwish,q⟩
 | brk=>obtain ⟨σ',H',I,q⟩:=h; exact ⟨σ',H',I.unwish,q⟩
 | cont=>obtain ⟨σ',H',I,q⟩:=h; exact ⟨σ',H',I.unwish,q⟩
 | ret u=>obtain ⟨v,σ',H',I,r,q⟩:=h; exact ⟨v,σ',H',I.unwish,r,q⟩
theorem PE.nox {e:Expr} {t:TE} (h:PE X.nox e t):PE X e t:=fun pins s σ H Q I hw=>
 wpAny_mono (h pins s σ H Q (I.wish _) hw) (fun _ _ ⟨v,H',I',r,q⟩=>⟨v,H',I'.unwish,r,q⟩) fun _ _ z=>False.elim z
theorem PT.nox {e:Expr} {t:TT} (h:PT X.nox e t):PT X e t:=fun pins s σ H Q I hw=>
 wpAny_mono (h pins s σ H Q (I.wish _) hw) (fun _ _ ⟨H',I',q⟩=>⟨H',I'.unwish,q⟩) fun _ _ z=>False.elim z
theorem PSs.nox {st:List Stmt} {t:TS} (h:PSs X.nox st t):PSs X st t:=fun pins s σ H D I hw=>
 wpAny_mono (h pins s σ H D (I.wish _) hw) (fun _ _ q=>q.unwish) fun _ _ z=>False.elim z
end
section
variable {X:Cx} {st:Stmt} {yk:List Stmt} {t u:TS} {e:Expr} {te:TE} {pos:Pos}
def Wc:TS:=fun D σ H=>D.nx σ H
def Uz (t u:TS):TS:=fun D σ H=>t { D with nx:=u D } σ H
theorem ge:PSs X [] Wc:=fun _ _ σ H _ I h=>wpAny_execs_nil ⟨σ,H,I,h⟩
theorem ph (h1:PS X st t) (h2:PSs X yk u):PSs X (st::yk) (Uz t u):=by
 intro pins s σ H D I h
 refine wpAny_execs_cons (thn (h1 pins s σ H { D with nx:=u D } I h) fun f s1 q=>?_)
 cases f with
 | next=>
  obtain ⟨σ',H',I',q⟩:=q
  exact h2 pins s1 σ' H' D I' q
 | ret v=>exact q
 | brk=>exact q
 | cont=>exact q
theorem xN (h1:PS X st t):PSs X [st] t:=by
 intro pins s σ H D I h
 refine wpAny_execs_cons (thn (h1 pins s σ H D I h) fun f s1 q=>?_)
 cases f with
 | next=>exact wpAny_execs_nil q
 | ret v=>exact q
 | brk=>exact q
 | cont=>exact q
theorem Inv.quiet {pins:List (Addr × Obj)} {σ:St} {H:Hp} {s:Shared} (I:Inv X pins σ H s):interactive X.env=false:=by simp [interactive,I.ok.kind]
def Wg (te:TE):TS:=fun D σ H=>te σ H fun _ H1=>D.nx σ H1
theorem uZ (he:PE X e te) (hs:swapsWith e none pos.line X.env=pure false:=by rfl):PS X (.Expr e pos) (Wg te):=by
 intro pins s σ H D I h
 exact wpAny_Expr_any (thn (he pins s σ H _ I h) fun v s1 ⟨x,H1,I1,r1,q1⟩=>⟨σ,H1,I1,q1⟩) I.quiet hs
def X9 (te:TE):TS:=fun D σ H=>te σ H D.rt
theorem oR (he:PE X e te):PS X (.Return (some e) pos) (X9 te):=by
 intro pins s σ H D I h
 exact wpAny_Return_some (thn (he pins s σ H _ I h) fun v s1 ⟨x,H1,I1,r1,q1⟩=>⟨x,σ,H1,I1,r1,q1⟩)
def UE (c:TT) (t u:TS):TS:=fun D σ H=>c σ H fun b H1=>if b=true then t D σ H1 else u D σ H1
theorem Ws {c:Expr} {a b:List Stmt} {tc:TT} (hc:PT X c tc) (ha:PSs X a t) (hb:PSs X b u):PS X (.If c a b pos) (UE tc t u):=by
 intro pins s σ H D I h
 refine wpAny_If (thn (hc pins s σ H _ I h) fun d s1 ⟨H1,I1,q1⟩=>?_)
 cases d with
 | true=>exact ha pins s1 σ H1 D I1 q1
 | false=>exact hb pins s1 σ H1 D I1 q1
def bc:TS:=fun _ _ _=>False
theorem kF:PS X st bc:=fun _ _ _ _ _ _ h=>h.elim
end
abbrev TG:=V→St→Hp→(St→Hp→Prop)→Prop
abbrev TGs:=List V→St→Hp→(St→Hp→Prop)→Prop
def PG (X:Cx) (target:Expr) (t:TG):Prop:=
 ∀ (pins:List (Addr × Obj)) (s:Shared) (σ:St) (H:Hp) (v:V) (u:Value) (Q:St→Hp→Prop),Inv X pins σ H s→RelV v u→t v σ H Q→
  wpAny (model X.prog X.w) X.A (assign target X.env u) (fun _ s'=>∃ σ' H',Inv X pins σ' H' s'∧Q σ' H') X.xe s
def PGs (X:Cx) (ts:List Expr) (t:TGs):Prop:=
 ∀ (pins:List (Addr × Obj)) (s:Shared) (σ:St) (H:Hp) (vs:List V) (us:List Value) (Q:St→Hp→Prop),Inv X pins σ H s→Vals vs us→t vs σ H Q→
  wpAny (model X.prog X.w) X.A (assignInOrder ((assignEach ts X.env).map (·.2)) us) (fun _ s'=>∃ σ' H',Inv X pins σ' H' s'∧Q σ' H') X.xe s
abbrev XZ:=V→V→V→Hp→(Hp→Prop)→Prop
def Uw (X:Cx) (t:XZ):Prop:=
 ∀ (pins:List (Addr × Obj)) (s:Shared) (σ:St) (H:Hp) (o i v:V) (ov iv u:Value) (Q:Hp→Prop),Inv X pins σ H s→RelV o ov→RelV i iv→RelV v u→t o i v H Q→
  wpAny (model X.prog X.w) X.A (setItem ov iv u) (fun _ s'=>∃ H',Inv X pins σ H' s'∧Q H') X.xe s
section
variable {X:Cx} {pos:Pos}
def pT (i:Nat):TG:=fun v σ H Q=>Q (σ.set i (some v)) H
theorem yq {i:Nat} {x:Str} (hN:X.N.Nodup) (hi:X.N[i]? = some x) (hx:Loc X.env.scope x) (hf:X.fn x=true∨X.env.scope.names.lookup x=some .local:=by first | exact .inl rfl | exact .inr rfl | assumption):PG X (.Name x pos) (pT i):=by
 intro pins s σ H v u Q I r h
 exact wpAny_assign_Name (vm I hN hi hx r (fun s' I'=>⟨_,H,I',h⟩) hf)
def U6:TGs:=fun vs σ H Q=>vs=[]∧Q σ H
def VS (t:TG) (u:TGs):TGs:=fun vs σ H Q=>∃ v r,vs=v::r∧t v σ H fun σ' H'=>u r σ' H' Q
theorem nS:PGs X [] U6:=by
 intro pins s σ H vs us Q I r h
 obtain ⟨e,h⟩:=h
 subst e
 cases r
 exact assignInOrder_nil ⟨σ,H,I,h⟩
theorem vo {e:Expr} {es:List Expr} {t:TG} {u:TGs} (h1:PG X e t) (h2:PGs X es u)
  (hs:(assignEach (e::es) X.env).map (·.2)=assign e X.env::(assignEach es X.env).map (·.2):=by rfl):PGs X (e::es) (VS t u):=by
 intro pins s σ H vs us Q I r h
 obtain ⟨v,vr,e1,h⟩:=h
 subst e1
 cases r with
 | cons r rr=>
  rw [hs]
  refine assignInOrder_cons (thn (h1 pins s σ H _ _ _ I r h) fun _ s1 ⟨σ1,H1,I1,q1⟩=>?_)
  exact h2 pins s1 σ1 H1 _ _ Q I1 rr q1
def U4 (K:PySem.W.Frag) (n:Nat) (t:TGs):TG:=fun v σ H Q=>∃ a xs,v=.ref a∧SqT K H a xs∧xs.length=n∧t xs σ H Q
theorem kG {es:List Expr} {k:Nat} {t:TGs} {n:Nat} (hc:X.calm=true) (h:PGs X es t)
  (hn:(assignEach es X.env).length=n:=by rfl) (hst:(assignEach es X.env).findIdx? (·.1)=none:=by rfl):PG X (.Tuple es k pos) (U4 X.K n t):=by
 intro pins s σ H v u Q I r hw
 obtain ⟨a,xs,e1,hq,hl,hw⟩:=hw
 subst e1
 cases r
 obtain ⟨its,rv,ht,hz⟩:=I.tuple hq
 refine assign_Tuple_tuple (I.ok.hd hc) ht (by simp [hn,← hl,rv.length]) hst fun h' hx=>?_
 have I1:Inv X pins σ H { s with heap:=h' }:=I.kept (t':=s.toks) fun b o e=>hx b o (Nat.ne_of_lt (Heap.lt_size e)) e
 exact h pins _ σ H xs _ Q I1 (by simpa using rv) hw
def U5 (to ti:TE) (t:XZ):TG:=fun v σ H Q=>to σ H fun o H1=>ti σ H1 fun i H2=>t o i v H2 fun H3=>Q σ H3
theorem bC {o i:Expr} {to ti:TE} {t:XZ} (ho:PE X o to) (hi:PE X i ti) (hs:Uw X t)
  (ha:∀ v,assign (.Subscript o i pos) X.env v=(do
   let ov ← holding [v] (eval o X.env)
   let iv ← holding [v,ov] (eval i X.env)
   standAt pos
   holding [v,ov,iv] (setItem ov iv v)
   release [v,ov,iv] []):=by intro _; rfl):PG X (.Subscript o i pos) (U5 to ti t):=by
 intro pins s σ H v u Q I r h
 rw [ha]
 refine wpAny_bind (wpAny_holding (thn (ho pins s σ H _ I h) fun ov s1 ⟨x,H1,I1,r1,q1⟩=>?_))
 refine wpAny_bind (wpAny_holding (thn (hi pins s1 σ H1 _ I1 q1) fun iv s2 ⟨y,H2,I2,r2,q2⟩=>?_))
 refine wpAny_bind (wpAny_standAt (wpAny_bind (wpAny_holding (thn (hs pins s2 σ H2 x y v ov iv u _ I2 r1 r2 r q2) fun _ s3 ⟨H3,I3,q3⟩=>?_))))
 exact wpAny_release ⟨σ,H3,I3,q3⟩
def bf (te:TE) (g:TG):TS:=fun D σ H=>te σ H fun x H1=>g x σ H1 D.nx
theorem bz {tg e:Expr} {te:TE} {g:TG} (he:PE X e te) (hg:PG X tg g) (hs:swapsWithSole [tg] e pos.line X.env=pure false:=by rfl) (hw:swappedStores [tg] e X.env=pure none:=by rfl)
  (h1:(assignEach [tg] X.env).map (·.2)=[assign tg X.env]:=by rfl):PS X (.Assign [tg] e pos) (bf te g):=by
 intro pins s σ H D I h
 refine wpAny_Assign_stores (thn (he pins s σ H _ I h) fun v s1 ⟨x,H1,I1,r1,q1⟩=>?_) hs hw
 rw [h1]
 exact thn (hg pins s1 σ H1 x v _ I1 r1 q1) fun _ s2 q=>q
theorem kD {i:Nat} {x:Str} {e:Expr} {te:TE} {pos':Pos} (hN:X.N.Nodup) (hi:X.N[i]? = some x) (hx:Loc X.env.scope x) (he:PE X e te) (hs:swapsWith e (some (.Name x pos')) pos.line X.env=pure false:=by rfl) (hf:X.fn x=true∨X.env.scope.names.lookup x=some .local:=by first | exact .inl rfl | exact .inr rfl | assumption):
  PS X (.Assign [.Name x pos'] e pos) (bf te (pT i)):=by
 intro pins s σ H D I h
 refine wpAny_Assign_Name (thn (he pins s σ H _ I h) fun v s1 ⟨y,H1,I1,r1,q1⟩=>?_) hs
 exact vm I1 hN hi hx r1 (fun s2 I2=>⟨_,H1,I2,q1⟩) hf
def UA (i j:Nat) (ta:TA):TS:=fun D σ H=>ta σ H fun vs H1=>∃ v w,vs=[v,w]∧D.nx ((σ.set i (some v)).set j (some w)) H1
theorem bx {i j:Nat} {x y:Str} {a b:Expr} {ta:TA} {px py pt:Pos} {kt k2 pt2} (hc:X.calm=true) (hN:X.N.Nodup) (hi:X.N[i]? = some x) (hj:X.N[j]? = some y) (hij:i≠j)
  (hx:X.env.scope.names.lookup x=some .local) (hy:X.env.scope.names.lookup y=some .local) (ha:PA X [a,b] ta)
  (hw:swappedStores [.Tuple [.Name x px,.Name y py] kt pt] (.Tuple [a,b] k2 pt2) X.env=pure (some [x,y]))
  (hs:swapsWithSole [.Tuple [.Name x px,.Name y py] kt pt] (.Tuple [a,b] k2 pt2) pos.line X.env=pure false:=by rfl):
  PS X (.Assign [.Tuple [.Name x px,.Name y py] kt pt] (.Tuple [a,b] k2 pt2) pos) (UA i j ta):=by
 intro pins s σ H D I h
 rw [exec_Assign_arm]
 refine wpAny_bind (wpAny_standAt ?_)
 rw [hs]
 refine wpAny_bind (wpAny_pure ?_)
 rw [if_neg (by decide)]
 refine wpAny_bind (Tuple_ (thn (ha _ pins s σ H _ I h) fun us s1 ⟨vs,H1,I1,r1,q1⟩=>?_))
 obtain ⟨v,w,e1,q1⟩:=q1
 subst e1
 obtain ⟨u1,u2,rfl,rv,rw'⟩:∃ u1 u2,us=[u1,u2]∧RelV v u1∧RelV w u2:=by
  cases r1 with
  | cons p q=>
   cases q with
   | cons p' q'=>
    cases q'
    exact ⟨_,_,rfl,p,p'⟩
 refine wpAny_newObj_type ?_ (by show 2≤sizeLine; decide)
 have I2:Inv X pins σ H1 { s1 with heap:=s1.heap.push { cls:=.type "tuple",data:=.seq [u1,u2].toArray } }:=I1.kept (t':=s1.toks) fun b o e=>Heap.get?_push_of_some _ e
 rw [hw]
 refine wpAny_bind (wpAny_pure ?_)
 show wpAny (model X.prog X.w) X.A (do rule "assign.swapped-stores"; let items ← unpackItems (.ref s1.heap.objs.size) 2 none; assignInOrder [fun v=>bindName X.env y v,fun v=>bindName X.env x v] items.reverse; pure Flow.next) _ _ _
 refine wpAny_bind (wpAny_rule (wpAny_bind (unpackItems_tuple (items:=#[u1,u2]) (I.ok.hd hc) (IsTup.new s1.heap _) fun h' hx'=>?_)))
 have I3:=I2.kept (h':=h') (t':=s1.toks) fun b o e=>hx' b o (Nat.ne_of_lt (Heap.lt_size e)) e
 show wpAny _ _ (assignInOrder [fun v=>bindName X.env y v,fun v=>bindName X.env x v] [u2,u1] >>= fun _=>pure Flow.next) _ _ _
 refine wpAny_bind (assignInOrder_cons (wpAny_bindName (vm I3 hN hj (.inl hy) rw' (fun s2 I4=>?_) (.inr hy))))
 refine assignInOrder_cons (wpAny_bindName (vm I4 hN hi (.inl hx) rv (fun s3 I5=>assignInOrder_nil (wpAny_pure ?_)) (.inr hx)))
 rw [List.set_comm _ _ (Ne.symm hij)] at I5
 exact ⟨_,H1,I5,q1⟩
end
section
variable {X:Cx} {pos:Pos}
def bb (c:TT) (tb:TS):TS:=fun D σ H=>∃ W:Nat→St→Hp→Prop,(∃ m,W m σ H)∧∀ m σ H,W m σ H→
 c σ H fun b H1=>if b=true then ∃ N:St→Hp→Prop,(∀ σ' H',N σ' H'→∃ m',m'<m∧W m' σ' H')∧tb { D with nx:=N,ct:=N,bk:=D.nx } σ H1 else D.nx σ H1
theorem kC {c:Expr} {body:List Stmt} {tc:TT} {tb:TS} (hp:PassesOwn (model X.prog X.w) X.A X.env X.xe) (hc:PT X c tc) (hb:PSs X body tb):PS X (.While c body [] pos) (bb tc tb):=by
 intro pins s σ H D I h
 obtain ⟨W,⟨m0,w0⟩,turn⟩:=h
 refine wpAny_While (codeAny_whileLoop (fun n s'=>∃ σ' H',Inv X pins σ' H' s'∧W n σ' H') ?_ m0 ⟨σ,H,I,w0⟩)
 rintro n s1 ⟨σ1,H1,I1,w1⟩
 refine wpAny_passesOwn hp (thn (hc pins s1 σ1 H1 _ I1 (turn n σ1 H1 w1)) fun b s2 ⟨H2,I2,q2⟩=>?_)
 cases b with
 | true=>
  obtain ⟨N,hN,q2⟩:=q2
  rw [if_pos rfl]
  refine wpAny_passesOwn hp (thn (hb pins s2 σ1 H2 _ I2 q2) fun f s3 q3=>?_)
  cases f with
  | next=>
   obtain ⟨σ3,H3,I3,n3⟩:=q3
   obtain ⟨m',hm,w3⟩:=hN σ3 H3 n3
   exact ⟨m',hm,σ3,H3,I3,w3⟩
  | cont=>
   obtain ⟨σ3,H3,I3,n3⟩:=q3
   obtain ⟨m',hm,w3⟩:=hN σ3 H3 n3
   exact ⟨m',hm,σ3,H3,I3,w3⟩
  | brk=>exact q3
  | ret v=>exact q3
 | false=>
  rw [if_neg Bool.false_ne_true]
  exact wpAny_execs_nil ⟨σ1,H2,I2,q2⟩
end
structure It where
 go:Nat→Hp→Prop
 yld:Nat→Hp→V→Hp→Prop
 stop:Nat→Hp→Prop
def wR (X:Cx) (pins:List (Addr × Obj)) (H:Hp) (b:Addr):Prop:=
 H b=none∧b≠X.env.locals∧b∉X.fs∧(b∈X.ex∨X.s₀.heap.objs.size≤b)∧(∀ x c,X.env.cells.lookup x=some c→c≠b)∧∀ p∈X.pn++pins,p.1≠b
theorem Inv.fpOk {X:Cx} {pins:List (Addr × Obj)} {σ:St} {H H':Hp} {s:Shared} {b:Addr} (I:Inv X pins σ H s) (hb:s.heap.objs.size≤b) (hn:H' b=none):wR X pins H' b:=by
 refine ⟨hn,Nat.ne_of_gt (Nat.lt_of_lt_of_le I.lt hb),I.nofs hb,.inr (Nat.le_trans I.sz hb),fun x c e z=>?_,fun p hp z=>?_⟩
 ·obtain ⟨v,q⟩:=I.cell x c e
  exact absurd (Nat.lt_of_lt_of_le q.lt (by rw [z]; exact hb)) (Nat.lt_irrefl _)
 ·exact absurd (Nat.lt_of_lt_of_le (Heap.lt_size (I.pin p hp).1) (by rw [z]; exact hb)) (Nat.lt_irrefl _)
structure qE (P:Program) (w:World) (K:PySem.W.Frag) (tg:Expr) (J:It) (fp:List Addr) (it:Addr) (tn:Nat→Heap→Prop):Prop where
 mem:it∈fp
 obj:∀ i h,tn i h→∀ b∈fp,∃ o,h.get? b=some o∧∀ v,o.data≠.cell v
 keep:∀ i h h',tn i h→(∀ b∈fp,∀ o,h.get? b=some o→h'.get? b=some o)→tn i h'
 item:∀ (X:Cx),X.prog=P→X.w=w→X.K=K→X.calm=true→∀ (i:Nat) (pins:List (Addr × Obj)) (s:Shared) (σ:St) (H:Hp) (E:Value→Shared→Prop),Inv X pins σ H s→(∀ b∈fp,wR X pins H b)→tn i s.heap→J.go i H→
  wpAny (model P w) X.A (pyNext (.ref it)) (fun r s1=>∃ u,r=some u∧
   wpAny (model P w) X.A (letOwnedTupleGo tg (.ref it) u) (fun _ s2=>∃ x H',Inv X pins σ H' s2∧RelV x u∧J.yld i H x H'∧tn (i+1) s2.heap∧∀ b∈fp,H' b=none) E s1) E s
 done:∀ (X:Cx),X.prog=P→X.w=w→X.K=K→X.calm=true→∀ (i:Nat) (pins:List (Addr × Obj)) (s:Shared) (σ:St) (H:Hp) (E:Value→Shared→Prop),Inv X pins σ H s→(∀ b∈fp,wR X pins H b)→tn i s.heap→J.stop i H→
  wpAny (model P w) X.A (pyNext (.ref it)) (fun r s1=>r=none∧Inv X pins σ H s1) E s
 self:∀ (A:Around) (i:Nat) (s:Shared) (Q:Value→Shared→Prop) (E:Value→Shared→Prop),tn i s.heap→Q (.ref it) s→wpAny (model P w) A (pyIter (.ref it)) Q E s
abbrev TI:=St→Hp→(It→Hp→Prop)→Prop
def PIE (X:Cx) (pins:List (Addr × Obj)) (σ:St) (tg:Expr) (R:It→Hp→Prop) (itv:Value) (s2:Shared):Prop:=
 ∃ (it:Addr) (fp:List Addr) (tn:Nat→Heap→Prop) (J:It) (H':Hp),itv=.ref it∧Inv X pins σ H' s2∧qE X.prog X.w X.K tg J fp it tn∧tn 0 s2.heap∧(∀ b∈fp,wR X pins H' b)∧R J H'
def PI (X:Cx) (tg iter:Expr) (wi:TI):Prop:=
 ∀ (pins:List (Addr × Obj)) (s:Shared) (σ:St) (H:Hp) (R:It→Hp→Prop),Inv X pins σ H s→wi σ H R→
  wpAny (model X.prog X.w) X.A (eval iter X.env) (fun v s1=>wpAny (model X.prog X.w) X.A (pyIter v) (PIE X pins σ tg R) X.xe s1) X.xe s
theorem n6 {M:Model} {A:Around} {E:Value→Shared→Prop} {s:Shared} {tg:Expr} {it:Addr} {u:Value} {o:Obj} {n:String} {vs:Array Value} {Q:Unit→Shared→Prop} (ho:s.heap.get? it=some o) (hc:o.cls=.type n) (hd:o.data=.fields vs)
  (hn:["enumerate","zip","dict_itemiterator","dict_reverseitemiterator","odict_iterator","itertools.zip_longest","itertools.pairwise"].contains n=false) (hQ:Q () s):wpAny M A (letOwnedTupleGo tg (.ref it) u) Q E s:=by
 unfold letOwnedTupleGo
 cases tg <;> first
  | exact wpAny_pure hQ
  | (cases u <;> first
    | exact wpAny_pure hQ
    | (refine wpAny_bind (wpAny_load ho ?_)
       rw [hc,hd]
       show wpAny M A (if (["enumerate","zip","dict_itemiterator","dict_reverseitemiterator","odict_iterator","itertools.zip_longest","itertools.pairwise"].contains n && vs[0]? == some (rawInt _))=true then _ else _) Q E s
       rw [if_neg (by intro h; rw [hn,Bool.false_and] at h; cases h)]
       exact wpAny_pure hQ))
def Itl (K:PySem.W.Frag) (a:Addr):It:=
 ⟨fun i H=>∃ xs x,SqL K H a xs∧xs[i]? = some x,fun i H x H'=>H'=H∧∀ xs,SqL K H a xs→xs[i]? = some x,fun i H=>∃ xs,SqL K H a xs∧xs.length≤i⟩
def Itr (lo:Int) (n:Nat):It:=⟨fun i _=>i<n,fun i H x H'=>H'=H∧x=.int (lo+i),fun i _=>n≤i⟩
theorem mQ {P:Program} {w:World} {K:PySem.W.Frag} {tg:Expr} (a it:Addr):qE P w K tg (Itl K a) [it] it (fun i h=>h.IsListIter it a i) where
 mem:=by simp
 obj:=fun i h st b hb=>by
  have e:b=it:=by simpa using hb
  subst e
  obtain ⟨o,e,c,d⟩:=st
  exact ⟨o,e,fun v z=>by rw [d] at z; cases z⟩
 keep:=fun i h h' st k=>st.at fun o e=>k it (by simp) o e
 item:=by
  intro X hP hw hK hc i pins s σ H E I hf st hg
  subst hP hw hK
  obtain ⟨xs,x,hq,hx⟩:=hg
  obtain ⟨its,rv,p,hz⟩:=I.list hq
  obtain ⟨u,hu,ru⟩:=rv.get hx
  obtain ⟨f0,f1,f2,f3,f4,f5⟩:=hf it (by simp)
  refine wpAny_pyNext_list_item st p.isList (x:=u) (by simpa using hu) fun h' st' sb=>?_
  have I1:Inv X pins σ H { s with heap:=h' }:=I.turned (t':=s.toks) (fun b o hb e=>(sb.2 b hb).trans e) f0 f1 f3 f4 f5
  obtain ⟨o,e,c,d⟩:=id st'
  exact ⟨u,rfl,n6 (s:={ s with heap:=h' }) e c d (by decide) ⟨x,H,I1,ru,⟨rfl,fun ys hy=>by rw [I.list_inj hy hq]; exact hx⟩,st',fun b hb=>(hf b hb).1⟩⟩
 done:=by
  intro X hP hw hK hc i pins s σ H E I hf st hg
  subst hP hw hK
  obtain ⟨xs,hq,hx⟩:=hg
  obtain ⟨its,rv,p,hz⟩:=I.list hq
  obtain ⟨f0,f1,f2,f3,f4,f5⟩:=hf it (by simp)
  have hl:=rv.length
  exact wpAny_pyNext_list_end (I.ok.hd hc) st p.isList (by simp; omega) fun h' eb=>⟨rfl,I.turned (t':=s.toks) (fun b o hb e=>eb b o hb e) f0 f1 f3 f4 f5⟩
 self:=fun _ _ _ _ _ st h=>wpAny_pyIter_listiter st h
theorem oy {P:Program} {w:World} {K:PySem.W.Frag} {tg:Expr} (it:Addr) (lo:Int) (n:Nat):qE P w K tg (Itr lo n) [it] it (fun i h=>IsRangeIter h it (lo+(i:Nat)*1) ((n:Int) - (i:Nat)) 1) where
 mem:=by simp
 obj:=fun i h st b hb=>by
  have e:b=it:=by simpa using hb
  subst e
  exact ⟨_,st,fun v z=>by
   have z':Data.fields _=Data.cell v:=z
   cases z'⟩
 keep:=fun i h h' st k=>k it (by simp) _ st
 item:=by
  intro X hP hw hK hc i pins s σ H E I hf st hg
  subst hP hw hK
  obtain ⟨f0,f1,f2,f3,f4,f5⟩:=hf it (by simp)
  have W:=Walks.range (prog:=X.prog) (w:=X.w) (I.ok.hd hc) it lo 1 n
  refine W.item i s _ _ hg st fun v h' tk hv st' kk=>?_
  obtain ⟨t,rfl⟩:=hv
  have I1:Inv X pins σ H { s with heap:=h',toks:=tk }:=I.turned (fun b o hb e=>kk b o (by simpa using hb) e) f0 f1 f3 f4 f5
  refine ⟨_,rfl,n6 (s:={ s with heap:=h',toks:=tk }) (n:="range_iterator") st' rfl rfl (by decide) ⟨.int (lo+i),H,I1,⟨t,?_⟩,⟨rfl,rfl⟩,st',fun b hb=>(hf b hb).1⟩⟩
  rw [Int.mul_one]
 done:=by
  intro X hP hw hK hc i pins s σ H E I hf st hg
  subst hP hw hK
  obtain ⟨f0,f1,f2,f3,f4,f5⟩:=hf it (by simp)
  exact wpAny_pyNext_range_end (I.ok.hd hc) st (by have:n≤i:=hg; omega) fun h' eb=>⟨rfl,I.turned (t':=s.toks) (fun b o hb e=>eb b o hb e) f0 f1 f3 f4 f5⟩
 self:=fun _ _ _ _ _ st h=>wpAny_pyIter_rangeiter st h
end L2
namespace L2
open PySem PySem.Spec PyProof.Rows
section
variable {X:Cx} {tg:Expr}
def VP (K:PySem.W.Frag) (tl:TE):TI:=fun σ H R=>tl σ H fun x H1=>∃ a,x=.ref a∧(∃ xs,SqL K H1 a xs)∧R (Itl K a) H1
theorem nR {l:Expr} {tl:TE} (hl:PE X l tl):PI X tg l (VP X.K tl):=by
 intro pins s σ H R I h
 refine thn (hl pins s σ H _ I h) fun v s1 ⟨x,H1,I1,r1,q1⟩=>?_
 obtain ⟨a,e,⟨xs,hq⟩,q⟩:=q1
 subst e
 cases r1
 obtain ⟨its,rv,p,hz⟩:=I1.list hq
 refine wpAny_pyIter_list p.isList ?_
 refine ⟨s1.heap.objs.size,[s1.heap.objs.size],_,_,H1,rfl,I1.kept (t':=s1.toks) fun b o e=>Heap.get?_push_of_some _ e,mQ a _,⟨_,Heap.get?_push_size _ rfl,rfl,rfl⟩,fun b hb=>?_,q⟩
 have e:b=s1.heap.objs.size:=by simpa using hb
 subst e
 exact I1.fpOk (Nat.le_refl _) (I1.hok.fresh (Nat.le_refl _))
theorem pd {pins:List (Addr × Obj)} {σ:St} {H:Hp} {s:Shared} {R:It→Hp→Prop} {E:Value→Shared→Prop} {lo hi:Int} {t u v:Tok} {tk:Nat} (I:Inv X pins σ H s) (h1:-(2 ^ 62)≤lo) (h2:lo<2 ^ 62) (h3:-(2 ^ 62)≤hi) (h4:hi<2 ^ 62)
  (q:R (Itr lo (hi - lo).toNat) H):wpAny (model X.prog X.w) X.A (pyIter (.ref s.heap.objs.size)) (PIE X pins σ tg R) E { s with heap:=s.heap.push { cls:=.type "range",data:=.fields #[.int lo t,.int hi u,.int 1 v] },toks:=tk }:=by
 refine wpAny_pyIter_range (IsRange.new ..) (small_one h1 h2 h3 h4) ?_
 have I1:Inv X pins σ H { s with heap:=s.heap.push { cls:=.type "range",data:=.fields #[.int lo t,.int hi u,.int 1 v] },toks:=tk }:=I.kept fun b o e=>Heap.get?_push_of_some _ e
 refine ⟨(s.heap.push { cls:=.type "range",data:=.fields #[.int lo t,.int hi u,.int 1 v] }).objs.size,[(s.heap.push { cls:=.type "range",data:=.fields #[.int lo t,.int hi u,.int 1 v] }).objs.size],_,_,H,rfl,
  I1.kept (t':=tk) fun b o e=>Heap.get?_push_of_some _ e,oy _ lo (hi - lo).toNat,?_,fun b hb=>?_,q⟩
 ·have e1:lo+((0:Nat):Int)*1=lo:=by simp
  have e2:(((hi - lo).toNat:Nat):Int) - ((0:Nat):Int)=Builtin.Range.rangeSize lo hi 1:=by rw [rangeSize_one]; split <;> omega
  show IsRangeIter _ _ (lo+((0:Nat):Int)*1) ((((hi - lo).toNat:Nat):Int) - ((0:Nat):Int)) 1
  rw [e1,e2]
  exact Heap.get?_push_size _ rfl
 ·have e:b=(s.heap.push { cls:=.type "range",data:=.fields #[.int lo t,.int hi u,.int 1 v] }).objs.size:=by simpa using hb
  subst e
  exact I1.fpOk (Nat.le_refl _) (I1.hok.fresh (Nat.le_refl _))
def VO (ta:TA):TI:=fun σ H R=>ta σ H fun vs H1=>∃ j:Int,vs=[.int j]∧-(2 ^ 62)≤j∧j<2 ^ 62∧R (Itr 0 j.toNat) H1
def VN (ta:TA):TI:=fun σ H R=>ta σ H fun vs H1=>∃ i j:Int,vs=[.int i,.int j]∧(-(2 ^ 62)≤i∧i<2 ^ 62∧-(2 ^ 62)≤j∧j<2 ^ 62)∧R (Itr i (j - i).toNat) H1
theorem sT {a:Expr} {ta:TA} {p pos:Pos} (hg:Gl X "range") (hm:X.mg "range"=none) (ha:PA X [a] ta) (hs:starEach [a] X.env=[(false,eval a X.env)]:=by rfl):PI X tg (.Call (.Name "range" p) [a] [] pos) (VO ta):=by
 intro pins s σ H R I h
 refine Call_ (xQ I hg hm boot_range (PyProof.Rows.callWith_type1 (thn (ha pos pins s σ H _ I h) fun us s1 ⟨vs,H1,I1,r1,q1⟩=>?_) hs rfl))
 obtain ⟨j,e,q1,q2,q⟩:=q1
 subst e
 cases r1 with
 | cons r rr=>
  cases rr
  obtain ⟨t,rfl⟩:=r
  exact call_range_1 (pd I1 (by omega) (by omega) q1 q2 (by simpa using q))
theorem ld {a b:Expr} {ta:TA} {p pos:Pos} (hg:Gl X "range") (hm:X.mg "range"=none) (ha:PA X [a,b] ta) (hs:starEach [a,b] X.env=[(false,eval a X.env),(false,eval b X.env)]:=by rfl) (hs2:starEach [b] X.env=[(false,eval b X.env)]:=by rfl):
  PI X tg (.Call (.Name "range" p) [a,b] [] pos) (VN ta):=by
 intro pins s σ H R I h
 refine Call_ (xQ I hg hm boot_range (PyProof.Rows.callWith_type1 (thn (ha pos pins s σ H _ I h) fun us s1 ⟨vs,H1,I1,r1,q1⟩=>?_) (by rw [hs,hs2]) (by rw [hs2]; rfl)))
 obtain ⟨i,j,e,⟨q1,q2,q3,q4⟩,q⟩:=q1
 subst e
 cases r1 with
 | cons r rr=>
  cases rr with
  | cons r' rr=>
   cases rr
   obtain ⟨t,rfl⟩:=r
   obtain ⟨t',rfl⟩:=r'
   exact call_range_2 (pd I1 q1 q2 q3 q4 q)
def UF (wi:TI) (g:TG) (tb:TS):TS:=fun D σ H=>wi σ H fun J H1=>∃ W:Nat→Nat→St→Hp→Prop,(∃ m,W 0 m σ H1)∧∀ i m σ H,W i m σ H→
 (J.stop i H∧D.nx σ H)∨(J.go i H∧∃ N:St→Hp→Prop,(∀ σ' H',N σ' H'→∃ m',m'<m∧W (i+1) m' σ' H')∧∀ x H',J.yld i H x H'→g x σ H' fun σ2 H2=>tb { D with nx:=N,ct:=N,bk:=D.nx } σ2 H2)
def xt (fp:List Addr) (h:Heap):List (Addr × Obj):=fp.filterMap fun b=>(h.get? b).map fun o=>(b,o)
theorem vd {fp:List Addr} {h:Heap} {b:Addr} {o:Obj} (hb:b∈fp) (e:h.get? b=some o):(b,o)∈xt fp h:=List.mem_filterMap.mpr ⟨b,hb,by rw [e]; rfl⟩
theorem lm {fp:List Addr} {h:Heap} {p:Addr × Obj} (hp:p∈xt fp h):p.1∈fp∧h.get? p.1=some p.2:=by
 obtain ⟨b,hb,e⟩:=List.mem_filterMap.mp hp
 cases q:h.get? b with
 | none=>rw [q] at e; cases e
 | some o=>
  rw [q] at e
  have e':(b,o)=p:=Option.some.inj e
  subst e'
  exact ⟨hb,q⟩
theorem Inv.pinned {pins:List (Addr × Obj)} {σ:St} {H:Hp} {s:Shared} {fp:List Addr} (I:Inv X pins σ H s) (hf:∀ b∈fp,wR X pins H b) (ho:∀ b∈fp,∃ o,s.heap.get? b=some o∧∀ v,o.data≠.cell v):Inv X (pins++xt fp s.heap) σ H s:=
 I.pins_of fun p hp=>(List.mem_append.mp hp).elim (fun z=>I.pin p (List.mem_append_right _ z)) fun z=>by
  obtain ⟨hb,e⟩:=lm z
  obtain ⟨f0,f1,f2,_⟩:=hf p.1 hb
  obtain ⟨o,e',d⟩:=ho p.1 hb
  rw [e] at e'; cases e'
  exact ⟨e,f0,f1,f2,d⟩
theorem Inv.unpinned {pins pl:List (Addr × Obj)} {σ:St} {H:Hp} {s:Shared} (I:Inv X (pins++pl) σ H s):Inv X pins σ H s:=I.pins_of fun p hp=>I.pin p (List.mem_append_right _ (List.mem_append_left _ hp))
theorem w_ {iter:Expr} {body:List Stmt} {wi:TI} {g:TG} {tb:TS} {pos:Pos} (hp:PassesOwn (model X.prog X.w) X.A X.env X.xe) (hc:X.calm=true) (hi:PI X tg iter wi) (hg:PG X tg g) (hb:PSs X body tb)
  (hs:∀ x,foldedSetIterable iter X.env x=pure x:=by intro _; rfl):PS X (.For tg iter body [] pos) (UF wi g tb):=by
 intro pins s σ H D I h
 refine wpAny_For (thn (hi pins s σ H _ I h) fun v s1 h1=>thn h1 fun itv s2 h2=>?_) hs
 obtain ⟨it,fp,tn,J,H2,e,I2,T,st2,f2,W,⟨m0,w0⟩,turn⟩:=h2
 subst e
 have stat:∀ {H':Hp},(∀ b∈fp,H' b=none)→∀ b∈fp,wR X pins H' b:=fun hn b hb=>⟨hn b hb,(f2 b hb).2⟩
 refine codeAny_forLoop_any (fun n s'=>∃ i σ' H',Inv X pins σ' H' s'∧tn i s'.heap∧(∀ b∈fp,H' b=none)∧W i n σ' H') ?_ m0 ⟨0,σ,H2,I2,st2,fun b hb=>(f2 b hb).1,w0⟩
 rintro n s3 ⟨i,σ3,H3,I3,st3,fr3,w3⟩
 rcases turn i n σ3 H3 w3 with ⟨stop,qn⟩ | ⟨go,N,hN,step⟩
 ·refine wpAny_passesOwn hp (thn (T.done X rfl rfl rfl hc i pins s3 σ3 H3 X.xe I3 (stat fr3) st3 stop) fun r s4 ⟨hr,I4⟩=>?_)
  subst hr
  exact wpAny_execs_nil ⟨σ3,H3,I4,qn⟩
 ·refine wpAny_passesOwn hp (thn (T.item X rfl rfl rfl hc i pins s3 σ3 H3 X.xe I3 (stat fr3) st3 go) fun r s4 ⟨u,hr,h4⟩=>?_)
  subst hr
  refine wpAny_passesOwn hp (thn h4 fun _ s5 ⟨x,H5,I5,r5,y5,st5,fr5⟩=>?_)
  have I5':=I5.pinned (stat fr5) (T.obj _ _ st5)
  refine wpAny_passesOwn hp (thn (hg _ s5 σ3 H5 x u _ I5' r5 (step x H5 y5)) fun _ s6 ⟨σ6,H6,I6,q6⟩=>?_)
  refine wpAny_passesOwn hp (thn (hb _ s6 σ6 H6 _ I6 q6) fun f s7 q7=>?_)
  have again:∀ {σ7:St} {H7:Hp},Inv X (pins++xt fp s5.heap) σ7 H7 s7→N σ7 H7→∃ m,m<n∧∃ i σ' H',Inv X pins σ' H' s7∧tn i s7.heap∧(∀ b∈fp,H' b=none)∧W i m σ' H':=fun {σ7 H7} I7 n7=>by
   obtain ⟨m',hm,w7⟩:=hN σ7 H7 n7
   refine ⟨m',hm,i+1,σ7,H7,I7.unpinned,T.keep _ _ _ st5 fun b hb o e=>(I7.pin (b,o) (List.mem_append_right _ (List.mem_append_right _ (vd hb e)))).1,fun b hb=>?_,w7⟩
   obtain ⟨o,e,d⟩:=T.obj _ _ st5 b hb
   exact (I7.pin (b,o) (List.mem_append_right _ (List.mem_append_right _ (vd hb e)))).2.1
  cases f with
  | next=>obtain ⟨σ7,H7,I7,n7⟩:=q7; exact again I7 n7
  | cont=>obtain ⟨σ7,H7,I7,n7⟩:=q7; exact again I7 n7
  | brk=>obtain ⟨σ7,H7,I7,q7⟩:=q7; exact ⟨σ7,H7,I7.unpinned,q7⟩
  | ret v=>obtain ⟨x7,σ7,H7,I7,r7,q7⟩:=q7; exact ⟨x7,σ7,H7,I7.unpinned,r7,q7⟩
end
theorem jR {K:PySem.W.Frag} {a:Addr} {xs:List V} {g:TG} {tb:TS} {D:wS} {σ:St} {H:Hp} (Pv:Nat→St→Hp→Prop) (h0:Pv 0 σ H) (hl:∀ i σ H,i≤xs.length→Pv i σ H→SqL K H a xs)
  (hs:∀ i x σ H,xs[i]? = some x→Pv i σ H→g x σ H fun σ2 H2=>tb { D with nx:=Pv (i+1),ct:=Pv (i+1),bk:=D.nx } σ2 H2) (hd:∀ σ H,Pv xs.length σ H→D.nx σ H):
  ∃ W:Nat→Nat→St→Hp→Prop,(∃ m,W 0 m σ H)∧∀ i m σ H,W i m σ H→
   ((Itl K a).stop i H∧D.nx σ H)∨((Itl K a).go i H∧∃ N:St→Hp→Prop,(∀ σ' H',N σ' H'→∃ m',m'<m∧W (i+1) m' σ' H')∧∀ x H',(Itl K a).yld i H x H'→g x σ H' fun σ2 H2=>tb { D with nx:=N,ct:=N,bk:=D.nx } σ2 H2):=by
 refine ⟨fun i m σ H=>m=xs.length - i∧i≤xs.length∧Pv i σ H,⟨xs.length,by simp,Nat.zero_le _,h0⟩,?_⟩
 rintro i m σ H ⟨rfl,hi,p⟩
 have q:=hl i σ H hi p
 by_cases hlt:i<xs.length
 ·refine .inr ⟨⟨xs,xs[i],q,by simp [hlt]⟩,Pv (i+1),fun σ' H' p'=>⟨xs.length - (i+1),by omega,rfl,hlt,p'⟩,fun x H' y=>?_⟩
  obtain ⟨e,y⟩:=y
  subst e
  exact hs i x σ _ (y xs q) p
 ·have e:i=xs.length:=by omega
  subst e
  exact .inl ⟨⟨xs,q,Nat.le_refl _⟩,hd σ H p⟩
theorem sZ {lo:Int} {n:Nat} {g:TG} {tb:TS} {D:wS} {σ:St} {H:Hp} (Pv:Nat→St→Hp→Prop) (h0:Pv 0 σ H)
  (hs:∀ i σ H,i<n→Pv i σ H→g (.int (lo+i)) σ H fun σ2 H2=>tb { D with nx:=Pv (i+1),ct:=Pv (i+1),bk:=D.nx } σ2 H2) (hd:∀ σ H,Pv n σ H→D.nx σ H):
  ∃ W:Nat→Nat→St→Hp→Prop,(∃ m,W 0 m σ H)∧∀ i m σ H,W i m σ H→
   ((Itr lo n).stop i H∧D.nx σ H)∨((Itr lo n).go i H∧∃ N:St→Hp→Prop,(∀ σ' H',N σ' H'→∃ m',m'<m∧W (i+1) m' σ' H')∧∀ x H',(Itr lo n).yld i H x H'→g x σ H' fun σ2 H2=>tb { D with nx:=N,ct:=N,bk:=D.nx } σ2 H2):=by
 refine ⟨fun i m σ H=>m=n - i∧i≤n∧Pv i σ H,⟨n,by simp,Nat.zero_le _,h0⟩,?_⟩
 rintro i m σ H ⟨rfl,hi,p⟩
 by_cases hlt:i<n
 ·refine .inr ⟨hlt,Pv (i+1),fun σ' H' p'=>⟨n - (i+1),by omega,rfl,hlt,p'⟩,fun x H' y=>?_⟩
  obtain ⟨e,y⟩:=y
  subst e y
  exact hs i σ _ hlt p
 ·have e:i=n:=by omega
  subst e
  exact .inl ⟨Nat.le_refl _,hd σ H p⟩
end L2
namespace L2
open PySem PySem.Spec PyProof.Rows
abbrev R2:=V→V→Hp→VK→Prop
def OpR (X:Cx) (f:Value→Value→Sem Value) (r:R2):Prop:=
 ∀ (pins:List (Addr × Obj)) (s:Shared) (σ:St) (H:Hp) (x y:V) (v u:Value) (Q:VK),Inv X pins σ H s→RelV x v→RelV y u→r x y H Q→
  wpAny (model X.prog X.w) X.A (f v u) (EP X pins σ Q) X.xe s
def UnR (X:Cx) (f:Value→Sem Value) (r:V→Hp→VK→Prop):Prop:=
 ∀ (pins:List (Addr × Obj)) (s:Shared) (σ:St) (H:Hp) (x:V) (v:Value) (Q:VK),Inv X pins σ H s→RelV x v→r x H Q→
  wpAny (model X.prog X.w) X.A (f v) (EP X pins σ Q) X.xe s
def CallR (X:Cx) (f:Value) (r:List V→Hp→VK→Prop):Prop:=
 ∀ (pins:List (Addr × Obj)) (s:Shared) (σ:St) (H:Hp) (xs:List V) (us:List Value) (Q:VK),Inv X pins σ H s→Vals xs us→r xs H Q→
  wpAny (model X.prog X.w) X.A (call f us) (EP X pins σ Q) X.xe s
def Tq (X:Cx) (r:V→Hp→(Bool→Hp→Prop)→Prop):Prop:=
 ∀ (pins:List (Addr × Obj)) (s:Shared) (σ:St) (H:Hp) (x:V) (v:Value) (Q:Bool→Hp→Prop),Inv X pins σ H s→RelV x v→r x H Q→
  wpAny (model X.prog X.w) X.A (truthy v) (TP X pins σ Q) X.xe s
def tOp (r:R2) (ta tb:TE):TE:=fun σ H Q=>ta σ H fun x H1=>tb σ H1 fun y H2=>r x y H2 Q
def tUn (r:V→Hp→VK→Prop) (ta:TE):TE:=fun σ H Q=>ta σ H fun x H1=>r x H1 Q
def rI (C:Int→Int→Prop) (g:Int→Int→V):R2:=fun x y H Q=>∃ i j,x=.int i∧y=.int j∧C i j∧Q (g i j) H
def rI0 (g:Int→Int→V):R2:=fun x y H Q=>∃ i j,x=.int i∧y=.int j∧Q (g i j) H
def rU (g:Int→V):V→Hp→VK→Prop:=fun x H Q=>∃ i,x=.int i∧Q (g i) H
section
variable {X:Cx} {a b c:Expr} {ta tb tc:TE} {pos:Pos}
theorem ck (ha:PE X a ta) (hb:PE X b tb) {pins:List (Addr × Obj)} {s:Shared} {σ:St} {H:Hp} {R:V→V→Hp→Prop} (I:Inv X pins σ H s)
  (h:ta σ H fun x H1=>tb σ H1 fun y H2=>R x y H2) {Q:Value→Shared→Prop} {f:Value→Value→Sem Value}
  (hf:∀ v u s2 x y H2,Inv X pins σ H2 s2→RelV x v→RelV y u→R x y H2→wpAny (model X.prog X.w) X.A (f v u) Q X.xe s2):
  wpAny (model X.prog X.w) X.A (eval a X.env) (fun v s₁=>wpAny (model X.prog X.w) X.A (eval b X.env) (fun u s₂=>wpAny (model X.prog X.w) X.A (f v u) Q X.xe s₂) X.xe s₁) X.xe s:=by
 refine thn (ha pins s σ H _ I h) fun v s1 ⟨x,H1,I1,r1,q1⟩=>?_
 refine thn (hb pins s1 σ H1 _ I1 q1) fun u s2 ⟨y,H2,I2,r2,q2⟩=>?_
 exact hf v u s2 x y H2 I2 r1 r2 q2
theorem Wv {op:Operator} {r:R2} (ho:OpR X (binaryOp op) r) (ha:PE X a ta) (hb:PE X b tb):PE X (.BinOp a op b pos) (tOp r ta tb):=by
 intro pins s σ H Q I h
 exact wpAny_BinOp (ck ha hb I h fun v u s2 x y H2 I2 rx ry q=>ho pins s2 σ H2 x y v u Q I2 rx ry q)
theorem Wt {op:UnaryOp} {r:V→Hp→VK→Prop} (ho:UnR X (unaryOp op) r) (ha:PE X a ta):PE X (.UnaryOp op a pos) (tUn r ta):=by
 intro pins s σ H Q I h
 exact UnaryOp_ (thn (ha pins s σ H _ I h) fun v s1 ⟨x,H1,I1,r1,q1⟩=>ho pins s1 σ H1 x v Q I1 r1 q1)
theorem opI {f:Value→Value→Sem Value} {C:Int→Int→Prop} {g:Int→Int→Int}
  (rule:∀ (i j:Int) (t u:Tok) (s:Shared) (Q:Value→Shared→Prop) (E:Value→Shared→Prop),C i j→Q (.int (g i j) s.toks) { s with toks:=s.toks+1 }→wpAny (model X.prog X.w) X.A (f (.int i t) (.int j u)) Q E s):
  OpR X f (rI C fun i j=>.int (g i j)):=by
 intro pins s σ H x y v u Q I rx ry h
 obtain ⟨i,j,rfl,rfl,hc,q⟩:=h
 obtain ⟨t,rfl⟩:=rx
 obtain ⟨t',rfl⟩:=ry
 exact rule i j t t' s _ _ hc ⟨.int (g i j),H,I.tok _,⟨_,rfl⟩,q⟩
theorem WD {f:Value→Value→Sem Value} {g:Int→Int→Int}
  (rule:∀ (i j:Int) (t u:Tok) (s:Shared) (Q:Value→Shared→Prop) (E:Value→Shared→Prop),Q (.int (g i j) s.toks) { s with toks:=s.toks+1 }→wpAny (model X.prog X.w) X.A (f (.int i t) (.int j u)) Q E s):
  OpR X f (rI0 fun i j=>.int (g i j)):=by
 intro pins s σ H x y v u Q I rx ry h
 obtain ⟨i,j,rfl,rfl,q⟩:=h
 obtain ⟨t,rfl⟩:=rx
 obtain ⟨t',rfl⟩:=ry
 exact rule i j t t' s _ _ ⟨.int (g i j),H,I.tok _,⟨_,rfl⟩,q⟩
theorem gu {f:Value→Value→Sem Value} {g:Int→Int→Bool}
  (rule:∀ (i j:Int) (t u:Tok) (s:Shared) (Q:Value→Shared→Prop) (E:Value→Shared→Prop),Q (.bool (g i j)) s→wpAny (model X.prog X.w) X.A (f (.int i t) (.int j u)) Q E s):
  OpR X f (rI0 fun i j=>.bl (g i j)):=by
 intro pins s σ H x y v u Q I rx ry h
 obtain ⟨i,j,rfl,rfl,q⟩:=h
 obtain ⟨t,rfl⟩:=rx
 obtain ⟨t',rfl⟩:=ry
 exact rule i j t t' s _ _ ⟨.bl (g i j),H,I,rfl,q⟩
def mK (i j:Int):Prop:=j≠0∧j.natAbs<1073741824
def X2 (i j:Int):Prop:=0≤j∧j≤1000000∧i.natAbs<2 ^ 64
def CMul (i j:Int):Prop:=(-(2 ^ 64)<i∧i<2 ^ 64)∨(-(2 ^ 64)<j∧j<2 ^ 64)
theorem CMul.ok {i j:Int} (h:CMul i j):IntMulOk i j:=by
 rcases h with ⟨h1,h2⟩ | ⟨h1,h2⟩
 ·exact .of_left (intBits_le_64 h1 h2)
 ·exact .of_right (intBits_le_64 h1 h2)
theorem bQ:OpR X (binaryOp .Add) (rI0 fun i j=>.int (i+j)):=WD fun _ _ _ _ _ _ _ q=>add_int q
theorem bO:OpR X (binaryOp .Sub) (rI0 fun i j=>.int (i - j)):=WD fun _ _ _ _ _ _ _ q=>sub_int q
theorem kN:OpR X (binaryOp .FloorDiv) (rI mK fun i j=>.int (i.fdiv j)):=opI fun _ _ _ _ _ _ _ hc q=>floordiv_int hc.1 q (.inl (PyProof.noPylong_small hc.2))
theorem gr:OpR X (binaryOp .Mod) (rI (fun _ j=>j≠0) fun i j=>.int (i.fmod j)):=opI fun _ _ _ _ _ _ _ hc q=>mod_int' hc q
theorem bP:OpR X (binaryOp .Pow) (rI X2 fun i j=>.int (i ^ j.toNat)):=opI fun _ _ _ _ _ _ _ hc q=>pow_int_small hc.1 hc.2.1 hc.2.2 q
theorem unI {f:Value→Sem Value} {g:Int→Int}
  (rule:∀ (i:Int) (t:Tok) (s:Shared) (Q:Value→Shared→Prop) (E:Value→Shared→Prop),Q (.int (g i) s.toks) { s with toks:=s.toks+1 }→wpAny (model X.prog X.w) X.A (f (.int i t)) Q E s):
  UnR X f (rU fun i=>.int (g i)):=by
 intro pins s σ H x v Q I rx h
 obtain ⟨i,rfl,q⟩:=h
 obtain ⟨t,rfl⟩:=rx
 exact rule i t s _ _ ⟨.int (g i),H,I.tok _,⟨_,rfl⟩,q⟩
theorem c8:UnR X (unaryOp .USub) (rU fun i=>.int (-i)):=unI fun _ _ _ _ _ q=>neg_int q
end
def Wk:V→V→Bool
 | .non,.non=>true | .non,.int _=>true | .int _,.non=>true | .non,.bl _=>true | .bl _,.non=>true | .non,.str _=>true | .str _,.non=>true
 | .int _,.int _=>true | .bl _,.bl _=>true | .str _,.str _=>true | .byt _,.byt _=>true
 | .int _,.str _=>true | .str _,.int _=>true | .bl _,.str _=>true | .str _,.bl _=>true
 | _,_=>false
def rEq:R2:=fun x y H Q=>Wk x y=true∧Q (.bl (decide (x=y))) H
def rNe:R2:=fun x y H Q=>Wk x y=true∧Q (.bl (!decide (x=y))) H
theorem mh {i j:Int}:decide (V.int i=V.int j)=(i == j):=by
 rw [Bool.eq_iff_iff]
 simp
theorem ij {i j:Bool}:decide (V.bl i=V.bl j)=(i == j):=by
 rw [Bool.eq_iff_iff]
 simp
theorem mf {i j:Str}:decide (V.str i=V.str j)=(i == j):=by
 rw [Bool.eq_iff_iff]
 simp
theorem mi {i j:Array UInt8}:decide (V.byt i=V.byt j)=(i.toList == j.toList):=by
 rw [Bool.eq_iff_iff]
 cases i
 cases j
 simp
section
variable {X:Cx} {a b c:Expr} {ta tb tc:TE} {pos:Pos}
theorem zB {pins:List (Addr × Obj)} {σ:St} {H:Hp} {s:Shared} {Q:VK} {k k':Bool} (I:Inv X pins σ H s) (q:Q (.bl k) H) (e:k=k'):EP X pins σ Q (.bool k') s:=by
 subst e
 exact ⟨.bl k,H,I,rfl,q⟩
theorem WC:OpR X (compareOp .Eq) rEq:=by
 intro pins s σ H x y v u Q I rx ry h
 obtain ⟨hs,q⟩:=h
 cases x with
 | non=>
  cases rx
  cases y with
  | non=>cases ry; exact PySem.EqNone.eq_none_none (zB I q (by simp))
  | bl j=>cases ry; exact PySem.EqNone.eq_none_bool (zB I q (by simp))
  | int j=>obtain ⟨t',rfl⟩:=ry; exact PySem.EqNone.eq_none_int (zB I q (by simp))
  | str j=>obtain ⟨t',rfl⟩:=ry; exact PySem.EqNone.eq_none_str (zB I q (by simp))
  | _=>exact absurd (show false=true from hs) Bool.false_ne_true
 | bl i=>
  cases rx
  cases y with
  | non=>cases ry; exact PySem.EqNone.eq_bool_none (zB I q (by simp))
  | bl j=>cases ry; exact eq_bool (zB I q ij)
  | str j=>obtain ⟨t',rfl⟩:=ry; exact PySem.EqMixed.eq_bool_str (zB I q (by simp))
  | _=>exact absurd (show false=true from hs) Bool.false_ne_true
 | int i=>
  obtain ⟨t,rfl⟩:=rx
  cases y with
  | non=>cases ry; exact PySem.EqNone.eq_int_none (zB I q (by simp))
  | int j=>obtain ⟨t',rfl⟩:=ry; exact eq_int (zB I q mh)
  | str j=>obtain ⟨t',rfl⟩:=ry; exact PySem.EqMixed.eq_int_str (zB I q (by simp))
  | _=>exact absurd (show false=true from hs) Bool.false_ne_true
 | str i=>
  obtain ⟨t,rfl⟩:=rx
  cases y with
  | non=>cases ry; exact PySem.EqNone.eq_str_none (zB I q (by simp))
  | bl j=>cases ry; exact PySem.EqMixed.eq_str_bool (zB I q (by simp))
  | int j=>obtain ⟨t',rfl⟩:=ry; exact PySem.EqMixed.eq_str_int (zB I q (by simp))
  | str j=>obtain ⟨t',rfl⟩:=ry; exact eq_str (zB I q mf)
  | _=>exact absurd (show false=true from hs) Bool.false_ne_true
 | byt i=>
  obtain ⟨t,rfl⟩:=rx
  cases y with
  | byt j=>obtain ⟨t',rfl⟩:=ry; exact PySem.W.eq_bytes (zB I q mi)
  | _=>exact absurd (show false=true from hs) Bool.false_ne_true
 | _=>cases y <;> exact absurd (show false=true from hs) Bool.false_ne_true
theorem Wx:OpR X (compareOp .NotEq) rNe:=by
 intro pins s σ H x y v u Q I rx ry h
 obtain ⟨hs,q⟩:=h
 cases x with
 | non=>
  cases rx
  cases y with
  | non=>cases ry; exact PySem.EqNone.ne_none_none (zB I q (by simp))
  | bl j=>cases ry; exact PySem.EqNone.ne_none_bool (zB I q (by simp))
  | int j=>obtain ⟨t',rfl⟩:=ry; exact PySem.EqNone.ne_none_int (zB I q (by simp))
  | str j=>obtain ⟨t',rfl⟩:=ry; exact PySem.EqNone.ne_none_str (zB I q (by simp))
  | _=>exact absurd (show false=true from hs) Bool.false_ne_true
 | bl i=>
  cases rx
  cases y with
  | non=>cases ry; exact PySem.EqNone.ne_bool_none (zB I q (by simp))
  | bl j=>cases ry; exact ne_bool (zB I q (congrArg not ij))
  | str j=>obtain ⟨t',rfl⟩:=ry; exact PySem.EqMixed.ne_bool_str (zB I q (by simp))
  | _=>exact absurd (show false=true from hs) Bool.false_ne_true
 | int i=>
  obtain ⟨t,rfl⟩:=rx
  cases y with
  | non=>cases ry; exact PySem.EqNone.ne_int_none (zB I q (by simp))
  | int j=>obtain ⟨t',rfl⟩:=ry; exact ne_int (zB I q (congrArg not mh))
  | str j=>obtain ⟨t',rfl⟩:=ry; exact PySem.EqMixed.ne_int_str (zB I q (by simp))
  | _=>exact absurd (show false=true from hs) Bool.false_ne_true
 | str i=>
  obtain ⟨t,rfl⟩:=rx
  cases y with
  | non=>cases ry; exact PySem.EqNone.ne_str_none (zB I q (by simp))
  | bl j=>cases ry; exact PySem.EqMixed.ne_str_bool (zB I q (by simp))
  | int j=>obtain ⟨t',rfl⟩:=ry; exact PySem.EqMixed.ne_str_int (zB I q (by simp))
  | str j=>obtain ⟨t',rfl⟩:=ry; exact ne_str (zB I q (congrArg not mf))
  | _=>exact absurd (show false=true from hs) Bool.false_ne_true
 | byt i=>
  obtain ⟨t,rfl⟩:=rx
  cases y with
  | byt j=>obtain ⟨t',rfl⟩:=ry; exact PySem.W.ne_bytes (zB I q (congrArg not mi))
  | _=>exact absurd (show false=true from hs) Bool.false_ne_true
 | _=>cases y <;> exact absurd (show false=true from hs) Bool.false_ne_true
theorem Wy:OpR X (compareOp .Lt) (rI0 fun i j=>.bl (decide (i<j))):=gu fun _ _ _ _ _ _ _ q=>lt_int q
theorem Wz:OpR X (compareOp .LtE) (rI0 fun i j=>.bl (decide (i≤j))):=gu fun _ _ _ _ _ _ _ q=>le_int q
theorem WA:OpR X (compareOp .Gt) (rI0 fun i j=>.bl (decide (j<i))):=gu fun _ _ _ _ _ _ _ q=>gt_int q
theorem WB:OpR X (compareOp .GtE) (rI0 fun i j=>.bl (decide (j≤i))):=gu fun _ _ _ _ _ _ _ q=>ge_int q
theorem rP:OpR X (compareOp .NotIn) (fun x y H Q=>∃ i j,x=.str i∧y=.str j∧Q (.bl (!(!(Builtin.Str.occurrences j i 0 j.length 1).isEmpty))) H):=by
 intro pins s σ H x y v u Q I rx ry h
 obtain ⟨i,j,rfl,rfl,q⟩:=h
 obtain ⟨t,rfl⟩:=rx
 obtain ⟨t',rfl⟩:=ry
 exact notIn_str (zB I q rfl)
theorem OpR.or {f:Value→Value→Sem Value} {r r':R2} (h:OpR X f r) (h':OpR X f r'):OpR X f (fun x y H Q=>r x y H Q∨r' x y H Q):=by
 intro pins s σ H x y v u Q I rx ry q
 rcases q with q | q
 ·exact h pins s σ H x y v u Q I rx ry q
 ·exact h' pins s σ H x y v u Q I rx ry q
theorem zl (b:Expr) {op:CmpOp} (h:op≠.In:=by decide) (h2:op≠.NotIn:=by decide):behindInMarks op b=false:=by
 have e1:(op == CmpOp.In)=false:=by cases op <;> first | rfl | exact absurd rfl h
 have e2:(op == CmpOp.NotIn)=false:=by cases op <;> first | rfl | exact absurd rfl h2
 cases b <;> simp [behindInMarks,e1,e2]
theorem gm {op:CmpOp} {r:R2} (ho:OpR X (compareOp op) r) (ha:PE X a ta) (hb:PE X b tb) (hm:behindInMarks op b=false):PE X (.Compare a [op] [b] pos) (tOp r ta tb):=by
 intro pins s σ H Q I h
 exact wpAny_Compare1 (ck ha hb I h fun v u s2 x y H2 I2 rx ry q=>ho pins s2 σ H2 x y v u Q I2 rx ry q) hm
def kg (t:TE):TT:=fun σ H Q=>t σ H fun x H'=>∃ k,x=.bl k∧Q k H'
theorem gd {op:CmpOp} {r:R2} (ho:OpR X (compareOp op) r) (ha:PE X a ta) (hb:PE X b tb) (hm:behindInMarks op b=false):PT X (.Compare a [op] [b] pos) (kg (tOp r ta tb)):=by
 intro pins s σ H Q I h
 refine wpAny_isTrue_Compare1 (thn (ha pins s σ H _ I h) fun v s1 ⟨x,H1,I1,r1,q1⟩=>thn (hb pins s1 σ H1 _ I1 q1) fun u s2 ⟨y,H2,I2,r2,q2⟩=>
  thn (ho pins s2 σ H2 x y v u _ I2 r1 r2 q2) fun c s3 ⟨z,H3,I3,r3,k,e,q3⟩=>?_) hm
 subst e
 cases r3
 exact wpAny_truthy_bool ⟨H3,I3,q3⟩
def ki (r r':R2) (ta tb tc:TE):TE:=fun σ H Q=>ta σ H fun x H1=>tb σ H1 fun y H2=>r x y H2 fun z H3=>∃ k,z=.bl k∧
 (if k=true then tc σ H3 fun w' H4=>r' y w' H4 Q else Q (.bl false) H3)
theorem kB {op op':CmpOp} {r r':R2} (ho:OpR X (compareOp op) r) (ho':OpR X (compareOp op') r') (ha:PE X a ta) (hb:PE X b tb) (hc:PE X c tc)
  (hm:lastMarks [op,op'] [b,c]=false:=by with_unfolding_all rfl):PT X (.Compare a [op,op'] [b,c] pos) (kg (ki r r' ta tb tc)):=by
 intro pins s σ H Q I h
 refine isTrue_chain (thn (ha pins s σ H _ I h) fun v s1 ⟨x,H1,I1,r1,q1⟩=>test_link (thn (hb pins s1 σ H1 _ I1 q1) fun u s2 ⟨y,H2,I2,r2,q2⟩=>
  thn (ho pins s2 σ H2 x y v u _ I2 r1 r2 q2) fun d s3 ⟨z,H3,I3,r3,k,e,q3⟩=>?_)) hm
 subst e
 cases r3
 refine wpAny_truthy_bool ?_
 cases k with
 | false=>
  obtain ⟨k',e',q'⟩:=q3
  cases e'
  exact ite_ff ⟨H3,I3,q'⟩
 | true=>
  refine ite_tt (test_last (thn (hc pins s3 σ H3 _ I3 q3) fun w' s4 ⟨z',H4,I4,r4,q4⟩=>thn (ho' pins s4 σ H4 y z' u w' _ I4 r2 r4 q4) fun d' s5 ⟨z2,H5,I5,r5,k2,e2,q5⟩=>?_))
  subst e2
  cases r5
  exact wpAny_truthy_bool ⟨H5,I5,q5⟩
def Ur (K:PySem.W.Frag) (x:V) (H:Hp) (k:Bool):Prop:=
 match x with
 | .non=>k=false
 | .bl b=>k=b
 | .int i=>k=(i != 0)
 | .str y=>y.length≤sizeLine∧k=((y.length:Int) != 0)
 | .byt y=>y.size≤sizeLine∧k=((y.size:Int) != 0)
 | .ref p=>(∃ xs,SqL K H p xs∧k=!xs.isEmpty)∨(∃ xs,SqT K H p xs∧k=!xs.isEmpty)∨∃ kvs,H p=some (.dK kvs)∧k=!kvs.isEmpty
 | _=>False
theorem ng {κ:Type} {kvs:List (κ × V)} {vs:List (κ × Value)} (r:KV kvs vs):(!vs.isEmpty)=!kvs.isEmpty:=by
 cases r <;> rfl
theorem tU {xs:List V} {its:List Value} (r:Vals xs its):(!its.toArray.isEmpty)=!xs.isEmpty:=by
 cases r <;> simp
theorem wl:(sizeLine:Nat)<2 ^ 63:=by rw [sizeLine_eq]; decide
theorem c_:Tq X (fun x H Q=>∃ k,Ur X.K x H k∧Q k H):=by
 intro pins s σ H x v Q I rx h
 obtain ⟨k,e,q⟩:=h
 have hl:=wl
 have hs:sizeLine=16777216:=sizeLine_eq
 cases x with
 | non=>
  cases rx
  have e':k=false:=e
  subst e'
  exact truthy_none ⟨H,I,q⟩
 | bl b=>
  cases rx
  have e':k=b:=e
  subst e'
  exact wpAny_truthy_bool ⟨H,I,q⟩
 | int i=>
  obtain ⟨t,rfl⟩:=rx
  have e':k=(i != 0):=e
  subst e'
  exact PySem.P.truthy_int ⟨H,I,q⟩
 | str y=>
  obtain ⟨t,rfl⟩:=rx
  obtain ⟨hy,e'⟩:y.length≤sizeLine∧k=((y.length:Int) != 0):=e
  subst e'
  exact PySem.P.truthy_str (by omega) ⟨H,I.tok _,q⟩
 | byt y=>
  obtain ⟨t,rfl⟩:=rx
  obtain ⟨hy,e'⟩:y.size≤sizeLine∧k=((y.size:Int) != 0):=e
  subst e'
  exact PySem.W.truthy_bytes (by omega) ⟨H,I.tok _,q⟩
 | ref p=>
  cases rx
  have e':(∃ xs,SqL X.K H p xs∧k=!xs.isEmpty)∨(∃ xs,SqT X.K H p xs∧k=!xs.isEmpty)∨∃ kvs,H p=some (.dK kvs)∧k=!kvs.isEmpty:=e
  rcases e' with ⟨xs,hx,e'⟩ | ⟨xs,hx,e'⟩ | ⟨kvs,hx,e'⟩
  ·subst e'
   obtain ⟨its,r,pl,hz⟩:=I.list hx
   have hlen:=r.length
   exact wpAny_truthy_list pl.isList (by simp only [List.size_toArray]; omega) ⟨H,I.tok _,by rw [tU r]; exact q⟩
  ·subst e'
   obtain ⟨its,r,pl,hz⟩:=I.tuple hx
   have hlen:=r.length
   exact truthy_tuple pl (by simp only [List.size_toArray]; omega) ⟨H,I.tok _,by rw [tU r]; exact q⟩
  ·subst e'
   obtain ⟨hz,hS,vs,r,m⟩:kvs.length≤sizeLine∧(p == sysModules)=false∧∃ vs,KV kvs vs∧s.heap.DictOf (qc X.prog X.w) p vs:=I.hok p _ hx
   have hlen:kvs.length=vs.length:=Paired.length r
   exact wpAny_truthy_dict hS m (by omega) ⟨H,I.tok _,by rw [ng r]; exact q⟩
 | _=>exact (show False from e).elim
theorem pe (ha:PE X a ta) (he:∀ yy,isTrue a X.env yy=(do let v ← yy; standAt a.pos; holding [v] (truthy v))):
  PT X a (fun σ H Q=>ta σ H fun x H'=>∃ k,Ur X.K x H' k∧Q k H'):=by
 intro pins s σ H Q I h
 exact isTrue_plain (thn (ha pins s σ H _ I h) fun v s1 ⟨x,H1,I1,r1,q1⟩=>c_ pins s1 σ H1 x v Q I1 r1 q1) (he _)
theorem oS:OpR X (binaryOp .Add) (fun x y H Q=>∃ i j,x=.str i∧y=.str j∧i.length+j.length≤sizeLine∧Q (.str (i++j)) H):=by
 intro pins s σ H x y v u Q I rx ry h
 obtain ⟨i,j,rfl,rfl,hz,q⟩:=h
 obtain ⟨t,rfl⟩:=rx
 obtain ⟨t',rfl⟩:=ry
 exact add_str (fun t' tk=>⟨.str (i++j),H,I.tok _,⟨_,rfl⟩,q⟩) hz
def oo (b:Expr):Prop:=∀ o i,subscripted b false o i=operate [o,i] (getItem o i)
theorem pC (ha:PE X a ta) (hb:PE X b tb) (hs:oo b):
  PE X (.Subscript a b pos) (tOp (fun x y H Q=>∃ z i c,x=.str z∧y=.int i∧0≤i∧i<2 ^ 63∧i<z.length∧z.cps[i.toNat]? = some c∧Q (.str ⟨#[c]⟩) H) ta tb):=by
 intro pins s σ H Q I h
 refine Subscript_ (ck ha hb I h fun v u s2 x y H2 I2 rx ry q=>?_)
 obtain ⟨z,i,c,rfl,rfl,h0,h63,h1,hc,q⟩:=q
 obtain ⟨t,rfl⟩:=rx
 obtain ⟨t',rfl⟩:=ry
 have e:seqIndex? i z.length=some i.toNat:=PySem.StrLaws.seqIndex_nonneg h0 h1
 exact tail_any (typeIs_str s2 z t) slot_str_getitem.lookup (getItem_str (c:=c) (by
  have e1:decide (i < -(2 ^ 63:Int))=false:=decide_eq_false (by omega)
  have e2:decide (i ≥ 2 ^ 63)=false:=decide_eq_false (by omega)
  rw [e1,e2] <;> rfl) (by rw [e]; exact hc) ⟨.str ⟨#[c]⟩,H2,I2.tok _,⟨_,rfl⟩,q⟩) (hs _ _)
theorem qR {x:V} {us:List Value} (r:Vals [x] us):∃ u,us=[u]∧RelV x u:=by
 cases r with
 | cons r1 r2=>cases r2; exact ⟨_,rfl,r1⟩
theorem X6 {x y:V} {us:List Value} (r:Vals [x,y] us):∃ u w',us=[u,w']∧RelV x u∧RelV y w':=by
 cases r with
 | cons r1 r2=>
  cases r2 with
  | cons r3 r4=>cases r4; exact ⟨_,_,rfl,r1,r3⟩
theorem lT (hc:X.calm=true):CallR X (.builtin "max") (fun xs H Q=>∃ i j,xs=[.int i,.int j]∧Q (.int (if j>i then j else i)) H):=by
 intro pins s σ H xs us Q I r h
 obtain ⟨i,j,rfl,q⟩:=h
 obtain ⟨u,w',rfl,⟨t,rfl⟩,⟨t',rfl⟩⟩:=X6 r
 refine max_two_ints (I.ok.hd hc) fun h' tk k=>⟨_,H,I.kept k,?_,q⟩
 by_cases hj:j>i
 ·rw [if_pos hj,if_pos hj]; exact ⟨_,rfl⟩
 ·rw [if_neg hj,if_neg hj]; exact ⟨_,rfl⟩
theorem qx:CallR X (.type "str") (fun xs H Q=>∃ i,xs=[.int i]∧i.natAbs.log2<1920∧Q (.str (toString i)) H):=by
 intro pins s σ H xs us Q I r h
 obtain ⟨i,rfl,hz,q⟩:=h
 obtain ⟨u,rfl,t,rfl⟩:=qR r
 exact PySem.P.str_of_int hz ⟨.str _,H,I.tok _,⟨_,rfl⟩,q⟩
end
end L2
namespace L2
open PySem PySem.Spec PyProof.Rows
structure ObjM (h:Heap) (x dx C:Addr) (mA:Str→Option Value):Prop where
 obj:h.get? x=some (PySem.W.instObj C dx)
 ns:h.Ns1 dx mA
 ne:dx≠x
theorem lA {h:Heap} {dx:Addr} {mA:Str→Option Value} (n:h.Ns1 dx mA):∃ od,h.get? dx=some od∧∀ name,PySem.W.lookIn name od=some (mA name):=by
 obtain ⟨o,es,ep,ho,hd,hk,_,hm⟩:=n
 refine ⟨o,ho,fun name=>?_⟩
 have e:=hm name
 unfold nsFind findBy at e
 rw [← Array.find?_toList] at e
 unfold PySem.W.lookIn
 rw [hd]
 dsimp only
 split
 ·rename_i y q
  rw [q] at e
  exact congrArg some e
 ·rename_i q
  rw [q] at e
  have a:es.toList.any (·.refKey)=false:=by
   rw [List.any_eq_false]
   intro y hy
   obtain ⟨z,t,hkey⟩:=hk y (Array.mem_toList_iff.mp hy)
   simp [DictEntry.refKey,hkey]
  have a':¬ es.toList.any (·.refKey)=true:=by rw [a]; exact Bool.false_ne_true
  rw [if_neg a']
  exact congrArg some e
theorem ObjM.look {h:Heap} {x dx C:Addr} {mA:Str→Option Value} (I:ObjM h x dx C mA):∃ od,PySem.W.InstAt h x (PySem.W.instObj C dx) C (some od)∧∀ name,PySem.W.lookIn name od=some (mA name):=
 let ⟨od,ho,hl⟩:=lA I.ns
 ⟨od,⟨I.obj,rfl,rfl,ho⟩,hl⟩
section
variable {prog:Program} {w:World} {A:Around} {E:Value→Shared→Prop} {s:Shared} {K:PySem.W.Frag} {x dx C f:Addr} {mA:Str→Option Value} {name:Str} {v:Value}
theorem dN {expr:Bool} {Q:Value→Shared→Prop} (X:K.In s.heap) (I:ObjM s.heap x dx C mA) (hg:PySem.W.plainGet K C name=true) (hh:PySem.W.hasDictIn K C=true)
  (ha:PySem.W.findIn K (.ref C) name=some none) (hv:mA name=some v) (hv':PySem.W.handedIn v=true) (h:Q v { s with toks:=s.toks+1 }):
  wpAny (model prog w) A (getAttr (.ref x) name expr) Q E s:=by
 obtain ⟨od,J,hl⟩:=I.look
 exact PySem.W.get_value X J (PySem.W.plainGet_of hg).1 (PySem.W.findObj_own hh ha rfl (by rw [hl,hv])) hv' h
theorem jP {pl:Sem Bool} {Q:Value × List Value→Shared→Prop} (X:K.In s.heap) (I:ObjM s.heap x dx C mA) (hg:PySem.W.plainGet K C name=true)
  (hf:PySem.W.findIn K (.ref C) name=some (some (.ref f))) (ht:PySem.W.isFn K (.ref f)=true) (hv:mA name=none) (h:Q (.ref f,[.ref x]) s):
  wpAny (model prog w) A (getMethod (.ref x) name pl) Q E s:=by
 obtain ⟨od,J,hl⟩:=I.look
 exact PySem.W.method_fn X J (PySem.W.plainGet_of hg).1 (PySem.W.plainGet_of hg).2 hf (beq_iff_eq.mp ht) (by show (PySem.W.lookIn name od).map (·.isSome)=some false; rw [hl,hv]; rfl) h
theorem hB {ns:List Str} {Q:Unit→Shared→Prop} (X:K.In s.heap) (I:ObjM s.heap x dx C mA)
  (hs:PySem.W.findIn K (.ref C) "__setattr__"=some (some (.builtin "object.__setattr__"))) (hp:PySem.W.plainOver K C=true) (ht:PySem.W.takerIn K C name=some none) (hh:PySem.W.hasDictIn K C=true)
  (hw:PySem.Within mA ns) (hsz:ns.length≤sizeLine)
  (h:∀ h',ObjM h' x dx C (fun y=>if y=name then some v else mA y)→Heap.SameBut dx s.heap h'→Q () { s with heap:=h',toks:=s.toks+2 }):
  wpAny (model prog w) A (setAttr (.ref x) name v) Q E s:=by
 obtain ⟨od,J,hl⟩:=I.look
 refine PySem.W.set_plain X J hs (PySem.W.osa_open (s:={ s with toks:=s.toks+1 }) (r:=none) X J hp ht fun b=>?_)
 obtain ⟨cd,hc,hd'⟩:=PySem.W.any_some hh
 have hx:s.heap.get? x=some ⟨.ref C,some dx,.plain,#[]⟩:=I.obj
 refine wpAny_bind (wpAny_pure (wpAny_bind (wpAny_bind (wpAny_loadPart hx (wpAny_bind (PySem.W.Looks.here (s:={ s with toks:=s.toks+1 }) (PySem.W.looks_clsIn X hc) ?_))))))
 rw [hd']
 refine wpAny_pure (a:=some dx) (wpAny_bind (wpAny_pure (wpAny_bind ?_)))
 refine wpAny_nsSet1 (s:={ s with toks:=s.toks+1 }) I.ns fun h' hn2 hs2=>?_
 obtain ⟨oD,esD,epD,hoD,hdD,hcD⟩:=hn2.count (PySem.Within.cons name v hw)
 refine wpAny_bind (wpAny_lookBehind hoD (by rw [hdD]; exact pastItsLine_dict (Nat.le_trans hcD (by rw [List.length_cons]; omega))) ?_)
 exact wpAny_pure (h _ ⟨(hs2.2 _ (Ne.symm I.ne)).trans I.obj,hn2,I.ne⟩ hs2)
theorem jI {R:Result→Shared→Prop} {vs:List Value} {kw:List (Str × Value)} (X:K.In s.heap) (hm:PySem.W.makesIn K C=true)
  (hi:PySem.W.findIn K (.ref C) "__init__"=some (some (.ref f))) (hf:PySem.W.typeIn K (.ref f)=some (.type "function"))
  (h:codeAny (model prog w) (A.under (.builtin "type.__call__" ⟨.ref C::vs,kw⟩)) (.call (.ref f) ⟨.ref (s.heap.objs.size+1)::vs,kw⟩) (PySem.W.InitBack (s.heap.objs.size+1) R)
   { s with heap:=(s.heap.push PySem.W.emptyDict).push (PySem.W.instObj C s.heap.objs.size) }):
  codeAny (model prog w) A (.call (.ref C) ⟨vs,kw⟩) R s:=by
 obtain ⟨hh,g,d,t,os⟩:=s
 exact PySem.W.make_core (PySem.W.makes_of X hm) (PySem.W.looks_findIn X hi) (fun self=>PySem.W.bind_fn X self hf) (.inl rfl) h
end
def wQ (f:Str) (v:V):List (Str × V)→List (Str × V)
 | []=>[(f,v)]
 | (g,x)::r=>if g=f then (g,v)::r else (g,x)::wQ f v r
theorem uz (f g:Str) (v:V):∀ fs:List (Str × V),(wQ f v fs).lookup g=if g=f then some v else fs.lookup g
 | []=>by
  show List.lookup g [(f,v)]=_
  by_cases h:g=f
  ·have hb:(g == f)=true:=beq_iff_eq.mpr h
   simp only [List.lookup,hb,if_pos h]
  ·have hb:(g == f)=false:=beq_eq_false_iff_ne.mpr h
   simp only [List.lookup,hb,if_neg h]
 | (k,x)::r=>by
  have ih:=uz f g v r
  rw [show wQ f v ((k,x)::r)=(if k=f then (k,v)::r else (k,x)::wQ f v r) from rfl]
  by_cases hk:k=f
  ·rw [if_pos hk]
   by_cases h:g=k
   ·have hb:(g == k)=true:=beq_iff_eq.mpr h
    simp only [List.lookup,hb,if_pos (h.trans hk)]
   ·have hb:(g == k)=false:=beq_eq_false_iff_ne.mpr h
    simp only [List.lookup,hb,if_neg (fun e:g=f=>h (e.trans hk.symm))]
  ·rw [if_neg hk]
   by_cases h:g=k
   ·have hb:(g == k)=true:=beq_iff_eq.mpr h
    simp only [List.lookup,hb,if_neg (fun e:g=f=>hk (h.symm.trans e))]
   ·have hb:(g == k)=false:=beq_eq_false_iff_ne.mpr h
    simp only [List.lookup,hb]
    exact ih
theorem uj (f:Str) (v:V):∀ fs:List (Str × V),f∈(wQ f v fs).map (·.1)∧∀ g,g∈fs.map (·.1)→g∈(wQ f v fs).map (·.1)
 | []=>⟨by simp [wQ],fun g h=>by simp at h⟩
 | (k,x)::r=>by
  obtain ⟨i1,i2⟩:=uj f v r
  rw [show wQ f v ((k,x)::r)=(if k=f then (k,v)::r else (k,x)::wQ f v r) from rfl]
  by_cases hk:k=f
  ·rw [if_pos hk]
   subst hk
   exact ⟨by simp,fun g h=>by simpa using h⟩
  ·rw [if_neg hk]
   refine ⟨?_,fun g h=>?_⟩
   ·rw [List.map_cons]
    exact List.mem_cons_of_mem _ i1
   ·rw [List.map_cons] at h ⊢
    rcases List.mem_cons.mp h with e | e
    ·exact List.mem_cons.mpr (.inl e)
    ·exact List.mem_cons_of_mem _ (i2 g e)
theorem uA (f:Str) (v:V):∀ fs:List (Str × V),(wQ f v fs).length≤fs.length+1
 | []=>by simp [wQ]
 | (k,x)::r=>by
  have ih:=uA f v r
  rw [show wQ f v ((k,x)::r)=(if k=f then (k,v)::r else (k,x)::wQ f v r) from rfl]
  by_cases hk:k=f
  ·rw [if_pos hk,List.length_cons,List.length_cons]; omega
  ·rw [if_neg hk,List.length_cons,List.length_cons]; omega
theorem RelO.some_of {v:V} {o:Option Value} (r:RelO (some v) o):∃ u,o=some u∧RelV v u:=by
 cases o with
 | none=>exact (show False from r).elim
 | some u=>exact ⟨u,rfl,r⟩
theorem RelO.none_of {o:Option Value} (r:RelO none o):o=none:=by
 cases o with
 | none=>rfl
 | some u=>exact (show False from r).elim
theorem lG {v:V} {u:Value} (r:RelV v u):PySem.W.handedIn u=true:=by
 cases v with
 | non=>cases (show u=Value.none from r); rfl
 | bl b=>cases (show u=Value.bool b from r); rfl
 | int i=>obtain ⟨t,e⟩:=(show ∃ t,u=Value.int i t from r); cases e; rfl
 | str x=>obtain ⟨t,e⟩:=(show ∃ t,u=Value.str x t from r); cases e; rfl
 | byt b=>obtain ⟨t,e⟩:=(show ∃ t,u=Value.bytes b t from r); cases e; rfl
 | flt b=>obtain ⟨t,e⟩:=(show ∃ t,u=Value.float b t from r); cases e; rfl
 | ref a=>cases (show u=Value.ref a from r); rfl
 | ty n=>cases (show u=Value.type n from r); rfl
section
variable {P:Program} {w:World} {H H':Hp} {h h':Heap} {a C dx:Addr} {fs fs':List (Str × V)}
theorem u6 (hok:HOk P w H h) (e:H a=some (.ins C dx fs)):∃ mA,ObjM h a dx C mA∧(∀ f,RelO (fs.lookup f) (mA f))∧PySem.Within mA (fs.map (·.1))∧fs.length≤1000∧H dx=some (.own a):=by
 obtain ⟨d,z,ne,ob,mA,n,r,q⟩:=(show ObjOk P w H h a (.ins C dx fs) from hok a _ e)
 exact ⟨mA,⟨ob,n,ne⟩,r,q,z,d⟩
end
structure Cls (K:PySem.W.Frag) (C:Addr):Prop where
 pg:PySem.W.plainGet K C Str.empty=true
 hd:PySem.W.hasDictIn K C=true
 po:PySem.W.plainOver K C=true
 sa:PySem.W.findIn K (.ref C) "__setattr__"=some (some (.builtin "object.__setattr__"))
theorem Cls.get {K:PySem.W.Frag} {C:Addr} (c:Cls K C) (f:Str):PySem.W.plainGet K C f=true:=c.pg
def NoAttr (K:PySem.W.Frag) (C:Addr) (f:Str):Prop:=PySem.W.findIn K (.ref C) f=some none
theorem NoAttr.taker {K:PySem.W.Frag} {C:Addr} {f:Str} (n:NoAttr K C f):PySem.W.takerIn K C f=some none:=by
 unfold PySem.W.takerIn
 rw [show PySem.W.findIn K (.ref C) f=some none from n]
 rfl
structure iS (K:PySem.W.Frag) (C:Addr) (m:Str) (f:Addr):Prop where
 at_:PySem.W.findIn K (.ref C) m=some (some (.ref f))
 fn:PySem.W.isFn K (.ref f)=true
 kp:PySem.W.keepIn K (.ref f)=true
section
variable {X:Cx} {pins:List (Addr × Obj)} {σ:St} {H:Hp} {s:Shared} {a C dx:Addr} {fs:List (Str × V)} {f:Str} {v:V} {A:Around} {E:Value→Shared→Prop}
theorem nq {b:Bool} {Q:Value→Shared→Prop} (I:Inv X pins σ H s) (e:H a=some (.ins C dx fs)) (c:Cls X.K C) (n:NoAttr X.K C f) (l:fs.lookup f=some v)
  (h:∀ u s',Inv X pins σ H s'→RelV v u→Q u s'):wpAny (model X.prog X.w) A (getAttr (.ref a) f b) Q E s:=by
 obtain ⟨mA,O,r,_,_,_⟩:=u6 I.hok e
 obtain ⟨u,hu,ru⟩:=RelO.some_of (v:=v) (o:=mA f) (by rw [← l]; exact r f)
 exact dN I.kIn O (c.get f) c.hd n hu (lG ru) (h u _ (I.tok _) ru)
theorem tW {m:Str} {g:Addr} {pl:Sem Bool} {Q:Value × List Value→Shared→Prop} (I:Inv X pins σ H s) (e:H a=some (.ins C dx fs)) (c:Cls X.K C) (k:iS X.K C m g) (l:fs.lookup m=none)
  (h:Q (.ref g,[.ref a]) s):wpAny (model X.prog X.w) A (getMethod (.ref a) m pl) Q E s:=by
 obtain ⟨mA,O,r,_,_,_⟩:=u6 I.hok e
 have hn:mA m=none:=RelO.none_of (by rw [← l]; exact r m)
 exact jP I.kIn O (c.get m) k.at_ k.fn hn h
theorem oF {y:V} {u:Value} {Q:Unit→Shared→Prop} (I:Inv X pins σ H s) (e:H a=some (.ins C dx fs)) (c:Cls X.K C) (n:NoAttr X.K C f) (hl:fs.length<1000) (ry:RelV y u)
  (h:∀ s',Inv X pins σ (upd H a (.ins C dx (wQ f y fs))) s'→Q () s'):wpAny (model X.prog X.w) A (setAttr (.ref a) f u) Q E s:=by
 obtain ⟨mA,O,r,wi,_,ho⟩:=u6 I.hok e
 have hz:(fs.map (·.1)).length≤sizeLine:=by rw [List.length_map,sizeLine_eq]; omega
 refine hB I.kIn O c.sa c.po n.taker c.hd wi hz fun h' O' sb=>h _ ?_
 have hd:∃ o,h'.get? dx=some o:=let ⟨o,_,_,e',_⟩:=O'.ns; ⟨o,e'⟩
 refine I.write (x:=a) (e:=dx) (by rw [e]; exact True.intro) (.inr ho) (fun b q hb z=>(sb.2 b hb).trans z) hd ?_
 refine ⟨by rw [zw O.ne]; exact ho,?_,O.ne,O'.obj,_,O'.ns,fun g=>?_,fun g hg=>?_⟩
 ·have:=uA f y fs; omega
 ·show RelO ((wQ f y fs).lookup g) (if g=f then some u else mA g)
  rw [uz]
  by_cases q:g=f
  ·rw [if_pos q,if_pos q]; exact ry
  ·rw [if_neg q,if_neg q]; exact r g
 ·by_cases q:g=f
  ·rw [q]; exact (uj f y fs).1
  ·refine (uj f y fs).2 g (wi g fun z=>hg ?_)
   show (if g=f then some u else mA g)=none
   rw [if_neg q]; exact z
theorem Inv.made (I:Inv X pins σ H s):Inv X pins σ (upd (upd H s.heap.objs.size (.own (s.heap.objs.size+1))) (s.heap.objs.size+1) (.ins C s.heap.objs.size []))
  { s with heap:=(s.heap.push PySem.W.emptyDict).push (PySem.W.instObj C s.heap.objs.size) }:=by
 have e1:(s.heap.push PySem.W.emptyDict).get? s.heap.objs.size=some PySem.W.emptyDict:=Heap.get?_push_size s.heap rfl
 have e2:((s.heap.push PySem.W.emptyDict).push (PySem.W.instObj C s.heap.objs.size)).get? (s.heap.objs.size+1)=some (PySem.W.instObj C s.heap.objs.size):=by
  have:=Heap.get?_push_size (s.heap.push PySem.W.emptyDict) (o:=PySem.W.instObj C s.heap.objs.size) rfl
  rwa [Heap.size_push] at this
 have e3:(s.heap.push PySem.W.emptyDict).Ns s.heap.objs.size (fun _=>none):=⟨PySem.W.emptyDict,#[],_,e1,rfl,(fun e he=>absurd he (by simp)),fun _=>rfl⟩
 have I1:=I.laid (a:=s.heap.objs.size) (o:=.own (s.heap.objs.size+1)) (h':=s.heap.push PySem.W.emptyDict) (t':=s.toks) (fun b u q=>Heap.get?_push_of_some _ q) (Nat.le_refl _) ⟨_,e1⟩
 refine I1.laid (a:=s.heap.objs.size+1) (o:=.ins C s.heap.objs.size []) (t':=s.toks) (fun b u q=>Heap.get?_push_of_some _ q) (Nat.le_of_eq (Heap.size_push _ _)) ?_
 have ne:s.heap.objs.size≠s.heap.objs.size+1:=Nat.ne_of_lt (Nat.lt_succ_self _)
 refine ⟨by rw [zw ne,zv],Nat.zero_le _,ne,e2,fun _=>none,(Heap.Ns1.of_empty e3).at fun o q=>Heap.get?_push_of_some _ q,fun _=>True.intro,fun y hy=>absurd rfl hy⟩
theorem cn {prog:Program} {w:World} {env:Env} {e:Expr} {f:Str} {pos:Pos} {s:Shared} {Q:Value→Shared→Prop} (hb:attributeBase e f env (eval e env)=eval e env)
  (h:wpAny (model prog w) A (eval e env) (fun o s₁=>wpAny (model prog w) A (getAttr o f true) Q E s₁) E s):wpAny (model prog w) A (eval (.Attribute e f pos) env) Q E s:=
 Attribute_any_ h (by rw [arm_eval_Attribute,hb])
end
def UG (K:PySem.W.Frag) (ta:TE) (f:Str):TE:=fun σ H Q=>ta σ H fun x H1=>∃ a C dx fs v,x=.ref a∧H1 a=some (.ins C dx fs)∧Cls K C∧NoAttr K C f∧fs.lookup f=some v∧Q v H1
def Wl (K:PySem.W.Frag) (ta tv:TE) (f:Str):TS:=fun D σ H=>tv σ H fun y H1=>ta σ H1 fun x H2=>∃ a C dx fs,x=.ref a∧H2 a=some (.ins C dx fs)∧Cls K C∧NoAttr K C f∧fs.length<1000∧
 D.nx σ (upd H2 a (.ins C dx (wQ f y fs)))
section
variable {X:Cx} {o e value:Expr} {f:Str} {pos pos' tpos:Pos} {ta tv:TE}
theorem bJ (he:PE X e ta) (hb:attributeBase e f X.env (eval e X.env)=eval e X.env):PE X (.Attribute e f pos) (UG X.K ta f):=by
 intro pins s σ H Q I h
 refine cn hb (thn (he pins s σ H _ I h) fun u s1 ⟨x,H1,I1,rx,a,C,dx,fs,v,ex,ea,c,n,l,q⟩=>?_)
 subst ex
 obtain rfl:u=Value.ref a:=rx
 exact nq I1 ea c n l fun u' s2 I2 ru=>⟨v,H1,I2,ru,q⟩
theorem ub (ha:PE X o ta) (hv:PE X value tv) (hs:swapsWith value (some (.Attribute o f pos')) pos.line X.env=pure false):PS X (.Assign [.Attribute o f pos'] value pos) (Wl X.K ta tv f):=by
 intro pins s σ H D I h
 refine plainObj_wpAny_Assign_Attribute (thn (hv pins s σ H _ I h) fun u s1 ⟨y,H1,I1,ry,q⟩=>thn (ha pins s1 σ H1 _ I1 q) fun ov s2 ⟨x,H2,I2,rx,a,C,dx,fs,ex,ea,c,n,l,q2⟩=>?_) hs
 subst ex
 obtain rfl:ov=Value.ref a:=rx
 exact oF I2 ea c n l ry fun s3 I3=>⟨σ,_,I3,q2⟩
end
section
variable {X:Cx} {pins:List (Addr × Obj)} {σ:St} {H:Hp} {s:Shared} {A:Around} {E:Value→Shared→Prop} {Q:Value→Shared→Prop} {c:Value} {b:Bool}
inductive vg (K:PySem.W.Frag) (H:Hp):V→Value→Prop where
 | non:vg K H .non (.type "NoneType")
 | bl (x:Bool):vg K H (.bl x) (.type "bool")
 | int (i:Int):vg K H (.int i) (.type "int")
 | str (x:Str):vg K H (.str x) (.type "str")
 | flt (x:UInt64):vg K H (.flt x) (.type "float")
 | lst {a:Addr} {xs:List V} (e:H a=some (.lst xs)):vg K H (.ref a) (.type "list")
 | frz {a:Addr} {o:Obj} {xs:List V} (e:H a=some (.frz o (.lst xs))):vg K H (.ref a) (.type "list")
 | tup {a:Addr} {xs:List V} (e:H a=some (.tup xs)):vg K H (.ref a) (.type "tuple")
 | dK {a:Addr} {kvs:List (Key × V)} (e:H a=some (.dK kvs)):vg K H (.ref a) (.type "dict")
 | dT {a:Addr} {kvs:List (List Key × V)} (e:H a=some (.dT kvs)):vg K H (.ref a) (.type "dict")
 | ins {a C dx:Addr} {fs:List (Str × V)} (e:H a=some (.ins C dx fs)) (cl:Cls K C) (ha:PySem.W.findIn K (.ref C) "__class__"=some (some (.builtin "object.__class__")))
   (hn:PySem.W.specialIn K (.builtin "object.__class__") "__get__"=some (some (.builtin "getset_descriptor.__get__"))) (htk:PySem.W.takesIn K (.builtin "object.__class__")=some true)
   (hm:PySem.W.mroIn K C (.type "object")=some true):vg K H (.ref a) (.ref C)
theorem sW {x:V} {u t:Value} (I:Inv X pins σ H s) (rx:RelV x u) (ty:vg X.K H x t) (e:PySem.W.kitOne X.K t c=some b) (h:∀ tk,Q (.bool b) { s with toks:=tk }):
  wpAny (model X.prog X.w) A (call (.builtin "isinstance") [u,c]) Q E s:=by
 cases ty with
 | non=>cases (show u=Value.none from rx); exact PySem.W.kia_one PySem.W.kitx_none I.kIn True.intro e (fun z=>nomatch z) h
 | bl y=>cases (show u=Value.bool y from rx); exact PySem.W.kia_one PySem.W.kitx_bool I.kIn True.intro e (fun z=>nomatch z) h
 | int i=>obtain ⟨t,q⟩:=(show ∃ t,u=Value.int i t from rx); cases q; exact PySem.W.kia_one PySem.W.kitx_int I.kIn True.intro e (fun z=>nomatch z) h
 | str y=>obtain ⟨t,q⟩:=(show ∃ t,u=Value.str y t from rx); cases q; exact PySem.W.kia_one PySem.W.kitx_str I.kIn True.intro e (fun z=>nomatch z) h
 | flt y=>obtain ⟨t,q⟩:=(show ∃ t,u=Value.float y t from rx); cases q; exact PySem.W.kia_one PySem.W.kitx_float I.kIn True.intro e (fun z=>nomatch z) h
 | @lst a xs ea=>
  cases (show u=Value.ref a from rx)
  obtain ⟨_,_,n,_,h1⟩:=(show ObjOk X.prog X.w H s.heap a (.lst xs) from I.hok a _ ea)
  exact PySem.W.kia_one PySem.W.kitx_list I.kIn ⟨_,h1,rfl⟩ e (fun z=>nomatch z) h
 | @frz a ob xs ea=>
  cases (show u=Value.ref a from rx)
  obtain ⟨_,_,_,n,_,h1⟩:=(show ObjOk X.prog X.w H s.heap a (.frz ob (.lst xs)) from I.hok a _ ea)
  exact PySem.W.kia_one PySem.W.kitx_list I.kIn ⟨_,h1,rfl⟩ e (fun z=>nomatch z) h
 | @tup a xs ea=>
  cases (show u=Value.ref a from rx)
  obtain ⟨_,_,_,p⟩:=(show ObjOk X.prog X.w H s.heap a (.tup xs) from I.hok a _ ea)
  obtain ⟨o,h1,h2,_⟩:=p
  exact PySem.W.kia_one PySem.W.kitx_tuple I.kIn ⟨o,h1,h2⟩ e (fun z=>nomatch z) h
 | @dK a kvs ea=>
  cases (show u=Value.ref a from rx)
  obtain ⟨_,_,vs,_,p⟩:=(show ObjOk X.prog X.w H s.heap a (.dK kvs) from I.hok a _ ea)
  obtain ⟨o,es,ep,h1,h2,_⟩:=p
  exact PySem.W.kia_one PySem.W.kitx_dict I.kIn ⟨o,h1,h2.1⟩ e (fun z=>nomatch z) h
 | @dT a kvs ea=>
  cases (show u=Value.ref a from rx)
  obtain ⟨_,_,xs,_,o,es,ep,h1,h2,_⟩:=(show ObjOk X.prog X.w H s.heap a (.dT kvs) from I.hok a _ ea)
  exact PySem.W.kia_one PySem.W.kitx_dict I.kIn ⟨o,h1,h2.1⟩ e (fun z=>nomatch z) h
 | @ins a C dx fs ea cl ha hn htk hm=>
  cases (show u=Value.ref a from rx)
  obtain ⟨mA,O,_⟩:=u6 I.hok ea
  obtain ⟨od,J,_⟩:=O.look
  exact PySem.W.kia_one (PySem.W.kitx_own (cl.get _) cl.hd ha hn htk hm) I.kIn J e (fun z=>nomatch z) h
end
end L2
namespace L2
open PySem PySem.Spec PyProof.Rows
structure Room (k:Nat) (A:Around):Prop where
 hd:A.handled=none
 dp:A.depth+3*k+5<recursionLimit
 un:A.units+16*k+200<cLine
theorem Room.mono {j k:Nat} {A:Around} (r:Room k A) (h:j≤k):Room j A:=⟨r.hd,by have:=r.dp; omega,by have:=r.un; omega⟩
theorem Room.deeper {k:Nat} {A:Around} (r:Room (k+1) A) (env:Env):Room k (A.deeper env):=
 ⟨r.hd,by have:=r.dp; show A.depth+1+3*k+5<_; omega,by have:=r.un; show A.units+3+16*k+200<_; omega⟩
theorem Room.in1 {k:Nat} {A:Around} (r:Room (k+1) A):Room k A.in1:=
 ⟨r.hd,by have:=r.dp; show A.depth+3*k+5<_; omega,by have:=r.un; show A.units+1+16*k+200<_; omega⟩
theorem nc {A:Around} {C:Addr} {us:List Value} {kw:List (Str × Value)}:(A.under (.builtin "type.__call__" ⟨.ref C::us,kw⟩)).depth=A.depth+1:=by
 first | rfl | simp [Around.under,Code.weight,Code.isCreation,Code.isGuard,Code.isCaller,Code.frames,Code.isFrame,guardIds]
theorem o_ {A:Around} {C:Addr} {us:List Value} {kw:List (Str × Value)}:(A.under (.builtin "type.__call__" ⟨.ref C::us,kw⟩)).units=A.units+1:=by
 first | rfl | simp [Around.under,Code.cUnits,Code.frames,Code.isFrame]
theorem Room.make {k:Nat} {A:Around} (r:Room (k+1) A) (C:Addr) (us:List Value) (kw:List (Str × Value)):Room k (A.under (.builtin "type.__call__" ⟨.ref C::us,kw⟩)):=
 ⟨r.hd,by have:=r.dp; rw [nc]; omega,by have:=r.un; rw [o_]; omega⟩
theorem Room.depth {k:Nat} {A:Around} (r:Room k A):A.depth<recursionLimit:=by have:=r.dp; omega
theorem Room.units {k:Nat} {A:Around} (r:Room k A):A.units+64<cLine:=by have:=r.un; omega
def Wb:TA:=fun _ H Q=>Q [] H
def Wh (ta:TE) (tr:TA):TA:=fun σ H Q=>ta σ H fun x H1=>tr σ H1 fun xs H2=>Q (x::xs) H2
section
variable {X:Cx} {e:Expr} {es:List Expr} {te:TE} {t:TA} {pos:Pos}
theorem z6:PA X [] Wb:=fun _ _ _ _ H Q I h=>Calls.spliced_nil ⟨[],H,I,.nil,h⟩
theorem zE (ha:PE X e te) (hr:PA X es t) (hs:starEach (e::es) X.env=(false,eval e X.env)::starEach es X.env:=by rfl):PA X (e::es) (Wh te t):=by
 intro pos pins s σ H Q I h
 rw [hs]
 show wpAny _ _ (spliced ((false,eval e X.env)::backTo pos (starEach es X.env))) _ _ s
 refine Calls.spliced_cons (thn (ha pins s σ H _ I h) fun u s1 ⟨x,H1,I1,r1,q1⟩=>?_)
 exact thn (hr pos pins s1 σ H1 _ I1 q1) fun us s2 ⟨xs,H2,I2,r2,q2⟩=>⟨x::xs,H2,I2,.cons r1 r2,q2⟩
def Uy (t:TA):TE:=fun σ H Q=>t σ H fun xs H1=>xs.length≤sizeLine∧∀ p,H1 p=none→Q (.ref p) (upd H1 p (.tup xs))
def UD (t:TA):TE:=fun σ H Q=>t σ H fun xs H1=>xs.length≤sizeLine∧∀ p,H1 p=none→Q (.ref p) (upd H1 p (.lst xs))
theorem bD {x1} (h:PA X es t):PE X (.Tuple es x1 pos) (Uy t):=by
 intro pins s σ H Q I hq
 refine wpAny_Tuple_spliced (thn (h pos pins s σ H _ I hq) fun us s1 ⟨xs,H1,I1,r,z,q⟩=>⟨by rw [← r.length]; exact z,?_⟩)
 have hf:H1 s1.heap.objs.size=none:=I1.hok.fresh (Nat.le_refl _)
 refine ⟨.ref s1.heap.objs.size,upd H1 s1.heap.objs.size (.tup xs),I1.laid (t':=s1.toks) (fun b u e=>Heap.get?_push_of_some _ e) (Nat.le_refl _) ?_,rfl,q _ hf⟩
 exact ⟨z,us,r,⟨_,Heap.get?_push_size _ rfl,rfl,_,rfl⟩⟩
theorem kH (h:PA X es t):PE X (.List es pos) (UD t):=by
 intro pins s σ H Q I hq
 refine wpAny_List_spliced (thn (h pos pins s σ H _ I hq) fun us s1 ⟨xs,H1,I1,r,z,q⟩=>⟨by rw [← r.length]; exact z,?_⟩)
 have hf:H1 s1.heap.objs.size=none:=I1.hok.fresh (Nat.le_refl _)
 refine ⟨.ref s1.heap.objs.size,upd H1 s1.heap.objs.size (.lst xs),I1.laid (t':=s1.toks) (fun b u e=>Heap.get?_push_of_some _ e) (Nat.le_refl _) ?_,rfl,q _ hf⟩
 exact ⟨z,us,0,r,Heap.get?_push_size _ rfl⟩
end
abbrev Sp:=List V→Hp→VK→XK→Prop
abbrev CXT:=List Env→Hp→Shared→XK→Value→Shared→Prop
structure Env0 (P:Program) (w:World) (K:PySem.W.Frag) (mg:Str→Option Value) (base:Heap) (A:Around) (outer:List Env) (s:Shared) (H:Hp):Prop where
 frames:A.frames=some outer
 mod:Mod K mg base
 bs:∀ b o,base.get? b=some o→s.heap.get? b=some o∧H b=none
 bsz:base.objs.size≤s.heap.objs.size
 funs:s.heap.FunFrames base outer
 frf:∀ b∈frs outer,H b=none
 hok:HOk P w H s.heap
 bare:AllBare s.gens
def CE (outer:List Env) (P:Program) (w:World) (H:Hp) (s:Shared) (Q:VK) (u:Value) (s':Shared):Prop:=
 ∃ v H',s'.os=s.os∧AllBare s'.gens∧Un (frs outer) [] H H' s.heap s'.heap∧HOk P w H' s'.heap∧RelV v u∧Q v H'
def CR (CX:CXT) (outer:List Env) (P:Program) (w:World) (H:Hp) (s:Shared) (Q:VK) (E:XK) (r:Result) (s':Shared):Prop:=
 match r with
 | .ok (.ret u)=>CE outer P w H s Q u s'
 | .ok _=>False
 | .error e=>CX outer H s E e s'
structure FnOk (P:Program) (w:World) (K:PySem.W.Frag) (mg:Str→Option Value) (base:Heap) (CX:CXT) (k:Nat) (f:Addr) (fd:FuncData) (ps:List Str) (sp:Sp):Prop where
 len:∀ vs H Q E,sp vs H Q E→vs.length=ps.length
 run:∀ (A:Around) (outer:List Env) (s:Shared) (H:Hp) (args:Args) (us:List Value) (vs:List V) (Q:VK) (E:XK),Room k A→Env0 P w K mg base A outer s H→BindsTo s fd args (ps.zip us)→Vals vs us→sp vs H Q E→
  codeAny (model P w) A (.call (.ref f) args) (CR CX outer P w H s Q E) s
theorem FnOk.mono {P:Program} {w:World} {K:PySem.W.Frag} {mg:Str→Option Value} {base:Heap} {CX:CXT} {j k:Nat} {f:Addr} {fd:FuncData} {ps:List Str} {sp:Sp} (F:FnOk P w K mg base CX j f fd ps sp) (h:j≤k):
  FnOk P w K mg base CX k f fd ps sp:=⟨F.len,fun A outer s H args us vs Q E hr=>F.run A outer s H args us vs Q E (hr.mono h)⟩
theorem FnOk.imp {P:Program} {w:World} {K:PySem.W.Frag} {mg:Str→Option Value} {base:Heap} {CX:CXT} {k:Nat} {f:Addr} {fd:FuncData} {ps:List Str} {sp sp':Sp} (F:FnOk P w K mg base CX k f fd ps sp)
  (h:∀ vs H Q E,sp' vs H Q E→sp vs H Q E):FnOk P w K mg base CX k f fd ps sp':=
 ⟨fun vs H Q E q=>F.len vs H Q E (h _ _ _ _ q),fun A outer s H args us vs Q E hr he hb hv hs=>F.run A outer s H args us vs Q E hr he hb hv (h _ _ _ _ hs)⟩
theorem Env0.make {P:Program} {w:World} {K:PySem.W.Frag} {mg:Str→Option Value} {base:Heap} {A:Around} {outer:List Env} {s:Shared} {H:Hp} (e:Env0 P w K mg base A outer s H) (C:Addr) (us:List Value) (kw:List (Str × Value)):
  Env0 P w K mg base (A.under (.builtin "type.__call__" ⟨.ref C::us,kw⟩)) outer s H:=⟨by first | exact e.frames | (simpa [Around.under,Code.envs,Code.isFrame,pushEnvs] using e.frames),e.mod,e.bs,e.bsz,e.funs,e.frf,e.hok,e.bare⟩
theorem Env0.in1 {P:Program} {w:World} {K:PySem.W.Frag} {mg:Str→Option Value} {base:Heap} {A:Around} {outer:List Env} {s:Shared} {H:Hp} (e:Env0 P w K mg base A outer s H):
  Env0 P w K mg base A.in1 outer s H:=⟨e.frames,e.mod,e.bs,e.bsz,e.funs,e.frf,e.hok,e.bare⟩
section
variable {X:Cx} {pins:List (Addr × Obj)} {σ:St} {H:Hp} {s s':Shared}
theorem Inv.env0 (I:Inv X pins σ H s):Env0 X.prog X.w X.K X.mg X.base X.A X.stack s H:=
 ⟨I.ok.frames,I.ok.mod,I.bs,Nat.le_trans I.ok.bsz I.sz,I.stack,I.stkFree,I.hok,I.bare⟩
theorem Inv.after {Q:VK} {u:Value} (I:Inv X pins σ H s) (h:CE X.stack X.prog X.w H s Q u s'):EP X pins σ Q u s':=by
 obtain ⟨v,H',os,bare,un,hok,r,q⟩:=h
 obtain ⟨hh,g,d,t,os'⟩:=s'
 obtain rfl:os'=s.os:=os
 exact ⟨v,H',I.call (h':=hh) (g':=g) (d':=d) (t':=t) (ch:=[]) un hok bare (fun b z=>absurd z (by simp)),r,q⟩
end
def Wi (sp:Sp) (dvs:List V) (E:XK) (t:TA):TE:=fun σ H Q=>t σ H fun vs H1=>sp (vs++dvs) H1 Q E
def Wd (C:Addr) (sp:Sp) (dvs:List V) (E:XK) (t:TA):TE:=fun σ H Q=>t σ H fun vs H1=>∀ x dx,H1 x=none→H1 dx=none→dx≠x→
 sp (.ref x::(vs++dvs)) (upd (upd H1 dx (.own x)) x (.ins C dx [])) (fun v H2=>v=.non∧Q (.ref x) H2) E
def Binds (K:PySem.W.Frag) (fd:FuncData) (ps:List Str) (ds:List Value):Prop:=
 ∀ (s:Shared) (us:List Value),K.In s.heap→(us++ds).length=ps.length→BindsTo s fd ⟨us,[]⟩ (ps.zip (us++ds))
theorem Binds.all {K:PySem.W.Frag} {fd:FuncData} {ps:List Str} (h:∀ us:List Value,us.length=ps.length→bindArgs fd ⟨us,[]⟩=pure (ps.zip us)):Binds K fd ps []:=fun s us _ hl=>by
 rw [List.append_nil] at hl ⊢
 exact .of_eq (h us hl)
def uw (CX:CXT) (X:Cx) (E:XK):Prop:=∀ (pins:List (Addr × Obj)) (σ:St) (H:Hp) (s:Shared) (e:Value) (s':Shared),Inv X pins σ H s→CX X.stack H s E e s'→X.xe e s'
section
variable {X:Cx} {CX:CXT} {k:Nat} {f C:Addr} {fd:FuncData} {ps:List Str} {sp:Sp} {dvs:List V} {ds:List Value} {E:XK} {x m:Str} {p pos apos:Pos} {e o:Expr} {es:List Expr} {ta:TE} {t:TA}
theorem oP {pins:List (Addr × Obj)} {σ:St} {H:Hp} {s:Shared} {Q:VK} {us:List Value} {vs:List V} (F:FnOk X.prog X.w X.K X.mg X.base CX k f fd ps sp) (hr:Room k X.A) (hb:Binds X.K fd ps ds) (hd:Vals dvs ds) (hx:uw CX X E)
  (I:Inv X pins σ H s) (r:Vals vs us) (h:sp (vs++dvs) H Q E):wpAny (model X.prog X.w) X.A (call (.ref f) us) (EP X pins σ Q) X.xe s:=by
 have r2:Vals (vs++dvs) (us++ds):=r.append hd
 have hl:(us++ds).length=ps.length:=by rw [← r2.length]; exact F.len _ _ _ _ h
 refine wpAny_call (codeAny_mono (F.run X.A X.stack s H ⟨us,[]⟩ (us++ds) (vs++dvs) Q E hr I.env0 (hb s us I.kIn hl) r2 h) fun r s' hq=>?_)
 cases r with
 | error e=>exact hx pins σ H s e s' I hq
 | ok fl=>
  cases fl with
  | ret u=>exact I.after hq
  | next=>exact False.elim hq
  | brk=>exact False.elim hq
  | cont=>exact False.elim hq
theorem rO (F:FnOk X.prog X.w X.K X.mg X.base CX k f fd ps sp) (hr:Room k X.A) (hg:Gl X x) (hm:X.mg x=some (.ref f)) (hk:PySem.W.keepIn X.K (.ref f)=true) (hb:Binds X.K fd ps ds) (hd:Vals dvs ds) (hx:uw CX X E)
  (ha:PA X (e::es) t) (hdb:(x == ("__debug__":Str))=false:=by decide) (he:starEach (e::es) X.env=(false,eval e X.env)::starEach es X.env:=by rfl) (hpl:(backTo pos (starEach es X.env)).any (·.1)=false:=by rfl):
  PE X (.Call (.Name x p) (e::es) [] pos) (Wi sp dvs E t):=by
 intro pins s σ H Q I h
 refine wpAny_Call_Name_kw (u5 I hg hm ?_ hdb)
 refine PySem.W.callWith_K (h₀:=X.base) I.ok.mod.kin hk (thn (ha pos pins s σ H _ I h) fun us s1 ⟨vs,H1,I1,r,q⟩=>⟨I1.kIn,?_⟩) he hpl
 exact oP F hr hb hd hx I1 r q
structure Mk (K:PySem.W.Frag) (C f:Addr):Prop where
 makes:PySem.W.makesIn K C=true
 init:PySem.W.findIn K (.ref C) "__init__"=some (some (.ref f))
 fn:PySem.W.isFn K (.ref f)=true
 kp:PySem.W.keepIn K (.ref C)=true
theorem kv {pins:List (Addr × Obj)} {σ:St} {H:Hp} {s:Shared} {Q:VK} {us:List Value} {vs:List V} (M:Mk X.K C f) (F:FnOk X.prog X.w X.K X.mg X.base CX k f fd ps sp) (hr:Room (k+1) X.A) (hb:Binds X.K fd ps ds) (hd:Vals dvs ds)
  (hx:uw CX X E) (I:Inv X pins σ H s) (r:Vals vs us)
  (h:∀ x dx,H x=none→H dx=none→dx≠x→sp (.ref x::(vs++dvs)) (upd (upd H dx (.own x)) x (.ins C dx [])) (fun v H2=>v=.non∧Q (.ref x) H2) E):
  wpAny (model X.prog X.w) X.A (call (.ref C) us) (EP X pins σ Q) X.xe s:=by
 have hq:=h (s.heap.objs.size+1) s.heap.objs.size (I.hok.fresh (Nat.le_succ _)) (I.hok.fresh (Nat.le_refl _)) (Nat.ne_of_lt (Nat.lt_succ_self _))
 have I2:=Inv.made (C:=C) I
 have r2:Vals (V.ref (s.heap.objs.size+1)::(vs++dvs)) (Value.ref (s.heap.objs.size+1)::(us++ds)):=.cons rfl (r.append hd)
 have hl:(Value.ref (s.heap.objs.size+1)::us++ds).length=ps.length:=by
  have e:=r2.length
  rw [F.len _ _ _ _ hq] at e
  exact e.symm
 refine wpAny_call (jI (f:=f) I.kIn M.makes M.init (beq_iff_eq.mp M.fn) (codeAny_mono (F.run _ X.stack _ _ ⟨Value.ref (s.heap.objs.size+1)::us,[]⟩ (Value.ref (s.heap.objs.size+1)::(us++ds)) _ _ E (hr.make C us [])
  (I2.env0.make C us []) (hb _ (Value.ref (s.heap.objs.size+1)::us) I2.kIn hl) r2 hq) fun r s' hq'=>?_))
 cases r with
 | error e=>exact hx pins σ _ _ e s' I2 hq'
 | ok fl=>
  cases fl with
  | ret u=>
   obtain ⟨v,H',I3,rv,ev,q3⟩:=I2.after hq'
   subst ev
   exact ⟨rv,⟨V.ref (s.heap.objs.size+1),H',I3,rfl,q3⟩⟩
  | next=>exact False.elim hq'
  | brk=>exact False.elim hq'
  | cont=>exact False.elim hq'
theorem gj (M:Mk X.K C f) (F:FnOk X.prog X.w X.K X.mg X.base CX k f fd ps sp) (hr:Room (k+1) X.A) (hg:Gl X x) (hm:X.mg x=some (.ref C)) (hb:Binds X.K fd ps ds) (hd:Vals dvs ds) (hx:uw CX X E)
  (ha:PA X (e::es) t) (hdb:(x == ("__debug__":Str))=false:=by decide) (he:starEach (e::es) X.env=(false,eval e X.env)::starEach es X.env:=by rfl) (hpl:(backTo pos (starEach es X.env)).any (·.1)=false:=by rfl):
  PE X (.Call (.Name x p) (e::es) [] pos) (Wd C sp dvs E t):=by
 intro pins s σ H Q I h
 refine wpAny_Call_Name_kw (u5 I hg hm ?_ hdb)
 refine PySem.W.callWith_K (h₀:=X.base) I.ok.mod.kin M.kp (thn (ha pos pins s σ H _ I h) fun us s1 ⟨vs,H1,I1,r,q⟩=>⟨I1.kIn,?_⟩) he hpl
 exact kv M F hr hb hd hx I1 r q
end
section
variable {X:Cx} {CX:CXT} {k:Nat} {f C:Addr} {fd:FuncData} {ps ks:List Str} {sp:Sp} {E:XK} {x m:Str} {p pos apos kpos:Pos} {e o:Expr} {es:List Expr} {kws:List Keyword} {te ta:TE} {t tk:TA} {nm:Option Str}
variable {g:List Value→List Value→List Value} {gV:List V→List V→List V}
end
structure zh (N P:List Str) (sc:Scope):Prop where
 kind:sc.kind=.function
 co:sc.isCoroutine=false
 gen:sc.isGenerator=false
 nd:N.Nodup
 pre:N.take P.length=P
 par:∀ x∈P,sc.names.lookup x=some .local∨sc.names.lookup x=some .cell
 nofree:∀ y∈sc.names,y.2≠.free
theorem rc {kindOf:Str→Option NameKind} {x:Str}:∀ {binds:List (Str × Value)} {m:Str→Option Value},(∀ v,(x,v)∉binds)→bindL kindOf binds m x=m x
 | [],_,_=>rfl
 | (n,v)::r,m,h=>by
  unfold bindL
  rw [rc fun w hw=>h w (List.mem_cons_of_mem _ hw)]
  split
  ·have:x≠n:=by rintro rfl; exact h v List.mem_cons_self
   simp [this]
  ·rfl
theorem rg {kindOf:Str→Option NameKind} {x:Str}:∀ {binds:List (Str × Value)} {m:Str→Option Value},(∀ v,(x,v)∉binds)→bindC kindOf binds m x=m x
 | [],_,_=>rfl
 | (n,v)::r,m,h=>by
  unfold bindC
  rw [rg fun w hw=>h w (List.mem_cons_of_mem _ hw)]
  split
  ·rfl
  ·have:x≠n:=by rintro rfl; exact h v List.mem_cons_self
   simp [this]
theorem rd {kindOf:Str→Option NameKind} {x:Str} {v:Value}:∀ {P:List Str} {vs:List Value} {i:Nat} {m:Str→Option Value},P.Nodup→P[i]? = some x→vs[i]? = some v→kindOf x=some .local→
  bindL kindOf (P.zip vs) m x=some v
 | [],_,_,_,_,h,_,_=>by simp at h
 | _::_,[],_,_,_,_,h,_=>by simp at h
 | p::P,w::vs,0,m,nd,h1,h2,hk=>by
  simp at h1 h2; subst h1; subst h2
  show bindL kindOf ((p,w)::P.zip vs) m p=_
  unfold bindL
  rw [rc fun v hv=>(List.nodup_cons.mp nd).1 (List.of_mem_zip hv).1,if_pos hk]
  simp
 | p::P,w::vs,i+1,m,nd,h1,h2,hk=>by
  show bindL kindOf ((p,w)::P.zip vs) m x=_
  unfold bindL
  exact rd (i:=i) (List.nodup_cons.mp nd).2 (by simpa using h1) (by simpa using h2) hk
theorem rh {kindOf:Str→Option NameKind} {x:Str} {v:Value}:∀ {P:List Str} {vs:List Value} {i:Nat} {m:Str→Option Value},P.Nodup→P[i]? = some x→vs[i]? = some v→kindOf x≠some .local→
  bindC kindOf (P.zip vs) m x=some v
 | [],_,_,_,_,h,_,_=>by simp at h
 | _::_,[],_,_,_,_,h,_=>by simp at h
 | p::P,w::vs,0,m,nd,h1,h2,hk=>by
  simp at h1 h2; subst h1; subst h2
  show bindC kindOf ((p,w)::P.zip vs) m p=_
  unfold bindC
  rw [rg fun v hv=>(List.nodup_cons.mp nd).1 (List.of_mem_zip hv).1,if_neg hk]
  simp
 | p::P,w::vs,i+1,m,nd,h1,h2,hk=>by
  show bindC kindOf ((p,w)::P.zip vs) m x=_
  unfold bindC
  exact rh (i:=i) (List.nodup_cons.mp nd).2 (by simpa using h1) (by simpa using h2) hk
def start (N:List Str) (vs:List V):St:=vs.map some++List.replicate (N.length - vs.length) none
def yV (CX:CXT) (P:Program) (w:World) (K:PySem.W.Frag) (mg:Str→Option Value) (base:Heap) (N:List Str) (qual:Str) (scope:Scope) (f:Addr) (cd:Value) (A:Around) (outer:List Env) (s:Shared) (H:Hp) (E:XK):Cx where
 prog:=P
 w:=w
 K:=K
 mg:=mg
 base:=base
 A:=A.deeper (envOfC qual scope s.heap.objs.size f cd)
 N:=N
 s₀:=s
 H₀:=H
 env:=envOfC qual scope s.heap.objs.size f cd
 outer:=outer
 stack:=envOfC qual scope s.heap.objs.size f cd::outer
 ex:=[]
 calm:=true
 fn:=fun _=>true
 pn:=[]
 xe:=fun e s'=>wpAny (model P w) (A.deeper (envOfC qual scope s.heap.objs.size f cd)) (leaving (envOfC qual scope s.heap.objs.size f cd) e) (fun _ s''=>CX outer H s E e s'') (fun e' s''=>CX outer H s E e' s'') s'
theorem sf {sc:Scope} {n:Nat} {x:Str} (h:sc.names.lookup x=some .cell):∃ c,(cellsFrom n sc.names []).lookup x=some c:=by
 have q:=PySem.W.cellsFrom_some sc.names n [] (.inl h)
 exact Option.isSome_iff_exists.mp q
theorem lC {CX:CXT} {P:Program} {w:World} {K:PySem.W.Frag} {mg:Str→Option Value} {base:Heap} {N ps:List Str} {qual:Str} {scope:Scope} {f:Addr} {cd:Value} {A:Around} {outer:List Env} {s s1:Shared} {H:Hp} {E:XK} {us:List Value} {vs:List V}
  (S:zh N ps scope) (hd:A.handled=none) (e0:Env0 P w K mg base A outer s H) (hl:vs.length=ps.length) (r:Vals vs us)
  (x:InCallC s s.heap.objs.size (bindL (envOfC qual scope s.heap.objs.size f cd).kindOf (ps.zip us) fun _=>none) (cellsFrom (s.heap.objs.size+1) scope.names []) (bindC (envOfC qual scope s.heap.objs.size f cd).kindOf (ps.zip us) fun _=>none) s1):
  Inv (yV CX P w K mg base N qual scope f cd A outer s H E) [] (start N vs) H s1:=by
 have hpl:ps.length≤N.length:=by have:=congrArg List.length S.pre; rw [List.length_take] at this; omega
 obtain ⟨h1,tk,rfl,hk⟩:=x.done
 have noA:∀ b:Addr,b∉(yV CX P w K mg base N qual scope f cd A outer s H E).ex:=fun b z=>absurd (show b∈([]:List Addr) from z) (by simp)
 refine ⟨⟨e0.mod,S.kind,rfl,rfl,Nat.le_refl _,fun y z c h1 h2=>?_,fun y hy=>?_,fun y c _ h=>?_,fun _=>hd,Around.frames_deeper e0.frames,.inr ⟨rfl,rfl⟩,fun b z=>absurd z (noA b),e0.bs,e0.bsz,fun b _ _=>noA b,fun b z=>absurd z (noA b),e0.funs,e0.frf⟩,
  rfl,e0.bare,Un.kept hk,⟨_,x.toInCall.ns,fun i y v h1 h2 h3=>?_⟩,fun y c h=>⟨_,x.cell y c h⟩,e0.hok.fresh (Nat.le_refl _),fun y c h=>?_,fun p hp=>absurd (show p∈([]:List (Addr × Obj)) from hp) (by simp),e0.hok.kept hk,?_⟩
 ·exact name_of_addr x.apart (PySem.mem_of_lookup h1) (PySem.mem_of_lookup h2)
 ·have hy:scope.names.lookup y=some .cell∨scope.names.lookup y=some .free:=hy
  rcases hy with hy | hy
  ·exact sf hy
  ·exact absurd rfl (S.nofree _ (PySem.mem_of_lookup hy))
 ·exact Nat.le_of_lt (x.above y c (PySem.mem_of_lookup h))
 ·have hi:i<vs.length:=by
   unfold start at h2
   by_cases hi:i<vs.length
   ·exact hi
   ·rw [List.getElem?_append_right (by simpa using hi)] at h2
    rw [List.getElem?_replicate] at h2
    split at h2 <;> cases h2
  have ha:vs[i]? = some v:=by
   unfold start at h2
   rw [List.getElem?_append_left (by simpa using hi),List.getElem?_map] at h2
   cases e:vs[i]? with
   | none=>rw [e] at h2; cases h2
   | some a=>rw [e] at h2; cases h2; rfl
  obtain ⟨u,hu,rv⟩:=r.get ha
  have hp:ps[i]? = some y:=by
   rw [← S.pre,List.getElem?_take_of_lt (by omega)]; exact h1
  have ndP:ps.Nodup:=by rw [← S.pre]; exact S.nd.sublist (List.take_sublist _ _)
  refine ⟨u,rv,?_⟩
  rcases S.par y (List.mem_of_getElem? hp) with k | k
  ·exact .inl ⟨k,rd ndP hp hu k⟩
  ·obtain ⟨c,e⟩:=sf (n:=s.heap.objs.size+1) k
   refine .inr ⟨.inl k,c,e,?_⟩
   have q:=x.cell y c e
   rw [rh ndP hp hu (by show scope.names.lookup y≠_; rw [k]; decide)] at q
   exact q
 ·exact e0.hok.fresh (Nat.le_of_lt (x.above y c (PySem.mem_of_lookup h)))
 ·unfold start
  show _=N.length
  rw [List.length_append,List.length_map,List.length_replicate]
  omega
theorem cK {CX:CXT} {P:Program} {w:World} {K:PySem.W.Frag} {mg:Str→Option Value} {base:Heap} {k:Nat} {f:Addr} {name qual:Str} {params:Arguments} {body:List Stmt} {scope:Scope} {dV kV doc pm cdv ct oc:Value} {an od:Option Addr}
  {osl:Array (Option Value)} {N ps:List Str} {sp:Sp} (lk:K.lookup f=some ⟨oc,od,.func (PySem.W.fnOf name qual params body scope dV kV doc pm an cdv ct),osl⟩) (hcd:PySem.W.codeIn K cdv qual=true) (S:zh N ps scope)
  (len:∀ vs H Q E,sp vs H Q E→vs.length=ps.length)
  (hbody:∀ (A:Around) (outer:List Env) (s:Shared) (H:Hp) (vs:List V) (Q:VK) (E:XK),Room k (A.deeper (envOfC qual scope s.heap.objs.size f cdv))→sp vs H Q E→
   ∃ t,PSs (yV CX P w K mg base N qual scope f cdv A outer s H E) body t∧t { nx:=fun _ H'=>Q .non H',rt:=Q } (start N vs) H):
  FnOk P w K mg base CX (k+1) f (PySem.W.fnOf name qual params body scope dV kV doc pm an cdv ct) ps sp:=by
 refine ⟨len,fun A outer s H args us vs Q E hr e0 hb r hsp=>?_⟩
 have hl:=len _ _ _ _ hsp
 have KX:K.In s.heap:=e0.mod.kin.keeps fun b o e=>(e0.bs b o e).1
 have lim:s.heap.NoLimit:=e0.mod.nolimit.keeps fun b o e=>(e0.bs b o e).1
 have hkind:∀ y∈ps.zip us,scope.names.lookup y.1=some .local∨(scope.names.lookup y.1=some .cell∧((cellsFrom (s.heap.objs.size+1) scope.names []).lookup y.1).isSome=true):=fun ⟨n,v⟩ hy=>by
  rcases S.par n (List.of_mem_zip hy).1 with q | q
  ·exact .inl q
  ·exact .inr ⟨q,PySem.W.cellsFrom_some _ _ _ (.inl q)⟩
 refine codeAny_call_function hr.depth (KX _ _ lk) rfl S.co S.gen rfl (PySem.W.codeRec_of KX hcd) (hb _ _ _ _ ?_)
 refine wpAny_newFunctionEnv_cells S.kind hkind fun env he s1 x=>?_
 subst he
 refine ⟨lim.keeps x.toInCall.keep,codeAny_func ?_⟩
 obtain ⟨t,ht,hq⟩:=hbody A outer s H vs Q E (hr.deeper _) hsp
 have I:Inv (yV CX P w K mg base N qual scope f cdv A outer s H E) [] (start N vs) H s1:=lC S hr.hd e0 hl r x
 refine wpAny_mono (ht [] s1 (start N vs) H _ I hq) (fun fl s' hs=>?_) fun e s' hs=>hs
 have fin:∀ {σ':St} {H':Hp} {v:V} {u:Value},Inv (yV CX P w K mg base N qual scope f cdv A outer s H E) [] σ' H' s'→RelV v u→Q v H'→CE outer P w H s Q u s':=
  fun {σ' H' v u} J rv q=>⟨v,H',J.os,J.bare,J.base,J.hok,rv,q⟩
 cases fl with
 | ret u=>
  obtain ⟨v,σ',H',J,rv,q⟩:=hs
  exact fin J rv q
 | next=>
  obtain ⟨σ',H',J,q⟩:=hs
  exact fin (v:=V.non) (u:=Value.none) J rfl q
 | brk=>
  obtain ⟨_,_,_,q⟩:=hs
  exact False.elim q
 | cont=>
  obtain ⟨_,_,_,q⟩:=hs
  exact False.elim q
end L2
namespace L2
open PySem PySem.Spec PyProof.Rows
section
variable {X:Cx} {x:Str} {p pos:Pos} {e:Expr} {es:List Expr} {t:TA} {id T:String} {r:List V→Hp→VK→Prop}
def tCB (r:List V→Hp→VK→Prop) (t:TA):TE:=fun σ H Q=>t σ H fun vs H1=>r vs H1 Q
theorem y7 (hc:CallR X (.builtin id) r) (hg:Gl X x) (hm:X.mg x=none) (hv:bootBuiltins x=some (.builtin id)) (ha:PA X (e::es) t) (hn:x≠"__name__":=by decide) (hdb:(x == ("__debug__":Str))=false:=by decide)
  (he:starEach (e::es) X.env=(false,eval e X.env)::starEach es X.env:=by rfl) (hpl:(backTo pos (starEach es X.env)).any (·.1)=false:=by rfl):PE X (.Call (.Name x p) (e::es) [] pos) (tCB r t):=by
 intro pins s σ H Q I h
 refine wpAny_Call_Name_kw (xQ I hg hm hv ?_ hn hdb)
 exact PyProof.Rows.callWith_builtin1 (thn (ha pos pins s σ H _ I h) fun us s1 ⟨vs,H1,I1,r1,q1⟩=>hc pins s1 σ H1 vs us Q I1 r1 q1) he hpl
theorem uc (hc:CallR X (.type T) r) (hg:Gl X x) (hm:X.mg x=none) (hv:bootBuiltins x=some (.type T)) (ha:PA X (e::es) t) (hn:x≠"__name__":=by decide) (hdb:(x == ("__debug__":Str))=false:=by decide)
  (he:starEach (e::es) X.env=(false,eval e X.env)::starEach es X.env:=by rfl) (hpl:(backTo pos (starEach es X.env)).any (·.1)=false:=by rfl):PE X (.Call (.Name x p) (e::es) [] pos) (tCB r t):=by
 intro pins s σ H Q I h
 refine wpAny_Call_Name_kw (xQ I hg hm hv ?_ hn hdb)
 exact PyProof.Rows.callWith_type1 (thn (ha pos pins s σ H _ I h) fun us s1 ⟨vs,H1,I1,r1,q1⟩=>hc pins s1 σ H1 vs us Q I1 r1 q1) he hpl
end
end L2
namespace HT
open PySem PyProof.Rows
section
open PySem.SeqAt
open PySem.AutoSeq1 (wpAny_loadPart')
open PySem.MeetsSeq PySem.MeetsSeq2 PySem.MeetsSeq3
end
section
variable {prog:Program} {w:World} {A:Around} {E:Value→Shared→Prop} {s:Shared}
def sIx (n d:Nat):Option Int→Nat
 | none=>d
 | some v=>if v<0 then (v+(n:Int)).toNat else min v.toNat n
theorem sIx_nat (n d k:Nat):sIx n d (some (k:Int))=min k n:=by
 show (if (k:Int)<0 then ((k:Int)+(n:Int)).toNat else min (k:Int).toNat n)=min k n
 rw [if_neg (by omega),Int.toNat_natCast]
end
end HT
namespace L2
open PySem PySem.Spec PyProof.Rows
abbrev TO:=St→Hp→(Option Int→Hp→Prop)→Prop
def PO (X:Cx) (e:Option Expr) (t:TO):Prop:=
 ∀ (pins:List (Addr × Obj)) (s:Shared) (σ:St) (H:Hp) (Q:Option Int→Hp→Prop),Inv X pins σ H s→t σ H Q→
  wpAny (model X.prog X.w) X.A (evalPart e X.env) (fun u s'=>∃ o H',Inv X pins σ H' s'∧IsPart u o∧Q o H') X.xe s
def iZ:TO:=fun _ H Q=>Q none H
def X_ (t:TE):TO:=fun σ H Q=>t σ H fun x H1=>∃ i,x=.int i∧Q (some i) H1
theorem nh {ns:List Int}:∀ {us:List Value},Vals (ns.map V.int) us→IntsAre us ns:=by
 induction ns with
 | nil=>intro us r; rw [List.map_nil] at r; cases r; exact .nil
 | cons n ns ih=>
  intro us r
  rw [List.map_cons] at r
  cases r with
  | cons r1 r2=>
   obtain ⟨t,e⟩:=r1
   subst e
   exact .cons n t (ih r2)
section
variable {X:Cx} {e:Expr} {te:TE} {lo hi:Option Expr} {tl th:TO} {pos p2:Pos}
theorem gg:PO X none iZ:=by
 intro pins s σ H Q I h
 rw [evalPart_none]
 exact wpAny_pure ⟨none,H,I,.none,h⟩
theorem gf (h:PE X e te):PO X (some e) (X_ te):=by
 intro pins s σ H Q I hw
 rw [evalPart_some]
 refine thn (h pins s σ H _ I hw) fun u s1 ⟨x,H1,I1,r1,q1⟩=>?_
 obtain ⟨i,rfl,q⟩:=q1
 obtain ⟨t,rfl⟩:=r1
 exact ⟨some i,H1,I1,.int i t,q⟩
def SlR (X:Cx) (r:V→Option Int→Option Int→Hp→VK→Prop):Prop:=
 ∀ (pins:List (Addr × Obj)) (s:Shared) (σ:St) (H:Hp) (x:V) (v vl vu:Value) (lo hi:Option Int) (sl:Addr) (Q:VK),Inv X pins σ H s→RelV x v→s.heap.IsSliceOf sl vl vu .none→IsPart vl lo→IsPart vu hi→r x lo hi H Q→
  ∃ T id,typeLookup (.type T) "__getitem__"=pure (some (.builtin id))∧s.TypeIs v T∧wpAny (model X.prog X.w) X.A (getItem v (.ref sl)) (EP X pins σ Q) X.xe s
theorem SlR.or {r r':V→Option Int→Option Int→Hp→VK→Prop} (h:SlR X r) (h':SlR X r'):SlR X (fun x lo hi H Q=>r x lo hi H Q∨r' x lo hi H Q):=by
 intro pins s σ H x v vl vu lo hi sl Q I rx hs pl pu q
 rcases q with q | q
 ·exact h pins s σ H x v vl vu lo hi sl Q I rx hs pl pu q
 ·exact h' pins s σ H x v vl vu lo hi sl Q I rx hs pl pu q
def tSl (r:V→Option Int→Option Int→Hp→VK→Prop) (te:TE) (tl th:TO):TE:=fun σ H Q=>te σ H fun x H1=>tl σ H1 fun l H2=>th σ H2 fun u H3=>r x l u H3 Q
theorem pq {r:V→Option Int→Option Int→Hp→VK→Prop} (hr:SlR X r) (he:PE X e te) (hl:PO X lo tl) (hu:PO X hi th):PE X (.Subscript e (.Slice lo hi none p2) pos) (tSl r te tl th):=by
 intro pins s σ H Q I h
 refine Subscript_ (thn (he pins s σ H _ I h) fun v s1 ⟨x,H1,I1,r1,q1⟩=>?_)
 refine wpAny_Slice (thn (hl pins s1 σ H1 _ I1 q1) fun vl s2 ⟨l,H2,I2,pl,q2⟩=>thn (hu pins s2 σ H2 _ I2 q2) fun vu s3 ⟨u,H3,I3,pu,q3⟩=>?_)
 rw [evalPart_none]
 refine wpAny_pure ?_
 have I4:Inv X pins σ H3 { s3 with heap:=s3.heap.push { cls:=.type "slice",data:=.fields #[vl,vu,.none] } }:=I3.kept (t':=s3.toks) fun b ob q=>Heap.get?_push_of_some _ q
 obtain ⟨T,id,hT,ht,hg⟩:=hr pins { s3 with heap:=s3.heap.push { cls:=.type "slice",data:=.fields #[vl,vu,.none] } } σ H3 x v vl vu l u s3.heap.objs.size Q I4 r1 (Heap.IsSliceOf.new ..) pl pu q3
 show wpAny (model X.prog X.w) X.A (subscriptTail e (.Slice lo hi none p2) v (.ref s3.heap.objs.size)) (EP X pins σ Q) X.xe { s3 with heap:=s3.heap.push { cls:=.type "slice",data:=.fields #[vl,vu,.none] } }
 exact tail_any (ops:=[.ref s3.heap.objs.size,v]) ht hT hg (by with_unfolding_all rfl)
def nD (xs:List V) (lo hi:Option Int):List V:=(xs.drop (HT.sIx xs.length 0 lo)).take (HT.sIx xs.length xs.length hi - HT.sIx xs.length 0 lo)
theorem p6 (xs:List V) (lo hi:Option Int):(nD xs lo hi).length≤xs.length:=by
 unfold nD
 rw [List.length_take,List.length_drop]
 omega
end
end L2
namespace L2
open PySem PySem.Spec PyProof.Rows
def ixN (n:Nat) (i:Int):Option Nat:=if 0≤i then (if i<n then some i.toNat else none) else if -(n:Int)≤i then some (i+n).toNat else none
def atI {α:Type} (xs:List α) (i:Int):Option α:=(ixN xs.length i).bind fun j=>xs[j]?
theorem n4 {n:Nat} {i:Int} {j:Nat} (h:ixN n i=some j):seqIndex? i n=some j∧j<n∧-(n:Int)≤i∧i<n:=by
 unfold ixN at h
 by_cases h0:0≤i
 ·rw [if_pos h0] at h
  by_cases h1:i<n
  ·rw [if_pos h1] at h
   have e:i.toNat=j:=Option.some.inj h
   exact ⟨by rw [seqIndex_of h0 h1,e],by omega,by omega,h1⟩
  ·rw [if_neg h1] at h; cases h
 ·rw [if_neg h0] at h
  by_cases h1:-(n:Int)≤i
  ·rw [if_pos h1] at h
   have e:(i+n).toNat=j:=Option.some.inj h
   exact ⟨by rw [seqIndex_neg (by omega) h1,e],by omega,h1,by omega⟩
  ·rw [if_neg h1] at h; cases h
theorem qC {α:Type} {xs:List α} {i:Int} {v:α} (h:atI xs i=some v):∃ j,seqIndex? i xs.length=some j∧xs[j]? = some v∧j<xs.length∧-(xs.length:Int)≤i∧i<xs.length:=by
 unfold atI at h
 cases e:ixN xs.length i with
 | none=>rw [e] at h; cases h
 | some j=>
  rw [e] at h
  obtain ⟨h1,h2,h3,h4⟩:=n4 e
  exact ⟨j,h1,h,h2,h3,h4⟩
theorem wO {α:Type} {xs:List α} {j:Nat} {v:α} (h:xs[j]? = some v):atI xs (j:Int)=some v:=by
 have hj:j<xs.length:=(List.getElem?_eq_some_iff.mp h).1
 have e:ixN xs.length (j:Int)=some j:=by
  unfold ixN
  rw [if_pos (by omega),if_pos (by omega)]; simp
 unfold atI; rw [e]; exact h
theorem xf {α:Type} (xs:List α) (v:α):atI (xs++[v]) (-1)=some v:=by
 have hl:(xs++[v]).length=xs.length+1:=by simp
 have e:ixN (xs++[v]).length (-1)=some xs.length:=by
  unfold ixN
  rw [hl,if_neg (by decide),if_pos (by omega)]
  congr 1
  omega
 unfold atI
 rw [e]
 show (xs++[v])[xs.length]? = some v
 simp
def qJ (b:Expr):Prop:=∀ o i,subscripted b false o i=operate [o,i] (getItem o i)
def IxR (X:Cx) (r:R2):Prop:=
 ∀ (value slice:Expr) (pins:List (Addr × Obj)) (s:Shared) (σ:St) (H:Hp) (x y:V) (v u:Value) (Q:VK),Inv X pins σ H s→RelV x v→RelV y u→r x y H Q→
  subscripted slice false v u=operate [v,u] (getItem v u)→wpAny (model X.prog X.w) X.A (subscriptTail value slice v u) (EP X pins σ Q) X.xe s
def MtR (X:Cx) (id:String) (r:V→List V→Hp→VK→Prop):Prop:=
 ∀ (pins:List (Addr × Obj)) (s:Shared) (σ:St) (H:Hp) (x:V) (xs:List V) (v:Value) (us:List Value) (Q:VK),Inv X pins σ H s→RelV x v→Vals xs us→r x xs H Q→
  wpAny (model X.prog X.w) X.A (call (.builtin id) (v::us)) (EP X pins σ Q) X.xe s
section
variable {X:Cx} {a b:Expr} {ta tb:TE} {pos:Pos}
theorem IxR.or {r r':R2} (h:IxR X r) (h':IxR X r'):IxR X (fun x y H Q=>r x y H Q∨r' x y H Q):=by
 intro value slice pins s σ H x y v u Q I rx ry q hs
 rcases q with q | q
 ·exact h value slice pins s σ H x y v u Q I rx ry q hs
 ·exact h' value slice pins s σ H x y v u Q I rx ry q hs
theorem MtR.or {id:String} {r r':V→List V→Hp→VK→Prop} (h:MtR X id r) (h':MtR X id r'):MtR X id (fun x xs H Q=>r x xs H Q∨r' x xs H Q):=by
 intro pins s σ H x xs v us Q I rx rs q
 rcases q with q | q
 ·exact h pins s σ H x xs v us Q I rx rs q
 ·exact h' pins s σ H x xs v us Q I rx rs q
theorem cE {r:R2} (hr:IxR X r) (ha:PE X a ta) (hb:PE X b tb) (hs:qJ b):PE X (.Subscript a b pos) (tOp r ta tb):=by
 intro pins s σ H Q I h
 exact Subscript_ (ck ha hb I h fun v u s2 x y H2 I2 rx ry q=>hr a b pins s2 σ H2 x y v u Q I2 rx ry q (hs _ _))
def Wq (K:PySem.W.Frag):R2:=fun x y H Q=>∃ p xs i v,x=.ref p∧y=.int i∧SqL K H p xs∧atI xs i=some v∧Q v H
def Wo (K:PySem.W.Frag):R2:=fun x y H Q=>∃ p xs i v,x=.ref p∧y=.int i∧SqT K H p xs∧atI xs i=some v∧Q v H
def Wp:R2:=fun x y H Q=>∃ z i c,x=.str z∧y=.int i∧z.length≤sizeLine∧atI z.cps.toList i=some c∧Q (.str ⟨#[c]⟩) H
theorem ix_list:IxR X (Wq X.K):=by
 intro value slice pins s σ H x y v u Q I rx ry h hs
 obtain ⟨p,xs,i,z,rfl,rfl,hq,he,q⟩:=h
 cases rx
 obtain ⟨t,rfl⟩:=ry
 obtain ⟨its,r,pl,hz⟩:=I.list hq
 obtain ⟨j,h1,h2,h3,h4,h5⟩:=qC he
 obtain ⟨w,ew,rw'⟩:=r.get h2
 have hl:=r.length
 have hn:=wl
 have fin:EP X pins σ Q w s:=⟨z,H,I,rw',q⟩
 by_cases h0:0≤i
 ·have hj:i.toNat=j:=by
   rw [seqIndex_of h0 h5] at h1
   exact Option.some.inj h1
  exact item_listR pl.isList h0 (by omega) (by rw [hj]; simpa using ew) fin hs
 ·have hj:(i+(its.toArray.size:Int)).toNat=j:=by
   rw [seqIndex_neg (by omega) h4] at h1
   rw [List.size_toArray,← hl]
   exact Option.some.inj h1
  exact subscriptTail_builtinR (x:=w) pl.isList.typeIs slot_list_getitem.lookup
   (wpAny_getItem_list_neg (Q:=fun r s'=>r=w∧EP X pins σ Q r s') pl.isList (by omega) (by rw [List.size_toArray] <;> omega) (by omega) (by rw [hj]; simpa using ew) ⟨rfl,fin⟩) hs
theorem ix_tup:IxR X (Wo X.K):=by
 intro value slice pins s σ H x y v u Q I rx ry h hs
 obtain ⟨p,xs,i,z,rfl,rfl,hq,he,q⟩:=h
 cases rx
 obtain ⟨t,rfl⟩:=ry
 obtain ⟨its,r,pl,hz⟩:=I.tuple hq
 obtain ⟨j,h1,h2,h3,h4,h5⟩:=qC he
 obtain ⟨w,ew,rw'⟩:=r.get h2
 have hl:=r.length
 have hn:=wl
 have fin:EP X pins σ Q w s:=⟨z,H,I,rw',q⟩
 exact subscriptTail_builtinR (x:=w) pl.typeIs slot_tuple_getitem.lookup
  (getItem_tuple (j:=j) (Q:=fun r s'=>r=w∧EP X pins σ Q r s') pl (by omega) (by omega) (by rw [List.size_toArray,← hl]; exact h1) (by simpa using ew) ⟨rfl,fin⟩) hs
theorem Xs:IxR X Wp:=by
 intro value slice pins s σ H x y v u Q I rx ry h hs
 obtain ⟨z,i,c,rfl,rfl,hz,he,q⟩:=h
 obtain ⟨t,rfl⟩:=rx
 obtain ⟨t',rfl⟩:=ry
 obtain ⟨j,h1,h2,h3,h4,h5⟩:=qC he
 have hl:z.cps.toList.length=z.length:=by simp [Str.length]
 rw [hl] at h1 h4 h5
 have hn:=wl
 exact tail_any (typeIs_str s z t) slot_str_getitem.lookup (getItem_str (c:=c) (by
  have e1:decide (i < -(2 ^ 63:Int))=false:=decide_eq_false (by omega)
  have e2:decide (i ≥ 2 ^ 63)=false:=decide_eq_false (by omega)
  rw [e1,e2,Bool.or_false]) (by rw [h1]; simpa using h2) ⟨.str ⟨#[c]⟩,H,I.tok _,⟨_,rfl⟩,q⟩) hs
def rIx (K:PySem.W.Frag):R2:=fun x y H Q=>Wq K x y H Q∨Wo K x y H Q∨Wp x y H Q
theorem Xu:IxR X (rIx X.K):=ix_list.or (ix_tup.or Xs)
theorem o9 (its:List Value) (n j:Nat) (u:Value):Obj.mapSeq (·.setIfInBounds j u) { cls:=.type "list",data:=.seq its.toArray n }={ cls:=.type "list",data:=.seq (its.set j u).toArray n }:=by
 simp [Obj.mapSeq]
theorem Inv.lst {pins:List (Addr × Obj)} {σ:St} {H:Hp} {s:Shared} {p:Addr} {xs:List V} (I:Inv X pins σ H s) (h:H p=some (.lst xs)):
  ∃ (its:List Value) (n:Nat),Vals xs its∧s.heap.get? p=some { cls:=.type "list",data:=.seq its.toArray n }∧xs.length≤sizeLine:=by
 obtain ⟨z,its,n,r,e⟩:=I.hok p _ h
 exact ⟨its,n,r,e,z⟩
theorem Inv.lstUpd {pins:List (Addr × Obj)} {σ:St} {H:Hp} {s:Shared} {p:Addr} {xs ys:List V} {its its':List Value} {n n':Nat} {f:Obj→Obj} (I:Inv X pins σ H s) (h:H p=some (.lst xs))
  (ho:s.heap.get? p=some { cls:=.type "list",data:=.seq its.toArray n }) (hf:f { cls:=.type "list",data:=.seq its.toArray n }={ cls:=.type "list",data:=.seq its'.toArray n' }) (r:Vals ys its') (hz:ys.length≤sizeLine) (t:Nat):
  Inv X pins σ (upd H p (.lst ys)) { s with heap:=s.heap.update p f,toks:=t }:=by
 have e:(s.heap.update p f).get? p=some { cls:=.type "list",data:=.seq its'.toArray n' }:=by
  rw [Heap.get?_update_self f ho (by rw [hf] <;> rfl),hf]
 refine I.write (x:=p) (e:=p) (by rw [h]; trivial) (.inl rfl) (fun b u hb q=>(Heap.get?_update_other _ _ (Ne.symm hb)).trans q) ⟨_,e⟩ ?_
 exact ⟨hz,its',n',r,e⟩
def Wn:V→V→V→Hp→(Hp→Prop)→Prop:=fun o i v H Q=>∃ p xs k j,o=.ref p∧i=.int k∧H p=some (.lst xs)∧ixN xs.length k=some j∧Q (upd H p (.lst (xs.set j v)))
theorem ko:Uw X Wn:=by
 intro pins s σ H o i v ov iv u Q I ro ri rv h
 obtain ⟨p,xs,k,j,rfl,rfl,hp,hj,q⟩:=h
 cases ro
 obtain ⟨t,rfl⟩:=ri
 obtain ⟨its,n,r,ho,hz⟩:=I.lst hp
 obtain ⟨h1,h2,h3,h4⟩:=n4 hj
 have hl:=r.length
 have hn:=wl
 have I':Inv X pins σ (upd H p (.lst (xs.set j v))) { s with heap:=s.heap.update p (Obj.mapSeq (·.setIfInBounds j u)) }:=
  I.lstUpd hp ho (o9 its n j u) (r.set rv j) (by rw [List.length_set]; exact hz) s.toks
 by_cases h0:0≤k
 ·have hk:k.toNat=j:=by
   rw [seqIndex_of h0 h4] at h1
   exact Option.some.inj h1
  exact PySem.W.ki_setAt ho h0 (by omega) (by rw [List.size_toArray,← hl]; exact h4) (by rw [hk]; exact ⟨_,I',q⟩)
 ·have hk:(k+(its.toArray.size:Int)).toNat=j:=by
   rw [seqIndex_neg (by omega) h3] at h1
   rw [List.size_toArray,← hl]
   exact Option.some.inj h1
  exact PySem.W.ki_setBack ho (by omega) (by rw [List.size_toArray,← hl]; exact h3) (by omega) (by rw [hk]; exact ⟨_,I',q⟩)
theorem rB (lo hi:Option Int) (n:Nat):(sliceBounds lo hi none n).1=((HT.sIx n 0 lo:Nat):Int)∧(sliceBounds lo hi none n).2.1=((HT.sIx n n hi:Nat):Int)∧(sliceBounds lo hi none n).2.2=1:=by
 refine ⟨?_,?_,rfl⟩
 ·cases lo with
  | none=>simp [sliceBounds,HT.sIx]
  | some i=>
   simp only [sliceBounds,HT.sIx,Option.getD_none,show (1:Int)>0 by decide,if_true]
   by_cases h:i<0
   ·simp only [h,if_true] <;> omega
   ·simp only [h,if_false] <;> omega
 ·cases hi with
  | none=>simp [sliceBounds,HT.sIx]
  | some i=>
   simp only [sliceBounds,HT.sIx,Option.getD_none,show (1:Int)>0 by decide,if_true]
   by_cases h:i<0
   ·simp only [h,if_true] <;> omega
   ·simp only [h,if_false] <;> omega
theorem sr (its:List Value) (lo hi:Option Int):slicePick its.toArray lo hi none=((its.drop (HT.sIx its.length 0 lo)).take (HT.sIx its.length its.length hi - HT.sIx its.length 0 lo)).toArray:=by
 obtain ⟨h1,h2,h3⟩:=rB lo hi its.toArray.size
 unfold slicePick
 rw [h1,h2,h3]
 simp only [sliceRange_one,pick_run,List.size_toArray] <;> rfl
def UK (K:PySem.W.Frag):V→Option Int→Option Int→Hp→VK→Prop:=fun x lo hi H Q=>∃ a xs,x=.ref a∧SqL K H a xs∧∀ p,H p=none→Q (.ref p) (upd H p (.lst (nD xs lo hi)))
theorem i0:SlR X (UK X.K):=by
 intro pins s σ H x v vl vu lo hi sl Q I rx hs pl pu h
 obtain ⟨a,xs,rfl,hx,q⟩:=h
 cases rx
 obtain ⟨its,r,ht,hz⟩:=I.list hx
 have hlen:=r.length
 refine ⟨"list",_,slot_list_getitem.lookup,ht.isList.typeIs,?_⟩
 refine wpAny_getItem_list_slice ht.isList hs pl pu .none (by simp) ?_ (by rw [List.size_toArray] <;> omega)
 rw [sr,← hlen]
 refine ⟨.ref s.heap.objs.size,_,I.laid (t':=s.toks) (o:=.lst (nD xs lo hi)) (fun b ob q=>Heap.get?_push_of_some _ q) (Nat.le_refl _) ?_,rfl,q _ (I.hok.fresh (Nat.le_refl _))⟩
 exact ⟨Nat.le_trans (p6 xs lo hi) hz,_,0,(r.drop (HT.sIx xs.length 0 lo)).take (HT.sIx xs.length xs.length hi - HT.sIx xs.length 0 lo),Heap.get?_push_size _ rfl⟩
def wn:V→Bool
 | .non=>true
 | .bl _=>true
 | .int _=>true
 | .str _=>true
 | _=>false
def eqV:V→V→Bool
 | .non,.non=>true
 | .bl a,.bl b=>a == b
 | .bl a,.int b=>(if a then 1 else 0) == b
 | .int a,.bl b=>a == (if b then 1 else 0)
 | .int a,.int b=>a == b
 | .str a,.str b=>a == b
 | _,_=>false
theorem nv {A:Around} {s:Shared} {y x:V} {u v:Value} (ry:RelV y u) (rx:RelV x v) (fy:wn y=true) (fx:wn x=true):SeqAt.EqAt A s u v (eqV y x):=by
 cases y with
 | non=>
  cases ry
  cases x with
  | non=>cases rx; exact SeqAt.EqAt.same _
  | bl b=>cases rx; exact SeqAt.EqAt.none_bool b
  | int b=>obtain ⟨t,rfl⟩:=rx; exact SeqAt.EqAt.none_int b t
  | str b=>obtain ⟨t,rfl⟩:=rx; exact SeqAt.EqAt.none_str b t
  | _=>exact absurd (show false=true from fx) Bool.false_ne_true
 | bl a=>
  cases ry
  cases x with
  | non=>cases rx; exact SeqAt.EqAt.bool_none a
  | bl b=>cases rx; exact SeqAt.EqAt.bool_bool a b
  | int b=>obtain ⟨t,rfl⟩:=rx; exact SeqAt.EqAt.bool_int a b t
  | str b=>obtain ⟨t,rfl⟩:=rx; exact SeqAt.EqAt.bool_str a b t
  | _=>exact absurd (show false=true from fx) Bool.false_ne_true
 | int a=>
  obtain ⟨t',rfl⟩:=ry
  cases x with
  | non=>cases rx; exact SeqAt.EqAt.int_none a t'
  | bl b=>cases rx; exact SeqAt.EqAt.int_bool a t' b
  | int b=>obtain ⟨t,rfl⟩:=rx; exact SeqAt.EqAt.int_int a t' b t
  | str b=>obtain ⟨t,rfl⟩:=rx; exact SeqAt.EqAt.int_str a t' b t
  | _=>exact absurd (show false=true from fx) Bool.false_ne_true
 | str a=>
  obtain ⟨t',rfl⟩:=ry
  cases x with
  | non=>cases rx; exact SeqAt.EqAt.str_none a t'
  | bl b=>cases rx; exact SeqAt.EqAt.str_bool a t' b
  | int b=>obtain ⟨t,rfl⟩:=rx; exact SeqAt.EqAt.str_int a t' b t
  | str b=>obtain ⟨t,rfl⟩:=rx; exact SeqAt.EqAt.str_str a t' b t
  | _=>exact absurd (show false=true from fx) Bool.false_ne_true
 | _=>exact absurd (show false=true from fy) Bool.false_ne_true
def eqU (x:V) (u:Value):Bool:=match u with
 | .none=>eqV .non x
 | .bool b=>eqV (.bl b) x
 | .int i _=>eqV (.int i) x
 | .str z _=>eqV (.str z) x
 | _=>false
theorem jX {x y:V} {u:Value} (r:RelV y u) (f:wn y=true):eqU x u=eqV y x:=by
 cases y with
 | non=>cases r; rfl
 | bl b=>cases r; rfl
 | int i=>obtain ⟨t,rfl⟩:=r; rfl
 | str z=>obtain ⟨t,rfl⟩:=r; rfl
 | _=>exact absurd (show false=true from f) Bool.false_ne_true
theorem qD {x:V}:∀ {xs:List V} {us:List Value},Vals xs us→xs.all wn=true→us.any (eqU x)=xs.any fun y=>eqV y x
 | _,_,.nil,_=>rfl
 | y::xs,u::us,.cons r t,f=>by
  rw [List.all_cons,Bool.and_eq_true] at f
  rw [List.any_cons,List.any_cons,jX r f.1,qD t f.2]
theorem tR {A:Around} {s:Shared} {x:V} {v:Value} (rx:RelV x v) (fx:wn x=true):∀ {xs:List V} {us:List Value},Vals xs us→xs.all wn=true→∀ u∈us,SeqAt.EqAt A s u v (eqU x u)
 | _,_,.nil,_=>fun u hu=>by cases hu
 | y::xs,u::us,.cons r t,f=>fun u' hu=>by
  rw [List.all_cons,Bool.and_eq_true] at f
  rcases List.mem_cons.mp hu with rfl | hu
  ·rw [jX r f.1]; exact nv r rx f.1 fx
  ·exact tR rx fx t f.2 u' hu
def inV (x:V) (xs:List V):Bool:=xs.any fun y=>eqV y x
def rIn (K:PySem.W.Frag) (neg:Bool):R2:=fun x y H Q=>∃ p xs,y=.ref p∧(SqL K H p xs∨SqT K H p xs)∧wn x=true∧xs.all wn=true∧Q (.bl (if neg then !inV x xs else inV x xs)) H
theorem lj:OpR X (compareOp .In) (rIn X.K false):=by
 intro pins s σ H x y v u Q I rx ry h
 obtain ⟨p,xs,rfl,hq,fx,fs,q⟩:=h
 cases ry
 rcases hq with hq | hq
 ·obtain ⟨its,r,pl,hz⟩:=I.list hq
  refine SeqAt.in_listAt (eqU x) pl.isList (fun w hw=>tR rx fx r fs w (by simpa using hw)) ⟨.bl _,H,I,rfl,?_⟩
  rw [show its.toArray.any (eqU x)=its.any (eqU x) by simp,qD r fs]
  exact q
 ·obtain ⟨its,r,pl,hz⟩:=I.tuple hq
  refine SeqAt.in_tupleAt (eqU x) pl (fun w hw=>tR rx fx r fs w (by simpa using hw)) ⟨.bl _,H,I,rfl,?_⟩
  rw [show its.toArray.any (eqU x)=its.any (eqU x) by simp,qD r fs]
  exact q
theorem vI:CallR X (.builtin "len") (fun xs H Q=>∃ p ys,xs=[.ref p]∧(SqL X.K H p ys∨SqT X.K H p ys)∧Q (.int ys.length) H):=by
 intro pins s σ H xs us Q I r h
 obtain ⟨p,ys,rfl,hq,q⟩:=h
 obtain ⟨u,rfl,rx⟩:=qR r
 cases rx
 have hn:=wl
 rcases hq with hq | hq
 ·obtain ⟨its,r',pl,hz⟩:=I.list hq
  have hlen:=r'.length
  exact Calls.call_len_list pl.isList (by simp only [List.size_toArray] <;> omega) ⟨.int ys.length,H,I.tok _,⟨s.toks + 1,by rw [List.size_toArray,hlen]⟩,q⟩
 ·obtain ⟨its,r',pl,hz⟩:=I.tuple hq
  have hlen:=r'.length
  exact len_tuple pl (by simp only [List.size_toArray] <;> omega) ⟨.int ys.length,H,I.tok _,⟨s.toks + 1,by rw [List.size_toArray,hlen]⟩,q⟩
theorem qz:CallR X (.builtin "len") (fun xs H Q=>∃ z,xs=[.str z]∧z.length≤sizeLine∧Q (.int z.length) H):=by
 intro pins s σ H xs us Q I r h
 obtain ⟨z,rfl,hz,q⟩:=h
 obtain ⟨u,rfl,t,rfl⟩:=qR r
 have hn:=wl
 exact len_str (by omega) ⟨.int z.length,H,I.tok _,⟨_,rfl⟩,q⟩
theorem CallR.or {f:Value} {r r':List V→Hp→VK→Prop} (h:CallR X f r) (h':CallR X f r'):CallR X f (fun xs H Q=>r xs H Q∨r' xs H Q):=by
 intro pins s σ H xs us Q I rs q
 rcases q with q | q
 ·exact h pins s σ H xs us Q I rs q
 ·exact h' pins s σ H xs us Q I rs q
theorem qy:CallR X (.type "list") (fun xs H Q=>∃ p ys,xs=[.ref p]∧(SqL X.K H p ys∨SqT X.K H p ys)∧∀ l,H l=none→Q (.ref l) (upd H l (.lst ys))):=by
 intro pins s σ H xs us Q I r h
 obtain ⟨p,ys,rfl,hq,q⟩:=h
 obtain ⟨u,rfl,rx⟩:=qR r
 cases rx
 have fin:∀ (its:List Value),Vals ys its→ys.length≤sizeLine→∀ (h':Heap) (c':Nat),(∀ b o',s.heap.get? b=some o'→h'.get? b=some o')→
   h'.get? s.heap.objs.size=some { cls:=.type "list",dict:=none,data:=.seq its.toArray c',slots:=#[] }→EP X pins σ Q (.ref s.heap.objs.size) { s with heap:=h' }:=fun its r' hz h' c' kp e=>
  ⟨.ref s.heap.objs.size,_,I.laid (t':=s.toks) kp (Nat.le_refl _) (show ObjOk X.prog X.w _ h' _ (.lst ys) from ⟨hz,its,c',r',e⟩),rfl,q _ (I.hok.fresh (Nat.le_refl _))⟩
 rcases hq with hq | hq
 ·obtain ⟨its,r',pl,hz⟩:=I.list hq
  have hlen:=r'.length
  obtain ⟨o,ho,hc,n,hd⟩:=pl.isList
  exact call_list_seq p (.inl rfl) ho hc hd (fun h' c' kp e=>fin its r' hz h' c' kp e) (by simp only [List.size_toArray] <;> omega)
 ·obtain ⟨its,r',pl,hz⟩:=I.tuple hq
  have hlen:=r'.length
  obtain ⟨o,ho,hc,n,hd⟩:=pl
  exact call_list_seq p (.inr rfl) ho hc hd (fun h' c' kp e=>fin its r' hz h' c' kp e) (by simp only [List.size_toArray] <;> omega)
def tyV (K:PySem.W.Frag) (T:String) (x:V) (H:Hp):Prop:=match x with
 | .str _=>T="str"
 | .int _=>T="int"
 | .ref p=>(T="list"∧∃ xs,SqL K H p xs)∨(T="tuple"∧∃ o,K.lookup p=some o∧o.cls=.type "tuple"∧o.dict=none)∨
   (T="dict"∧((∃ kvs,H p=some (.dK kvs))∨∃ kvs,H p=some (.dT kvs)))∨(T="set"∧∃ S n,H p=some (.set S n))
 | _=>False
theorem kb {pins:List (Addr × Obj)} {σ:St} {H:Hp} {s:Shared} {T:String} {x:V} {v:Value} (I:Inv X pins σ H s) (r:RelV x v) (ty:tyV X.K T x H):
  s.TypeIs v T∧∀ a,v=.ref a→∃ ob,s.heap.get? a=some ob∧ob.dict=none:=by
 cases x with
 | str z=>
  obtain ⟨t,rfl⟩:=r
  cases (show T="str" from ty)
  exact ⟨typeIs_str s z t,fun _ e=>nomatch e⟩
 | int i=>
  obtain ⟨t,rfl⟩:=r
  cases (show T="int" from ty)
  exact ⟨typeIs_int s i t,fun _ e=>nomatch e⟩
 | ref p=>
  cases r
  rcases ty with ⟨rfl,xs,hq⟩ | ⟨rfl,o,hk,hc,hd⟩ | ⟨rfl,hk⟩ | ⟨rfl,S,n,hk⟩
  ·obtain ⟨its,_,pl,_⟩:=I.list hq
   refine ⟨pl.isList.typeIs,fun a e=>?_⟩
   cases e
   obtain ⟨o,n,e,c,hd,_⟩:=pl
   exact ⟨o,e,hd⟩
  ·refine ⟨⟨o,I.kIn p o hk,hc⟩,fun a e=>?_⟩
   cases e
   exact ⟨o,I.kIn _ o hk,hd⟩
  ·have z:∃ o,s.heap.get? p=some o∧o.ExactDict:=by
    rcases hk with ⟨kvs,hk⟩ | ⟨kvs,hk⟩
    ·obtain ⟨_,_,_,_,o,_,_,e,ex,_⟩:=I.hok p _ hk
     exact ⟨o,e,ex⟩
    ·obtain ⟨_,_,_,_,o,_,_,e,ex,_⟩:=I.hok p _ hk
     exact ⟨o,e,ex⟩
   obtain ⟨o,e,ex⟩:=z
   refine ⟨⟨o,e,ex.1⟩,fun a e2=>?_⟩
   cases e2
   exact ⟨o,e,ex.2.1⟩
  ·obtain ⟨o,_,_,_,e,ex,_⟩:=I.hok p _ hk
   refine ⟨⟨o,e,ex.1⟩,fun a e2=>?_⟩
   cases e2
   exact ⟨o,e,ex.2.1⟩
 | _=>exact False.elim ty
def UH (K:PySem.W.Frag) (T:String) (r:V→List V→Hp→VK→Prop) (to:TE):TE:=fun σ H Q=>to σ H fun x H1=>tyV K T x H1∧r x [] H1 Q
def tBM (K:PySem.W.Frag) (T:String) (r:V→List V→Hp→VK→Prop) (to:TE) (t:TA):TE:=fun σ H Q=>to σ H fun x H1=>tyV K T x H1∧t σ H1 fun xs H2=>r x xs H2 Q
variable {o e:Expr} {es:List Expr} {to:TE} {t:TA} {name:Str} {apos cpos:Pos} {T id:String} {r:V→List V→Hp→VK→Prop}
theorem bK (pa:PlainAttrs T) (slot:Slot T name id) (hty:typeOf (.builtin id)=pure (.type "method_descriptor")) (hm:MtR X id r) (ho:PE X o to)
  (hbase:attributeBase o name X.env (eval o X.env)=eval o X.env:=by rfl) (hline:(apos.endLine == cpos.line)=true:=by rfl):PE X (.Call (.Attribute o name apos) [] [] cpos) (UH X.K T r to):=by
 intro pins s σ H Q I h
 refine wpAny_Call_method0_late hbase hline (thn (ho pins s σ H _ I h) fun v s1 ⟨x,H1,I1,r1,ty,q1⟩=>?_)
 obtain ⟨h1,h2⟩:=kb I1 r1 ty
 exact ⟨T,id,pa,slot,hty,h1,h2,Calls.callWith_builtin rfl (PySem.evalArgs_none (hm pins s1 σ H1 x [] v [] Q I1 r1 .nil q1))⟩
theorem nV (pa:PlainAttrs T) (slot:Slot T name id) (hty:typeOf (.builtin id)=pure (.type "method_descriptor")) (hm:MtR X id r) (ho:PE X o to) (ha:PA X (e::es) t)
  (hbase:attributeBase o name X.env (eval o X.env)=eval o X.env:=by rfl)
  (hfew:((backTo cpos (starEach (e::es) X.env)).all (fun x=>!x.1) && (backToKw cpos (keywordEach [] X.env)).all (fun x=>x.1.isSome)
   && decide ((e::es).length+([]:List Keyword).length+(if ([]:List Keyword).isEmpty then 0 else 1)<30))=true:=by rfl)
  (hline:(apos.endLine == cpos.line)=true:=by rfl) (hs:starEach (e::es) X.env=(false,eval e X.env)::starEach es X.env:=by rfl) (hplain:(backTo cpos (starEach es X.env)).any (·.1)=false:=by rfl):
  PE X (.Call (.Attribute o name apos) (e::es) [] cpos) (tBM X.K T r to t):=by
 intro pins s σ H Q I h
 refine wpAny_Call_method_late hbase hfew hline rfl (thn (ho pins s σ H _ I h) fun v s1 ⟨x,H1,I1,r1,ty,q1⟩=>?_)
 obtain ⟨h1,h2⟩:=kb I1 r1 ty
 refine ⟨T,id,pa,slot,hty,h1,h2,?_⟩
 have hA:=ha cpos pins s1 σ H1 _ I1 q1
 rw [hs] at hA ⊢
 refine Calls.callWith_builtin (by show (false || (backTo cpos (starEach es X.env)).any (·.1))=false; rw [hplain] <;> rfl) (Calls.evalArgs_plain ?_)
 exact thn hA fun us s2 ⟨vs,H2,I2,r2,q2⟩=>hm pins s2 σ H2 x vs v us Q I2 r1 r2 q2
end
end L2
namespace L2
open PySem PySem.Spec PyProof.Rows
def MtM (X:Cx) (id:String) (r:V→List V→Hp→VK→Prop):Prop:=
 ∀ (pins:List (Addr × Obj)) (s:Shared) (σ:St) (H:Hp) (x:V) (xs:List V) (v:Value) (us:List Value) (Q:VK),Inv X pins σ H s→RelV x v→Vals xs us→r x xs H Q→
  wpAny (model X.prog X.w) X.A (call (.builtin id) (v::us)) (EP X pins σ Q) X.xe s
theorem Vals.one:∀ {x:V} {us:List Value},Vals [x] us→∃ u,us=[u]∧RelV x u
 | _,_,.cons r .nil=>⟨_,rfl,r⟩
theorem Vals.two:∀ {x y:V} {us:List Value},Vals [x,y] us→∃ u v,us=[u,v]∧RelV x u∧RelV y v
 | _,_,_,.cons r (.cons q .nil)=>⟨_,_,rfl,r,q⟩
theorem Vals.zero:∀ {us:List Value},Vals [] us→us=[]
 | _,.nil=>rfl
theorem Vals.dropLast {xs:List V} {us:List Value} (h:Vals xs us):Vals xs.dropLast us.dropLast:=by
 induction h with
 | nil=>exact .nil
 | cons r t ih=>
  cases t with
  | nil=>exact .nil
  | cons q t'=>exact .cons r ih
theorem Vals.eraseIdx:∀ {xs:List V} {us:List Value} (i:Nat),Vals xs us→Vals (xs.eraseIdx i) (us.eraseIdx i)
 | _,_,_,.nil=>.nil
 | _,_,0,.cons _ t=>t
 | _,_,i+1,.cons r t=>.cons r (Vals.eraseIdx i t)
theorem Vals.reverse {xs:List V} {us:List Value} (h:Vals xs us):Vals xs.reverse us.reverse:=by
 induction h with
 | nil=>exact .nil
 | cons r t ih=>rw [List.reverse_cons,List.reverse_cons]; exact Vals.append ih (.cons r .nil)
theorem nt {α:Type} (l:List α):l.eraseIdx (l.length - 1)=l.dropLast:=by
 induction l with
 | nil=>rfl
 | cons a r ih=>
  cases r with
  | nil=>rfl
  | cons b r=>
   have e:(a::b::r).length - 1=((b::r).length - 1)+1:=by
    have h1:(a::b::r).length=r.length+2:=rfl
    have h2:(b::r).length=r.length+1:=rfl
    omega
   rw [e,List.eraseIdx_cons_succ,ih]
   all_goals rfl
section
variable {X:Cx} {pins:List (Addr × Obj)} {σ:St} {H:Hp} {s:Shared} {l b:Addr} {xs ys zs:List V}
theorem Inv.lset {its its':List Value} {n:Nat} {f:Array Value→Array Value} {t':Nat} (I:Inv X pins σ H s) (hH:H l=some (.lst xs))
  (e:s.heap.get? l=some { cls:=.type "list",data:=.seq its.toArray n }) (hf:f its.toArray=its'.toArray) (hv:Vals ys its') (hz:ys.length≤sizeLine):
  Inv X pins σ (upd H l (.lst ys)) { s with heap:=s.heap.update l (Obj.mapSeq f),toks:=t' }:=by
 have q:=PySem.IsL.update e f
 rw [hf] at q
 refine I.write (x:=l) (e:=l) (by rw [hH]; exact trivial) (.inl rfl) (fun b' u hb hu=>(Heap.get?_update_other s.heap (Obj.mapSeq f) (Ne.symm hb)).trans hu) ⟨_,q⟩ ?_
 exact ⟨hz,its',_,hv,q⟩
theorem Inv.lnew {its:List Value} {t':Nat} (I:Inv X pins σ H s) (hv:Vals ys its) (hz:ys.length≤sizeLine):
  Inv X pins σ (upd H s.heap.objs.size (.lst ys)) { s with heap:=s.heap.push { cls:=.type "list",data:=.seq its.toArray },toks:=t' }:=
 I.laid (fun _ _ q=>Heap.get?_push_of_some _ q) (Nat.le_refl _) ⟨hz,its,0,hv,Heap.get?_push_size _ rfl⟩
theorem Inv.fresh (I:Inv X pins σ H s):H s.heap.objs.size=none:=I.hok.fresh (Nat.le_refl _)
theorem Inv.lstM (I:Inv X pins σ H s) (hH:H l=some (.lst xs)):xs.length≤sizeLine∧∃ (its:List Value) (n:Nat),Vals xs its∧xs.length=its.length∧s.heap.get? l=some { cls:=.type "list",data:=.seq its.toArray n }:=by
 obtain ⟨z,its,n,r,e⟩:=I.hok l _ hH
 exact ⟨z,its,n,r,r.length,e⟩
end
section
variable {X:Cx}
def gb:V→List V→Hp→VK→Prop:=fun x vs H Q=>∃ l xs y,x=.ref l∧vs=[y]∧H l=some (.lst xs)∧xs.length<sizeLine∧Q .non (upd H l (.lst (xs++[y])))
theorem sV:MtM X "list.append" gb:=by
 intro pins s σ H x vs v us Q I rx rv h
 obtain ⟨l,xs,y,rfl,rfl,hH,hz,q⟩:=h
 cases rx
 obtain ⟨u,rfl,ru⟩:=rv.one
 obtain ⟨z,its,n,r,hl,e⟩:=I.lstM hH
 refine call_meets F.slot_list_append ⟨_,e,rfl⟩ F.entry_list_append (F.args_list_append_2 _ _) (PySem.list_append l its.toArray n u (by rw [List.size_toArray]; omega)) ⟨e,?_⟩
 refine ⟨.non,_,I.lset (its':=its++[u]) hH e (by simp) (r.append (.cons ru .nil)) ?_,rfl,q⟩
 rw [List.length_append,List.length_singleton]
 omega
def UL:V→List V→Hp→VK→Prop:=fun x vs H Q=>∃ l xs y,x=.ref l∧vs=[]∧H l=some (.lst xs)∧xs[xs.length - 1]? = some y∧Q y (upd H l (.lst xs.dropLast))
theorem Xm:MtM X "list.pop" UL:=by
 intro pins s σ H x vs v us Q I rx rv h
 obtain ⟨l,xs,y,rfl,rfl,hH,hy,q⟩:=h
 cases rx
 have hus:=rv.zero
 subst hus
 obtain ⟨z,its,n,r,hl,e⟩:=I.lstM hH
 obtain ⟨u,hu,ru⟩:=r.get hy
 have hy':its.toArray[its.toArray.size - 1]? = some u:=by
  show its.toArray[its.length - 1]? = some u
  rw [← Array.getElem?_toList,← hl]
  exact hu
 refine call_meets F.slot_list_pop ⟨_,e,rfl⟩ F.entry_list_pop (F.args_list_pop_1 _) (MeetsSeq.list_pop_last l its.toArray n u hy' (by rw [List.size_toArray]; omega)) ⟨e,?_⟩
 refine ⟨y,_,I.lset (its':=its.dropLast) hH e ?_ r.dropLast ?_,ru,q⟩
 ·show its.toArray.eraseIdxIfInBounds (its.toArray.size - 1)=its.dropLast.toArray
  rw [List.size_toArray,List.eraseIdxIfInBounds_toArray,nt]
 ·rw [List.length_dropLast]
  omega
end
section
variable {prog:Program} {w:World} {A:Around} {E:Value→Shared→Prop} {s:Shared}
set_option maxRecDepth 100000 in
end
section
variable {X:Cx}
end
end L2
namespace Att
open PySem PySem.W PySem.Calls PyProof.Rows
theorem uW {P:Params} {h:Heap}:∀ (ns:List Int) (vs:List Value),WellAll P h vs (ns.map WData.int)→IntsAre vs ns:=by
 intro ns
 induction ns with
 | nil=>
  intro vs w
  rw [List.map_nil] at w
  cases w
  exact .nil
 | cons n ns ih=>
  intro vs w
  rw [List.map_cons] at w
  cases w with
  | cons a b=>
   cases a
   exact .cons _ _ (ih _ b)
theorem mZ {l:OpenLaw} {n:Nat} (hn:l.most=some n) {P:Params} {h:Heap} {args:List WData} {vals:List Value}
  (hpre:l.row.toRowW.claim.pre args=true) (hwl:WellAll P h vals args):
  ∃ a vs ns,vals=[Value.ref a]∧args=[WData.list (ns.map WData.int)]∧h.get? a=some { cls:=.type "list",data:=.seq vs.toArray }∧IntsAre vs ns∧ns.length≤n:=by
 have hsh:WShape.hasAll [] args [.list .int]=true:=(pre_splitW hpre).1
 have hc:l.pre.holds [] { args:=args }=true:=(pre_splitW hpre).2
 obtain ⟨d,r,rfl,h1,h2⟩:=hasAllW_cons hsh
 obtain rfl:=hasAllW_nil h2
 obtain ⟨xs,rfl,h3⟩:=hasW_list h1
 obtain ⟨ns,rfl⟩:=items_int h3
 have hlen:ns.length≤n:=by
  unfold OpenLaw.pre at hc
  have h4:(WTm.not (.lt (.lit (.int (n:Int))) (.len (.arg 0)))).holds [] { args:=[.list (ns.map .int)] }=true:=by
   have h4:=(holds_andW hc).1
   rw [hn] at h4
   exact h4
  have h5:=condW_of h4 (w_not (w_lt w_lit (w_len_list (w_arg rfl))))
  rw [List.length_map] at h5
  refine Nat.le_of_not_lt fun q=>?_
  have q':(n:Int)<((ns.length:Nat):Int):=by omega
  first
   | (rw [decide_eq_true q'] at h5; exact absurd h5 (by decide))
   | (simp at h5; omega)
 cases hwl with
 | cons w1 w2=>
  cases w2
  cases w1 with
  | list ho hall=>exact ⟨_,_,ns,rfl,rfl,ho,uW ns _ hall,hlen⟩
theorem m_ (l:OpenLaw) (args:List WData):l.row.toRowW.claim.post args (.bool true) args=true:=
 postW_of (r:=l.row.toRowW) (X:=(true == true))
  (show WShape.has [] (.bool true) .bool=true by first | rfl | decide | simp [WShape.has,WShape.arms,WShape.armsAll])
  (show (WTm.eq .res (.lit (.bool true))).value [] { args:=args,res:=some (.bool true),after:=args }=some (.bool (true == true)) from w_eq_bool (w_res rfl) w_lit) rfl
theorem attach_call {l:OpenLaw} {n:Nat} {q:Program} {loose:List Str} {XP:(Str→Option Value)→Heap→Prop} {YP:World→Heap→Prop} {d:DefRec}
  (hn:l.most=some n) (hdf:d.params.defaults=[])
  (call:∀ (w:World) (s₀ s₁:Shared) (mg mb:Str→Option Value) (fa:Addr) (o:Obj) (pm cd doc:Value) (a:Addr) (vs:List Value) (ns:List Int),
   Ground q loose [] XP w s₀ mg mb s₁.heap→YP w s₁.heap→
   s₁.heap.get? fa=some o→o.data=.func (docDef d.name d.params d.body d.scope pm cd doc)→s₁.heap.CodeRec cd d.name→mg d.name=some (.ref fa)→
   s₁.heap.get? a=some { cls:=.type "list",data:=.seq vs.toArray }→IntsAre vs ns→ns.length≤n→s₁.gens=#[]→
   codeAny (model l.prog w) callerA (.call (.ref fa) ⟨[.ref a],[]⟩) (fun r s'=>r=.ok (.ret (.bool true))∧OldK s₁.heap s'.heap∧s'.os=s₁.os∧AllBare s'.gens) s₁):
  WalkO q loose XP YP l.row.toRowW d [] (fun f vs=>PySem.call f vs):=by
 intro w s₀ s₁ mg mb G Y fa o pm cd doc dV kV ho hd hcd hD hmg hg args vals as hpre hlay hrd hwl hlo
 obtain rfl:dV=.none:=Dflts.none hD hdf
 obtain rfl:kV=.none:=Dflts.noKw hD
 obtain ⟨a,vs,ns,rfl,rfl,hobj,hints,hlen⟩:=mZ hn hpre hwl
 refine enter_call (codeAny_mono (call w s₀ s₁ mg mb fa o pm cd doc a vs ns G Y ho (fd_plain hd) hcd hmg hobj hints hlen hg) fun r s' hq=>?_)
 obtain ⟨rfl,h2,h3,h4⟩:=hq
 exact ⟨.inl ⟨.bool true,.bool true,[],rfl,fun _=>rfl,.bool true,m_ l _,fun _=>⟨List.Pairwise.nil,fun _ hm=>(nomatch hm)⟩⟩,h2,h3,h4⟩
section
variable {prog:Program} {w:World} {A:Around} {E:Value→Shared→Prop} {s:Shared} {K:Frag}
def UU (h:Heap) (L d:Addr):List (Addr × Obj):=(List.range h.objs.size).filterMap fun a=>if a=L∨a=d then none else (h.get? a).map fun o=>(a,o)
end
end Att
namespace L2
open PySem PySem.Spec PyProof.Rows
theorem sQ:∀ {vs:List Value} {ns:List Int},IntsAre vs ns→Vals (ns.map V.int) vs
 | _,_,.nil=>.nil
 | _,_,.cons n t h=>.cons ⟨t,rfl⟩ (sQ h)
def X1 (H:Hp):Prop:=∀ b,H b=none∨∃ o xs,H b=some (.frz o (.lst xs))
theorem jL {P:Program} {w:World} {K:PySem.W.Frag} {mg mb:Str→Option Value} {CX:CXT} {k:Nat} {fa a:Addr} {fd:FuncData} {x:Str} {sp:Sp} {s₁:Shared} {vs:List Value} {ns:List Int}
  (KX:K.In s₁.heap) (hns:s₁.heap.Ns mainGlobals mg) (hb:s₁.heap.Ns builtinsNs mb) (hbb:∀ x:Str,x≠"__name__"→mb x=bootBuiltins x) (hlim:s₁.heap.NoLimit) (hg:s₁.gens=#[])
  (ha:s₁.heap.get? a=some { cls:=.type "list",data:=.seq vs.toArray }) (hi:IntsAre vs ns) (hl:ns.length≤sizeLine) (hr:Room k callerA)
  (F:∀ base:Heap,K.In base→base.Ns mainGlobals mg→FnOk P w K mg base CX k fa fd [x] sp) (hbind:∀ (s:Shared) (u:Value),BindsTo s fd ⟨[u],[]⟩ [(x,u)])
  (hsp:∀ H:Hp,X1 H→SqL K H a (ns.map V.int)→sp [.ref a] H (fun v _=>v=.bl true) fun _ _ _=>False)
  (hCX:∀ H e s',CX [] H s₁ (fun _ _ _=>False) e s'→False):
  codeAny (model P w) callerA (.call (.ref fa) ⟨[.ref a],[]⟩) (fun r s'=>r=.ok (.ret (.bool true))∧OldK s₁.heap s'.heap∧s'.os=s₁.os∧AllBare s'.gens) s₁:=by
 have rv:=sQ hi
 have lenV:=hi.length
 have core:∀ H:Hp,X1 H→SqL K H a (ns.map V.int)→HOk P w H s₁.heap→(∀ b,H b≠none→b=a)→(H a≠none→K.lookup a=none)→
   codeAny (model P w) callerA (.call (.ref fa) ⟨[.ref a],[]⟩) (fun r s'=>r=.ok (.ret (.bool true))∧OldK s₁.heap s'.heap∧s'.os=s₁.os∧AllBare s'.gens) s₁:=by
  intro H hO hS hok hA hK
  have base_of:∀ {b:Addr} {o:Obj},s₁.heap.get? b=some o→H b=none→(qj s₁.heap H).get? b=some o:=fun e n=>jO e n
  have noA:∀ {b:Addr} {o:Obj} {es:Array DictEntry} {ep:Nat},s₁.heap.get? b=some o→o.data=.dict es ep→H b=none:=fun {b o es ep} e d=>by
   cases q:H b with
   | none=>rfl
   | some u=>
    have e':b=a:=hA b (by rw [q]; simp)
    subst e'
    rw [ha] at e; cases e
    have d':Data.seq vs.toArray _=Data.dict es ep:=d
    cases d'
  have nsK:∀ {b:Addr} {m:Str→Option Value},s₁.heap.Ns b m→(qj s₁.heap H).Ns b m:=fun {b m} ⟨o,es,ep,e,d,r⟩=>⟨o,es,ep,base_of e (noA e d),d,r⟩
  have hKb:K.In (qj s₁.heap H):=fun b o e=>base_of (KX b o e) (by
   cases q:H b with
   | none=>rfl
   | some u=>
    have e':b=a:=hA b (by rw [q]; simp)
    subst e'
    rw [hK (by rw [q]; simp)] at e; cases e)
  have hM:Mod K mg (qj s₁.heap H):=⟨hKb,nsK hns,⟨mb,nsK hb,hbb⟩,let ⟨mc,h1,h2⟩:=hlim; ⟨mc,nsK h1,h2⟩⟩
  have e0:Env0 P w K mg (qj s₁.heap H) callerA [] s₁ H:=⟨rfl,hM,fun b o e=>gv e,Nat.le_of_eq (lF _ _),trivial,fun b hb=>absurd (show b∈([]:List Addr) from hb) (by simp),hok,.of_eq hg⟩
  refine codeAny_mono ((F _ hKb (nsK hns)).run callerA [] s₁ H ⟨[.ref a],[]⟩ [.ref a] [.ref a] _ _ hr e0 (hbind s₁ (.ref a)) (.cons rfl .nil) (hsp H hO hS)) fun r s' h=>?_
  cases r with
  | error e=>exact (hCX H e s' h).elim
  | ok fl=>
   cases fl with
   | next=>exact False.elim h
   | brk=>exact False.elim h
   | cont=>exact False.elim h
   | ret u=>
    obtain ⟨v,H',os,bare,un,hok',r',q⟩:=h
    have q':v=.bl true:=q
    subst q'
    obtain rfl:u=Value.bool true:=r'
    refine ⟨rfl,OldK.of_keep fun b o e=>?_,os,bare⟩
    cases q:H b with
    | none=>exact un.keep b o e q (by intro z; exact absurd (show b∈([]:List Addr) from z) (by simp)) (by simp)
    | some u=>
     rcases hO b with z | ⟨ob,xs,z⟩
     ·rw [q] at z; cases z
     ·have z2:=un.frzs b ob _ z
      obtain ⟨e1,_⟩:=hok b _ z
      obtain ⟨e2,_⟩:=hok' b _ z2
      rw [e] at e1; cases e1
      exact e2
 cases hk:K.lookup a with
 | some o=>
  have e:=KX a o hk
  rw [ha] at e
  cases e
  refine core (fun _=>none) (fun _=>.inl rfl) (.inr ⟨_,vs.toArray,_,hk,rfl,rfl,rfl,by rw [List.size_toArray,lenV]; exact hl,by simpa using rv⟩) (fun b u z=>by have z':(none:Option HO)=some u:=z; cases z') (fun b z=>absurd rfl z) fun z=>absurd rfl z
 | none=>
  refine core (fun b=>if b=a then some (.frz { cls:=.type "list",data:=.seq vs.toArray } (.lst (ns.map V.int))) else none) (fun b=>?_) (.inl (.inr ⟨{ cls:=.type "list",data:=.seq vs.toArray },if_pos rfl⟩)) (fun b u z=>?_) (fun b z=>?_) fun _=>hk
  ·by_cases hb:b=a
   ·exact .inr ⟨_,_,if_pos hb⟩
   ·exact .inl (if_neg hb)
  ·by_cases hb:b=a
   ·have z':=(if_pos hb).symm.trans z
    cases z'
    subst hb
    exact ⟨ha,by rw [List.length_map]; exact hl,vs,_,rv,ha⟩
   ·have z':=(if_neg hb).symm.trans z
    cases z'
  ·by_cases hb:b=a
   ·exact hb
   ·exact absurd (if_neg hb) z
end L2
namespace L2
open PySem PySem.Spec PyProof.Rows
abbrev KOf {K:PySem.W.Frag} {h:Heap} (_:K.In h):PySem.W.Frag:=K
theorem walk_of {l:PySem.W.OpenLaw} {n k:Nat} {q:Program} {loose:List Str} {XP:(Str→Option Value)→Heap→Prop} {YP:World→Heap→Prop} {d:DefRec} {K:Params→PySem.W.Frag} {CX:World→CXT} {sp:World→Sp} {x:Str}
  (hn:l.most=some n) (hn2:n≤sizeLine) (hdf:d.params.defaults=[]) (hr:Room k callerA)
  (hY:∀ (w:World) (h:Heap),YP w h→(K w.params).In h)
  (F:∀ (w:World) (mg:Str→Option Value) (fa:Addr) (h:Heap),(K w.params).In h→h.Ns mainGlobals mg→mg d.name=some (.ref fa)→
   ∃ fd:FuncData,(∀ (s:Shared) (u:Value),BindsTo s fd ⟨[u],[]⟩ [(x,u)])∧
    ∀ base:Heap,(K w.params).In base→base.Ns mainGlobals mg→FnOk l.prog w (K w.params) mg base (CX w) k fa fd [x] (sp w))
  (hsp:∀ (w:World) (H:Hp) (a:Addr) (ns:List Int),ns.length≤n→X1 H→SqL (K w.params) H a (ns.map V.int)→sp w [.ref a] H (fun v _=>v=.bl true) fun _ _ _=>False)
  (hCX:∀ (w:World) (H:Hp) (s:Shared) (e:Value) (s':Shared),CX w [] H s (fun _ _ _=>False) e s'→False):
  PySem.W.WalkO q loose XP YP l.row.toRowW d [] (fun f vs=>PySem.call f vs):=by
 refine Att.attach_call hn hdf fun w s₀ s₁ mg mb fa o pm cd doc a vs ns G Y ho hd hcd hmg hobj hints hlen hg=>?_
 have KX:=hY w _ Y
 obtain ⟨fd,hb,hF⟩:=F w mg fa _ KX G.T.g hmg
 exact jL KX G.T.g G.T.b G.T.builtins G.T.nolimit hg hobj hints (Nat.le_trans hlen hn2) hr hF hb (fun H hO hS=>hsp w H a ns hlen hO hS) fun H e s'=>hCX w H s₁ e s'
end L2
namespace L2
open PySem PySem.Spec PyProof.Rows
def inClass (s:Stmt) (j:Nat):Stmt:=match s with
 | .ClassDef _ _ _ body _ _ _ _ _ _ _=>body.getD j (.Pass ⟨0,0,0,0⟩)
 | _=>.Pass ⟨0,0,0,0⟩
def defArgs (s:Stmt):Arguments:=match s with
 | .FunctionDef _ a _ _ _ _ _ _ _ _=>a
 | _=>{ posonlyargs:=[],args:=[],vararg:=none,kwonlyargs:=[],kw_defaults:=[],kwarg:=none,defaults:=[] }
def defBody (s:Stmt):List Stmt:=match s with
 | .FunctionDef _ _ b _ _ _ _ _ _ _=>b
 | _=>[]
def defScope (s:Stmt):Scope:=match s with
 | .FunctionDef _ _ _ _ _ _ sc _ _ _=>sc
 | _=>{ kind:=.function,names:=[],isGenerator:=false,isCoroutine:=false }
abbrev CX0:CXT:=fun _ _ _ _ _ _=>False
abbrev E0:XK:=fun _ _ _=>False
theorem pD {X:Cx}:uw CX0 X E0:=fun _ _ _ _ _ _ _ h=>h.elim
structure Fun (K:PySem.W.Frag) (x qual:Str) (st:Stmt) (f:Addr) (fd:FuncData):Prop where
 ex:∃ (oc:Value) (od:Option Addr) (kV doc pm:Value) (an:Option Addr) (cdv ct:Value) (osl:Array (Option Value)),
  fd=PySem.W.fnOf x qual (defArgs st) (defBody st) (defScope st) .none kV doc pm an cdv ct∧K.lookup f=some ⟨oc,od,.func fd,osl⟩∧PySem.W.codeIn K cdv qual=true
 kp:PySem.W.keepIn K (.ref f)=true
section
variable {P:Program} {w:World} {K:PySem.W.Frag} {mg:Str→Option Value} {base:Heap}
theorem Fun.ok {x qual:Str} {st:Stmt} {f:Addr} {fd:FuncData} {N ps:List Str} {k:Nat} {sp:Sp} (F:Fun K x qual st f fd) (S:zh N ps (defScope st)) (len:∀ vs H Q E,sp vs H Q E→vs.length=ps.length)
  (hbody:∀ (cdv:Value) (A:Around) (outer:List Env) (s:Shared) (H:Hp) (vs:List V) (Q:VK) (E:XK),Room k (A.deeper (envOfC qual (defScope st) s.heap.objs.size f cdv))→sp vs H Q E→
   ∃ t,PSs (yV CX0 P w K mg base N qual (defScope st) f cdv A outer s H E).nox (defBody st) t∧t { nx:=fun _ H'=>Q .non H',rt:=Q } (start N vs) H):FnOk P w K mg base CX0 (k+1) f fd ps sp:=by
 obtain ⟨oc,od,kV,doc,pm,an,cdv,ct,osl,rfl,lk,hcd⟩:=F.ex
 refine cK lk hcd S len fun A outer s H vs Q E hr hsp=>?_
 obtain ⟨t,h,q⟩:=hbody cdv A outer s H vs Q E hr hsp
 exact ⟨t,h.nox,q⟩
theorem Fun.binds {x qual:Str} {st:Stmt} {f:Addr} {fd:FuncData} {ps:List Str} (F:Fun K x qual st f fd)
  (h:∀ (kV doc pm:Value) (an:Option Addr) (cdv ct:Value) (us:List Value),us.length=ps.length→bindArgs (PySem.W.fnOf x qual (defArgs st) (defBody st) (defScope st) .none kV doc pm an cdv ct) ⟨us,[]⟩=pure (ps.zip us)):Binds K fd ps []:=by
 obtain ⟨oc,od,kV,doc,pm,an,cdv,ct,osl,rfl,lk,hcd⟩:=F.ex
 exact .all (h kV doc pm an cdv ct)
theorem nr {x qual:Str} {st:Stmt} {f:Addr} {oc:Value} {od an:Option Addr} {osl:Array (Option Value)} {kV doc pm cdv ct:Value} (l:K.lookup f=some ⟨oc,od,.func (PySem.W.fnOf x qual (defArgs st) (defBody st) (defScope st) .none kV doc pm an cdv ct),osl⟩)
  (c:PySem.W.codeIn K cdv qual=true) (k:PySem.W.keepIn K (.ref f)=true):Fun K x qual st f (PySem.W.fnOf x qual (defArgs st) (defBody st) (defScope st) .none kV doc pm an cdv ct):=⟨⟨oc,od,kV,doc,pm,an,cdv,ct,osl,rfl,l,c⟩,k⟩
end
section
variable {X:Cx}
theorem pv (i:Nat) {x:Str} {pos:Pos} (hN:X.N[i]? = some x:=by rfl) (hv:Vis X.env.scope x:=by first | exact Or.inl rfl | exact Or.inr (Or.inl rfl) | exact Or.inr (Or.inr rfl)) (hd:(x == ("__debug__":Str))=false:=by decide)
  (hcd:(x == ("__classdict__":Str))=false:=by decide):PE X (.Name x pos) (iY i):=xu hN hv hd hcd
end
theorem UY {A B:Prop} (h:B):if false=true then A else B:=by
 rw [if_neg Bool.false_ne_true]
 exact h
theorem UX {A B:Prop} (h:A):if true=true then A else B:=by
 rw [if_pos rfl]
 exact h
theorem VJ {c A B:Prop} [Decidable c] (h1:c→A) (h2:¬ c→B):if c then A else B:=by
 by_cases h:c
 ·rw [if_pos h]
  exact h1 h
 ·rw [if_neg h]
  exact h2 h
def Same (H H':Hp):Prop:=∀ b o,H b=some o→H' b=some o
theorem Same.refl (H:Hp):Same H H:=fun _ _ h=>h
theorem Same.trans {H H1 H2:Hp} (a:Same H H1) (b:Same H1 H2):Same H H2:=fun c o h=>b c o (a c o h)
theorem Same.free {H H':Hp} (e:Same H H') {l:Addr} (h:H' l=Option.none):H l=Option.none:=by
 cases q:H l with
 | none=>rfl
 | some o=>
  rw [e l o q] at h
  cases h
theorem Same.seq {K:PySem.W.Frag} {H H':Hp} {a:Addr} {xs:List V} (e:Same H H') (h:SqL K H a xs):SqL K H' a xs:=by
 rcases h with (h | ⟨o,h⟩) | h
 ·exact .inl (.inl (e _ _ h))
 ·exact .inl (.inr ⟨o,e _ _ h⟩)
 ·exact .inr h
end L2
set_option maxRecDepth 1000000
set_option maxHeartbeats 0
open PySem in
def My.top (i:Nat):Stmt:=PySem.Challenge.pw_oddbases_k67_whole_order.main.body.getD i (.Pass ⟨0,0,0,0⟩)
noncomputable section
open PySem My
namespace My
abbrev v_:Option Value:=some (.ref 6)
abbrev g_:Array GenState:=⟨[]⟩
abbrev d_:=@Drawn.mk 0 0 0 0
abbrev P_:=@Pos.mk
abbrev N_ (o:Params→Obj) (a b:Params→W.BT) (x:Params):W.BT:=.node (o x) (a x) (b x)
abbrev Z_ (_:Params):W.BT:=.nil
abbrev L_ (o:Params→Obj):=N_ o Z_ Z_
theorem sg_ {tb p w n₀ ann b} {n:Nat} {s s':W.SharedT} {t:Thread} {f:Flow} {c:Code} {q:Pos} (h:W.segRunT tb p w n₀ ann b n s t=some (f,s',c,q)):W.segRun tb p w n₀ ann b n s.abs t=some (f,s'.abs,c,q):=W.segRun_of h
abbrev p_ (a:String) (b:Nat):Value:=.str (.ofString a) b
abbrev j_ (a:Int) (b:Nat):Value:=.int a b
abbrev r_ (a:Nat):Value:=.ref a
abbrev e_ (x:Params) (a:String) (b:Nat) (v:Value):DictEntry:=⟨PyData.keyHash x (.ofString a),.str (.ofString a) b,v⟩
abbrev t0 (a1:String) (a3:Nat) (a7:String) (a8 a9:Nat) (x:Params):Obj:=(@Obj.mk (.type "function") none (@Data.func (@FuncData.mk (.ofString a1) (.ofString a1) (L2.defArgs (My.top a3)) (@FuncBody.stmts (L2.defBody (My.top a3))) (L2.defScope (My.top a3)) 3 (@List.nil (@Prod @Str @Nat)) .none .none .none (p_ a7 a8) none (r_ a9) .none 0)) #[])
abbrev t1 (a1:String) (a2 a4 a6:Nat) (a7 a9:Int) (a17 a20 a21:Nat) (a22:Int) (a27:Nat) (x:Params):Obj:=(@Obj.mk (.type "code") none (@Data.fields (List.toArray [(p_ a1 a2),(p_ a1 a4),(p_ "/claim/cut.py" a6),(j_ a7 0),(j_ a9 0),(j_ 0 0),(j_ 0 0),(j_ 3 0),(r_ a17),(.bool @Bool.true),(j_ 181 0),(r_ a20),.none,.none,.none,(r_ a21),(j_ a22 0),(j_ a7 0),(p_ "/claim/cut.py" a27)])) #[])
abbrev t2 (a0:String) (a2:Nat) (x:Params):Obj:=(@Obj.mk .none none (@Data.func (@FuncData.mk (.ofString a0) (.ofString a0) (L2.defArgs (My.top a2)) (@FuncBody.stmts (L2.defBody (My.top a2))) (L2.defScope (My.top a2)) 0 (@List.nil (@Prod @Str @Nat)) .none .none .none .none none .none .none 0)) #[])
abbrev t3 (x:Params):Obj:=(@Obj.mk .none none (@Data.fields #[]) #[])
abbrev t4 (x:Params):Obj:=(@Obj.mk (.type "tuple") none (@Data.seq #[] 0) #[])
abbrev t5 (a1:String) (a2:Nat) (a3:String) (a4 a6:Nat) (a7 a9:Int) (a17 a20 a21 a22 a23:Nat) (a24:Int) (a29:Nat) (x:Params):Obj:=(@Obj.mk (.type "code") none (@Data.fields (List.toArray [(p_ a1 a2),(p_ a3 a4),(p_ "/claim/cut.py" a6),(j_ a7 0),(j_ a9 0),(j_ 0 0),(j_ 0 0),(j_ 3 0),(r_ a17),(.bool @Bool.true),(j_ 181 0),(r_ a20),.none,(r_ a21),(r_ a22),(r_ a23),(j_ a24 0),(j_ a7 0),(p_ "/claim/cut.py" a29)])) #[])
abbrev t6 (a1:String) (a2:Nat) (a3:String) (a4:Nat) (a5:String) (a6:Nat) (a7:String) (a8:Nat) (a9:String) (a10:Nat) (x:Params):Obj:=(@Obj.mk (.type "tuple") none (@Data.seq (List.toArray [(p_ a1 a2),(p_ a3 a4),(p_ a5 a6),(p_ a7 a8),(p_ a9 a10)]) 0) #[])
abbrev t7 (a1:String) (a2:Nat) (a3:String) (a4:Nat) (x:Params):Obj:=(@Obj.mk (.type "tuple") none (@Data.seq (List.toArray [(p_ a1 a2),(p_ a3 a4)]) 0) #[])
abbrev t8 (a1:String) (a2:Nat) (a3:String) (a4:Nat) (a5:String) (a6:Nat) (x:Params):Obj:=(@Obj.mk (.type "tuple") none (@Data.seq (List.toArray [(p_ a1 a2),(p_ a3 a4),(p_ a5 a6)]) 0) #[])
abbrev t9 (a1:String) (a2:Nat) (a3:String) (a4:Nat) (a5:String) (a6:Nat) (a7:String) (a8:Nat) (a9:String) (a10:Nat) (a11:String) (a12:Nat) (x:Params):Obj:=(@Obj.mk (.type "tuple") none (@Data.seq (List.toArray [(p_ a1 a2),(p_ a3 a4),(p_ a5 a6),(p_ a7 a8),(p_ a9 a10),(p_ a11 a12)]) 0) #[])
abbrev t10 (a1:String) (a2:Nat) (x:Params):Obj:=(@Obj.mk (.type "tuple") none (@Data.seq (List.toArray [(p_ a1 a2)]) 0) #[])
abbrev t11 (a1:String) (a2:Nat) (a3:String) (a4:Nat) (a5:String) (a6:Nat) (a7:String) (a8:Nat) (x:Params):Obj:=(@Obj.mk (.type "tuple") none (@Data.seq (List.toArray [(p_ a1 a2),(p_ a3 a4),(p_ a5 a6),(p_ a7 a8)]) 0) #[])
abbrev t12 (a1:String) (a2:Nat) (a3:String) (a4:Nat) (a5:String) (a6:Nat) (a7:String) (a8:Nat) (a9:String) (a10:Nat) (a11:String) (a12:Nat) (a13:String) (a14:Nat) (x:Params):Obj:=(@Obj.mk (.type "tuple") none (@Data.seq (List.toArray [(p_ a1 a2),(p_ a3 a4),(p_ a5 a6),(p_ a7 a8),(p_ a9 a10),(p_ a11 a12),(p_ a13 a14)]) 0) #[])
abbrev t13 (a2:Nat) (x:Params):Obj:=(@Obj.mk (.type "builtin_function_or_method") none (@Data.fields (List.toArray [(.builtin "object.__init_subclass__"),(r_ a2)])) #[])
abbrev t14 (a1:Nat) (x:Params):Obj:=(@Obj.mk (.type "super") none (@Data.fields (List.toArray [(r_ a1),(r_ a1),(r_ a1)])) #[])
abbrev t15 (a1:String) (a3 a6 a8 a10 a12:Nat) (x:Params):Obj:=(@Obj.mk (.type "type") none (@Data.cls (@ClassData.mk (.ofString a1) [(r_ 219)] [(r_ a3),(r_ 219),(.type "object")] a6 (.ofString a1) @Bool.true [] [] @Bool.false (@Option.none @Bool) @Bool.false)) (@List.toArray (@Option @Value) [(some (r_ a8)),none,(some (p_ a1 a10)),(some (p_ a1 a12)),(some (.builtin "object.__new__")),(some (.bool @Bool.true))]))
abbrev t16 (a1 a2:String) (a3 a4 a12:Nat) (x:Params):Obj:=(@Obj.mk (.type "function") none (@Data.func (@FuncData.mk (.ofString a1) (.ofString a2) (L2.defArgs (L2.inClass (My.top a3) a4)) (@FuncBody.stmts (L2.defBody (L2.inClass (My.top a3) a4))) (L2.defScope (L2.inClass (My.top a3) a4)) 3 (@List.nil (@Prod @Str @Nat)) .none .none .none (p_ "oddbases.ways" 380) none (r_ a12) .none 0)) #[])
abbrev t17 (a0 a1:String) (a2 a3:Nat) (x:Params):Obj:=(@Obj.mk .none none (@Data.func (@FuncData.mk (.ofString a0) (.ofString a1) (L2.defArgs (L2.inClass (My.top a2) a3)) (@FuncBody.stmts (L2.defBody (L2.inClass (My.top a2) a3))) (L2.defScope (L2.inClass (My.top a2) a3)) 0 (@List.nil (@Prod @Str @Nat)) .none .none .none .none none .none .none 0)) #[])
abbrev t18 (a1 a3:Nat) (a4:String) (a5:Nat) (x:Params):Obj:=(@Obj.mk (.type "frame") none @Data.plain (@List.toArray (@Option @Value) [(some (r_ a1)),(some (r_ 3)),(some (r_ a3)),none,(some (p_ a4 a5)),none,(some (r_ 0))]))
abbrev t19 (a1:String) (a2 a4 a6:Nat) (a7:Int) (a17 a20:Nat) (a21:Int) (a26:Nat) (x:Params):Obj:=(@Obj.mk (.type "code") none (@Data.fields (List.toArray [(p_ a1 a2),(p_ a1 a4),(p_ "/claim/cut.py" a6),(j_ a7 0),(j_ 0 0),(j_ 0 0),(j_ 0 0),(j_ 0 0),(r_ a17),(.bool @Bool.false),(j_ 181 0),(r_ a20),.none,.none,.none,.none,(j_ a21 0),(j_ a7 0),(p_ "/claim/cut.py" a26)])) #[])
abbrev t20 (a0:Int) (a4:Nat) (a5:Int) (a9:Nat) (a10:Int) (a14:Nat) (a15:Int) (a19:Nat) (a20:Int) (a24:Nat) (a25:Int) (a29:Nat) (x:Params):Obj:=(@Obj.mk .none none (@Data.fields (List.toArray [(j_ a0 0),(j_ 4 0),(r_ a4),(j_ a5 0),(j_ 4 0),(r_ a9),(j_ a10 0),(j_ 4 0),(r_ a14),(j_ a15 0),(j_ 4 0),(r_ a19),(j_ a20 0),(j_ 4 0),(r_ a24),(j_ a25 0),(j_ 4 0),(r_ a29)])) #[])
abbrev t21 (a3 a8:Nat) (a9:String) (a10 a13:Nat) (a14:Int) (a15:Nat) (a16:String) (a18 a19:Nat) (a20:String) (a22 a23:Nat) (a24:String) (a26 a27:Nat) (a28:String) (a30 a31 a34 a35 a38 a39 a42 a43:Nat) (x:Params):Obj:=(@Obj.mk (.type "dict") none (@Data.dict (List.toArray [(e_ x "__module__" a3 (p_ "oddbases.ways" 380)),(e_ x "__qualname__" a8 (p_ a9 a10)),(e_ x "__firstlineno__" a13 (j_ a14 a15)),(e_ x a16 a18 (r_ a19)),(e_ x a20 a22 (r_ a23)),(e_ x a24 a26 (r_ a27)),(e_ x a28 a30 (r_ a31)),(e_ x "split" a34 (r_ a35)),(e_ x "has" a38 (r_ a39)),(e_ x "__static_attributes__" a42 (r_ a43))]) 10) #[])
abbrev t22 (x:Params):Obj:=(@Obj.mk (.type "builtin_function_or_method") none (@Data.fields (List.toArray [(.builtin "type.__prepare__"),(.type "type")])) #[])
abbrev t23 (a1:Nat) (x:Params):Obj:=(@Obj.mk (.type "tuple") none (@Data.seq (List.toArray [(r_ a1)]) 0) #[])
abbrev t24 (a3 a8:Nat) (a9:Int) (a10 a13 a14:Nat) (a15:String) (a17 a18:Nat) (a19:String) (a21 a22 a25 a26:Nat) (a27:String) (a29 a30 a33 a34 a37:Nat) (x:Params):Obj:=(@Obj.mk (.type "dict") none (@Data.dict (List.toArray [(e_ x "__module__" a3 (p_ "oddbases.ways" 380)),(e_ x "__firstlineno__" a8 (j_ a9 a10)),(e_ x "__init__" a13 (r_ a14)),(e_ x a15 a17 (r_ a18)),(e_ x a19 a21 (r_ a22)),(e_ x "ratio" a25 (r_ a26)),(e_ x a27 a29 (r_ a30)),(e_ x "__static_attributes__" a33 (r_ a34)),(e_ x "__doc__" a37 .none)]) 2) #[])
abbrev t25 (a0:Int) (a4:Nat) (a5:Int) (a9:Nat) (a10:Int) (a14:Nat) (a15:Int) (a19:Nat) (a20:Int) (a24:Nat) (x:Params):Obj:=(@Obj.mk .none none (@Data.fields (List.toArray [(j_ a0 0),(j_ 4 0),(r_ a4),(j_ a5 0),(j_ 4 0),(r_ a9),(j_ a10 0),(j_ 4 0),(r_ a14),(j_ a15 0),(j_ 4 0),(r_ a19),(j_ a20 0),(j_ 4 0),(r_ a24)])) #[])
abbrev t26 (a3 a8:Nat) (a9:String) (a10 a13:Nat) (a14:Int) (a15 a18 a19:Nat) (a20:String) (a22 a23:Nat) (a24:String) (a26 a27 a30 a31:Nat) (a32:String) (a34 a35 a38 a39:Nat) (x:Params):Obj:=(@Obj.mk (.type "dict") none (@Data.dict (List.toArray [(e_ x "__module__" a3 (p_ "oddbases.ways" 380)),(e_ x "__qualname__" a8 (p_ a9 a10)),(e_ x "__firstlineno__" a13 (j_ a14 a15)),(e_ x "__init__" a18 (r_ a19)),(e_ x a20 a22 (r_ a23)),(e_ x a24 a26 (r_ a27)),(e_ x "ratio" a30 (r_ a31)),(e_ x a32 a34 (r_ a35)),(e_ x "__static_attributes__" a38 (r_ a39))]) 9) #[])
abbrev t27 (a3 a8:Nat) (a9:Int) (a10 a13 a14 a17 a18 a21 a22 a25 a26 a29:Nat) (x:Params):Obj:=(@Obj.mk (.type "dict") none (@Data.dict (List.toArray [(e_ x "__module__" a3 (p_ "oddbases.ways" 380)),(e_ x "__firstlineno__" a8 (j_ a9 a10)),(e_ x "__init__" a13 (r_ a14)),(e_ x "high" a17 (r_ a18)),(e_ x "ratio" a21 (r_ a22)),(e_ x "__static_attributes__" a25 (r_ a26)),(e_ x "__doc__" a29 .none)]) 2) #[])
abbrev t28 (a0:Int) (a4:Nat) (a5:Int) (a9:Nat) (a10:Int) (a14:Nat) (x:Params):Obj:=(@Obj.mk .none none (@Data.fields (List.toArray [(j_ a0 0),(j_ 4 0),(r_ a4),(j_ a5 0),(j_ 4 0),(r_ a9),(j_ a10 0),(j_ 4 0),(r_ a14)])) #[])
abbrev t29 (a3 a8:Nat) (a9:String) (a10 a13:Nat) (a14:Int) (a15 a18 a19 a22 a23 a26 a27 a30 a31:Nat) (x:Params):Obj:=(@Obj.mk (.type "dict") none (@Data.dict (List.toArray [(e_ x "__module__" a3 (p_ "oddbases.ways" 380)),(e_ x "__qualname__" a8 (p_ a9 a10)),(e_ x "__firstlineno__" a13 (j_ a14 a15)),(e_ x "__init__" a18 (r_ a19)),(e_ x "high" a22 (r_ a23)),(e_ x "ratio" a26 (r_ a27)),(e_ x "__static_attributes__" a30 (r_ a31))]) 7) #[])
abbrev t30 (a2 a3:Nat) (x:Params):Obj:=(@Obj.mk (.type "getset_descriptor") none (@Data.fields (List.toArray [(p_ "__weakref__" a2),(r_ a3),(.builtin "ExceptionGroup.__weakref__"),.none])) #[])
abbrev t31 (a1:String) (a3 a9 a11 a13 a15:Nat) (x:Params):Obj:=(@Obj.mk (.type "type") none (@Data.cls (@ClassData.mk (.ofString a1) [(r_ 24)] [(r_ a3),(r_ 24),(.type "ValueError"),(.type "Exception"),(.type "BaseException"),(.type "object")] a9 (.ofString a1) @Bool.true [] [] @Bool.false (@Option.none @Bool) @Bool.false)) (@List.toArray (@Option @Value) [(some (r_ a11)),none,(some (p_ a1 a13)),(some (p_ a1 a15)),(some (.builtin "ValueError.__new__")),(some (.bool @Bool.true))]))
abbrev t32 (a3 a8:Nat) (a9:Int) (a10 a13 a14 a17:Nat) (x:Params):Obj:=(@Obj.mk (.type "dict") none (@Data.dict (List.toArray [(e_ x "__module__" a3 (p_ "oddbases.errors" 187)),(e_ x "__firstlineno__" a8 (j_ a9 a10)),(e_ x "__static_attributes__" a13 (r_ a14)),(e_ x "__doc__" a17 .none)]) 2) #[])
abbrev t33 (a3 a8:Nat) (a9:String) (a10 a13:Nat) (a14:Int) (a15 a18 a19:Nat) (x:Params):Obj:=(@Obj.mk (.type "dict") none (@Data.dict (List.toArray [(e_ x "__module__" a3 (p_ "oddbases.errors" 187)),(e_ x "__qualname__" a8 (p_ a9 a10)),(e_ x "__firstlineno__" a13 (j_ a14 a15)),(e_ x "__static_attributes__" a18 (r_ a19))]) 4) #[])
abbrev U2 (x:Params):DictEntry:=(e_ x "__annotations__" 170 (r_ 6))
abbrev U1 (x:Params):DictEntry:=(e_ x "__file__" 173 (p_ "/claim/cut.py" 172))
abbrev U0 (x:Params):DictEntry:=(e_ x "__loader__" 168 (.builtin "__main__.__loader__#opaque"))
def bS:=t0 "law" 65 "law_oddbases_k67_whole_order" 956 682
def bT:=t1 "law" 1073 1074 1075 398 1 679 680 681 1076 1077
def WI:=t2 "law" 65
def zg:=t3
def zb:=t4
def bU:=t0 "_law_sorted" 64 "law_oddbases_k67_whole_order" 956 677
def bV:=t5 "_law_sorted" 1062 "_law_sorted" 1063 1064 390 2 672 673 674 675 676 1070 1071
def WJ:=t2 "_law_sorted" 64
def bW:=t6 "_law_way_here" 1065 "_law_rows" 1066 "_law_done" 1067 "_law_row_here" 1068 "_law_at" 1069
def bX:=t0 "_law_held" 63 "law_oddbases_k67_whole_order" 956 670
def bY:=t5 "_law_held" 1051 "_law_held" 1052 1053 385 4 665 666 667 668 669 1059 1060
def WK:=t2 "_law_held" 63
def bZ:=t6 "_law_way_here" 1054 "_law_one" 1055 "_law_other" 1056 "_law_due" 1057 "_law_found" 1058
def b_:=t0 "_law_sign" 62 "law_oddbases_k67_whole_order" 956 663
def aa:=t5 "_law_sign" 1043 "_law_sign" 1044 1045 383 2 658 659 660 661 662 1048 1049
def WL:=t2 "_law_sign" 62
def ac:=t7 "_law_one" 1046 "_law_other" 1047
def ad:=t0 "_law_row" 61 "law_oddbases_k67_whole_order" 956 656
def ae:=t1 "_law_row" 1037 1038 1039 372 3 653 654 655 1040 1041
def WM:=t2 "_law_row" 61
def af:=t0 "_law_is_writing" 60 "law_oddbases_k67_whole_order" 956 651
def ag:=t5 "_law_is_writing" 1028 "_law_is_writing" 1029 1030 365 2 646 647 648 649 650 1034 1035
def WN:=t2 "_law_is_writing" 60
def ah:=t8 "_law_way_here" 1031 "_law_row_here" 1032 "_law_k" 1033
def ai:=t0 "_law_worth" 59 "law_oddbases_k67_whole_order" 956 644
def aj:=t5 "_law_worth" 1017 "_law_worth" 1018 1019 348 2 639 640 641 642 643 1025 1026
def WO:=t2 "_law_worth" 59
def ak:=t6 "_law_way_here" 1020 "_law_row_here" 1021 "_law_x" 1022 "_law_y" 1023 "_law_k" 1024
def al:=t0 "_law_falling_worth" 58 "law_oddbases_k67_whole_order" 956 637
def ao:=t5 "_law_falling_worth" 1005 "_law_falling_worth" 1006 1007 340 2 632 633 634 635 636 1014 1015
def WP:=t2 "_law_falling_worth" 58
def ap:=t9 "_law_most" 1008 "_law_row_here" 1009 "_law_total" 1010 "_law_weight" 1011 "_law_behind" 1012 "_law_figure" 1013
def au:=t0 "_law_drawn" 57 "law_oddbases_k67_whole_order" 956 630
def av:=t5 "_law_drawn" 990 "_law_drawn" 991 992 326 2 625 626 627 628 629 1002 1003
def WR:=t2 "_law_drawn" 57
def aw (x:Params):Obj:=(@Obj.mk (.type "tuple") none (@Data.seq (List.toArray [(p_ "_law_way_here" 993),(p_ "_law_cells" 994),(p_ "_law_row_here" 995),(p_ "_law_cell" 996),(p_ "_law_mixed" 997),(p_ "_law_low_here" 998),(p_ "_law_high_here" 999),(p_ "_law_free" 1000),(p_ "_law_figure" 1001)]) 0) #[])
def ax:=t0 "_law_high" 56 "law_oddbases_k67_whole_order" 956 623
def ay:=t5 "_law_high" 982 "_law_high" 983 984 318 2 618 619 620 621 622 987 988
def WS:=t2 "_law_high" 56
def az:=t7 "_law_way_here" 985 "_law_place" 986
def aA:=t0 "_law_low" 55 "law_oddbases_k67_whole_order" 956 616
def aB:=t5 "_law_low" 975 "_law_low" 976 977 314 1 611 612 613 614 615 979 980
def WT:=t2 "_law_low" 55
def aC:=t10 "_law_way_here" 978
def aD:=t0 "_law_way" 54 "law_oddbases_k67_whole_order" 956 609
def aE:=t5 "_law_way" 966 "_law_way" 967 968 304 1 604 605 606 607 608 972 973
def WU:=t2 "_law_way" 54
def aF:=t8 "_law_cell" 969 "_law_kind" 970 "_law_number" 971
def aG:=t0 "_law_cell_at" 53 "law_oddbases_k67_whole_order" 956 602
def aH:=t5 "_law_cell_at" 958 "_law_cell_at" 959 960 300 2 597 598 599 600 601 963 964
def WV:=t2 "_law_cell_at" 53
def aI:=t7 "_law_script" 961 "_law_k" 962
def aJ:=t0 "way_read" 51 "oddbases.texts" 918 595
def aK:=t5 "way_read" 947 "way_read" 948 949 292 1 590 591 592 593 594 953 954
def WW:=t2 "way_read" 51
def aL:=t8 "text" 950 "name" 951 "number" 952
def aM:=t0 "way_made" 50 "oddbases.texts" 918 588
def aN:=t5 "way_made" 939 "way_made" 940 941 278 2 583 584 585 586 587 944 945
def WX:=t2 "way_made" 50
def aO:=t7 "name" 942 "number" 943
def aP:=t0 "whole_read" 49 "oddbases.texts" 918 581
def aQ:=t5 "whole_read" 931 "whole_read" 932 933 271 1 576 577 578 579 580 936 937
def WY:=t2 "whole_read" 49
def aR:=t7 "text" 934 "figures" 935
def aS:=t0 "has_figures_alone" 47 "oddbases.texts" 918 574
def aU:=t5 "has_figures_alone" 922 "has_figures_alone" 923 924 265 1 569 570 571 572 573 927 928
def WZ:=t2 "has_figures_alone" 47
def aV:=t7 "text" 925 "sign" 926
def aW:=t0 "moved" 44 "oddbases.moving" 899 567
def aX:=t5 "moved" 909 "moved" 910 911 260 3 562 563 564 565 566 915 916
def W5:=t2 "moved" 44
def aY:=t8 "way" 912 "row" 913 "other" 914
def aZ:=t0 "as_wanted" 43 "oddbases.moving" 899 560
def a_:=t5 "as_wanted" 901 "as_wanted" 902 903 254 2 555 556 557 558 559 906 907
def W6:=t2 "as_wanted" 43
def Za:=t7 "way" 904 "number" 905
def Zb:=t0 "order" 41 "oddbases.orders" 877 553
def Zc:=t5 "order" 888 "order" 889 890 242 3 548 549 550 551 552 896 897
def W7:=t2 "order" 41
def Zd:=t6 "way" 891 "one" 892 "other" 893 "place" 894 "more" 895
def Ze:=t0 "parting" 40 "oddbases.orders" 877 546
def Zf:=t5 "parting" 879 "parting" 880 881 237 2 541 542 543 544 545 885 886
def W8:=t2 "parting" 40
def Zg:=t8 "one" 882 "other" 883 "place" 884
def Zh:=t0 "written" 38 "oddbases.writings" 808 539
def Zi:=t5 "written" 869 "written" 870 871 230 2 534 535 536 537 538 874 875
def W9:=t2 "written" 38
def Zj:=t7 "way" 872 "number" 873
def Zk:=t0 "written_by_weights" 37 "oddbases.writings" 808 532
def Zl:=t5 "written_by_weights" 858 "written_by_weights" 859 860 222 2 527 528 529 530 531 866 867
def W_:=t2 "written_by_weights" 37
def Zm:=t6 "way" 861 "number" 862 "figures" 863 "rest" 864 "weight" 865
def Zo:=t0 "worth" 36 "oddbases.writings" 808 525
def Zp:=t5 "worth" 847 "worth" 848 849 217 2 520 521 522 523 524 855 856
def Va:=t2 "worth" 36
def Zq:=t6 "way" 850 "row" 851 "number" 852 "thing" 853 "weight" 854
def Zr:=t0 "held_to_be_writings" 35 "oddbases.writings" 808 518
def Zs:=t5 "held_to_be_writings" 838 "held_to_be_writings" 839 840 213 2 513 514 515 516 517 844 845
def Vb:=t2 "held_to_be_writings" 35
def Zt:=t8 "way" 841 "rows" 842 "row" 843
def Zu:=t0 "is_writing" 34 "oddbases.writings" 808 511
def Zv:=t5 "is_writing" 830 "is_writing" 831 832 207 2 506 507 508 509 510 835 836
def Vc:=t2 "is_writing" 34
def Zw:=t7 "way" 833 "row" 834
def Zy:=t0 "has_mosts_above_noughts_alone" 33 "oddbases.writings" 808 504
def Zz:=t5 "has_mosts_above_noughts_alone" 821 "has_mosts_above_noughts_alone" 822 823 202 2 499 500 501 502 503 827 828
def Vd:=t2 "has_mosts_above_noughts_alone" 33
def ZA:=t8 "way" 824 "row" 825 "place" 826
def ZB:=t0 "has_figures_alone" 31 "oddbases.writings" 808 497
def ZC:=t5 "has_figures_alone" 810 "has_figures_alone" 811 812 196 2 492 493 494 495 496 817 818
def Ve:=t2 "has_figures_alone" 31
def ZD:=t11 "way" 813 "row" 814 "place" 815 "thing" 816
def ZE:=t0 "settled" 29 "oddbases.settling" 785 490
def ZF:=t5 "settled" 800 "settled" 801 802 193 2 485 486 487 488 489 805 806
def Vf:=t2 "settled" 29
def ZG:=t7 "way" 803 "totals" 804
def ZH:=t0 "figures_and_carries" 28 "oddbases.settling" 785 483
def ZI:=t5 "figures_and_carries" 787 "figures_and_carries" 788 789 178 2 478 479 480 481 482 797 798
def Vg:=t2 "figures_and_carries" 28
def ZJ:=t12 "way" 790 "totals" 791 "figures" 792 "carry" 793 "found" 794 "place" 795 "parts" 796
def Vh:=t13 475
def Vi:=t14 475
def ZK:=t15 "Pairs" 475 474 424 716 724
def ZL (x:Params):Obj:=(@Obj.mk (.type "dict") none (@Data.dict (List.toArray [(e_ x "__module__" 723 (p_ "oddbases.ways" 380)),(e_ x "__firstlineno__" 727 (j_ 154 726)),(e_ x "__init__" 735 (r_ 437)),(e_ x "nought" 742 (r_ 444)),(e_ x "high" 750 (r_ 451)),(e_ x "ratio" 758 (r_ 458)),(e_ x "split" 771 (r_ 465)),(e_ x "has" 779 (r_ 472)),(e_ x "__static_attributes__" 781 (r_ 473)),(e_ x "__doc__" 782 .none)]) 2) #[])
def ZM:=t10 "most" 780
def ZN:=t16 "has" "Pairs.has" 26 5 471
def ZO:=t5 "has" 772 "Pairs.has" 773 774 175 2 466 467 468 469 470 777 778
def Vj:=t17 "has" "Pairs.has" 26 5
def ZP:=t7 "self" 775 "number" 776
def ZQ:=t16 "split" "Pairs.split" 26 4 464
def ZR:=t5 "split" 759 "Pairs.split" 760 761 168 3 459 460 461 462 463 769 770
def Vk:=t17 "split" "Pairs.split" 26 4
def ZS:=t12 "self" 762 "total" 763 "place" 764 "pair" 765 "figures" 766 "figure" 767 "turned" 768
def ZT:=t16 "ratio" "Pairs.ratio" 26 3 457
def ZU:=t5 "ratio" 751 "Pairs.ratio" 752 753 165 2 452 453 454 455 456 756 757
def Vl:=t17 "ratio" "Pairs.ratio" 26 3
def ZV:=t7 "self" 754 "place" 755
def ZW:=t16 "high" "Pairs.high" 26 2 450
def ZX:=t5 "high" 743 "Pairs.high" 744 745 162 2 445 446 447 448 449 748 749
def Vm:=t17 "high" "Pairs.high" 26 2
def ZY:=t7 "self" 746 "place" 747
def ZZ:=t16 "nought" "Pairs.nought" 26 1 443
def Z0:=t5 "nought" 736 "Pairs.nought" 737 738 159 1 438 439 440 441 442 740 741
def Vn:=t17 "nought" "Pairs.nought" 26 1
def Z1:=t10 "self" 739
def Z2:=t16 "__init__" "Pairs.__init__" 26 0 436
def Z3:=t5 "__init__" 728 "Pairs.__init__" 729 730 156 2 431 432 433 434 435 733 734
def Vo:=t17 "__init__" "Pairs.__init__" 26 0
def Z4:=t7 "self" 731 "most" 732
def Vp:=t18 429 426 "oddbases.ways" 380
def Vq:=t19 "Pairs" 718 719 720 154 427 428 721 722
def Vr:=t20 156 436 159 443 162 450 165 457 168 464 175 471
def Vs:=t21 723 725 "Pairs" 724 727 154 726 "__init__" 735 437 "nought" 742 444 "high" 750 451 "ratio" 758 458 771 465 779 472 781 473
def zH:=t22
def xg:=t23 219
def Vu:=t13 421
def Vv:=t14 421
def Z6:=t15 "Falling" 421 420 377 653 661
def Z7:=t24 660 664 130 663 672 390 "high" 680 397 "weights" 693 404 701 411 "split" 710 418 712 419 713
def Z8:=t10 "most" 711
def Z9:=t16 "split" "Falling.split" 25 4 417
def Yb:=t5 "split" 702 "Falling.split" 703 704 152 3 412 413 414 415 416 708 709
def Vx:=t17 "split" "Falling.split" 25 4
def Yc:=t8 "self" 705 "total" 706 "place" 707
def Yd:=t16 "ratio" "Falling.ratio" 25 3 410
def Ye:=t5 "ratio" 694 "Falling.ratio" 695 696 149 2 405 406 407 408 409 699 700
def Vy:=t17 "ratio" "Falling.ratio" 25 3
def Yg:=t7 "self" 697 "place" 698
def Yh:=t16 "weights" "Falling.weights" 25 2 403
def Yi:=t5 "weights" 681 "Falling.weights" 682 683 138 2 398 399 400 401 402 691 692
def Vz:=t17 "weights" "Falling.weights" 25 2
def Yj:=t12 "self" 684 "many" 685 "weights" 686 "ahead" 687 "weight" 688 "place" 689 "following" 690
def Yk:=t16 "high" "Falling.high" 25 1 396
def Yl:=t5 "high" 673 "Falling.high" 674 675 135 2 391 392 393 394 395 678 679
def VA:=t17 "high" "Falling.high" 25 1
def Ym:=t7 "self" 676 "place" 677
def Yn:=t16 "__init__" "Falling.__init__" 25 0 389
def Yo:=t5 "__init__" 665 "Falling.__init__" 666 667 132 2 384 385 386 387 388 670 671
def VB:=t17 "__init__" "Falling.__init__" 25 0
def Yp:=t7 "self" 668 "most" 669
def VC:=t18 382 379 "oddbases.ways" 380
def VD:=t19 "Falling" 655 656 657 130 380 381 658 659
def VE:=t25 132 389 135 396 138 403 149 410 152 417
def VF:=t26 660 662 "Falling" 661 664 130 663 672 390 "high" 680 397 "weights" 693 404 701 411 "split" 710 418 712 419
def Yq:=t13 374
def Yr:=t14 374
def gx:=t15 "Growing" 374 373 344 612 620
def gz:=t27 619 623 120 622 631 357 639 364 647 371 649 372 650
def gA:=t10 "first" 648
def gB:=t16 "ratio" "Growing.ratio" 24 2 370
def gC:=t5 "ratio" 640 "Growing.ratio" 641 642 128 2 365 366 367 368 369 645 646
def Ys:=t17 "ratio" "Growing.ratio" 24 2
def gE:=t7 "self" 643 "place" 644
def gF:=t16 "high" "Growing.high" 24 1 363
def gG:=t5 "high" 632 "Growing.high" 633 634 125 2 358 359 360 361 362 637 638
def Yt:=t17 "high" "Growing.high" 24 1
def gH:=t7 "self" 635 "place" 636
def gJ:=t16 "__init__" "Growing.__init__" 24 0 356
def gK:=t5 "__init__" 624 "Growing.__init__" 625 626 122 2 351 352 353 354 355 629 630
def Yu:=t17 "__init__" "Growing.__init__" 24 0
def gL:=t7 "self" 627 "first" 628
def Yv:=t18 349 346 "oddbases.ways" 380
def Yw:=t19 "Growing" 614 615 616 120 347 348 617 618
def Yx:=t28 122 356 125 363 128 370
def Yy:=t29 619 621 "Growing" 620 623 120 622 631 357 639 364 647 371 649 372
def Yz:=t13 341
def YA:=t14 341
def gM:=t15 "Balanced" 341 340 297 555 563
def gN:=t24 562 566 104 565 574 310 "low" 582 317 "high" 590 324 598 331 "has" 606 338 608 339 609
def gO:=t10 "half" 607
def gP:=t16 "has" "Balanced.has" 23 4 337
def gQ:=t5 "has" 599 "Balanced.has" 600 601 118 2 332 333 334 335 336 604 605
def YB:=t17 "has" "Balanced.has" 23 4
def gR:=t7 "self" 602 "number" 603
def gT:=t16 "ratio" "Balanced.ratio" 23 3 330
def gU:=t5 "ratio" 591 "Balanced.ratio" 592 593 115 2 325 326 327 328 329 596 597
def YC:=t17 "ratio" "Balanced.ratio" 23 3
def gW:=t7 "self" 594 "place" 595
def gX:=t16 "high" "Balanced.high" 23 2 323
def gY:=t5 "high" 583 "Balanced.high" 584 585 112 2 318 319 320 321 322 588 589
def YD:=t17 "high" "Balanced.high" 23 2
def gZ:=t7 "self" 586 "place" 587
def g6:=t16 "low" "Balanced.low" 23 1 316
def g7:=t5 "low" 575 "Balanced.low" 576 577 109 2 311 312 313 314 315 580 581
def YE:=t17 "low" "Balanced.low" 23 1
def g8:=t7 "self" 578 "place" 579
def g9:=t16 "__init__" "Balanced.__init__" 23 0 309
def fb:=t5 "__init__" 567 "Balanced.__init__" 568 569 106 2 304 305 306 307 308 572 573
def YF:=t17 "__init__" "Balanced.__init__" 23 0
def fc:=t7 "self" 570 "half" 571
def YG:=t18 302 299 "oddbases.ways" 380
def YH:=t19 "Balanced" 557 558 559 104 300 301 560 561
def YI:=t25 106 309 109 316 112 323 115 330 118 337
def YJ:=t26 562 564 "Balanced" 563 566 104 565 574 310 "low" 582 317 "high" 590 324 598 331 "has" 606 338 608 339
def YK:=t13 294
def YL:=t14 294
def fe:=t15 "Below" 294 293 257 506 514
def ff (x:Params):Obj:=(@Obj.mk (.type "dict") none (@Data.dict (List.toArray [(e_ x "__module__" 513 (p_ "oddbases.ways" 380)),(e_ x "__firstlineno__" 517 (j_ 91 516)),(e_ x "__init__" 525 (r_ 270)),(e_ x "high" 533 (r_ 277)),(e_ x "ratio" 541 (r_ 284)),(e_ x "has" 549 (r_ 291)),(e_ x "__static_attributes__" 551 (r_ 292)),(e_ x "__doc__" 552 .none)]) 2) #[])
def fh:=t10 "base" 550
def fj:=t16 "has" "Below.has" 22 3 290
def fk:=t5 "has" 542 "Below.has" 543 544 102 2 285 286 287 288 289 547 548
def YM:=t17 "has" "Below.has" 22 3
def fm:=t7 "self" 545 "number" 546
def fq:=t16 "ratio" "Below.ratio" 22 2 283
def ft:=t5 "ratio" 534 "Below.ratio" 535 536 99 2 278 279 280 281 282 539 540
def YN:=t17 "ratio" "Below.ratio" 22 2
def fu:=t7 "self" 537 "place" 538
def fv:=t16 "high" "Below.high" 22 1 276
def fw:=t5 "high" 526 "Below.high" 527 528 96 2 271 272 273 274 275 531 532
def YO:=t17 "high" "Below.high" 22 1
def fA:=t7 "self" 529 "place" 530
def fB:=t16 "__init__" "Below.__init__" 22 0 269
def fC:=t5 "__init__" 518 "Below.__init__" 519 520 93 2 264 265 266 267 268 523 524
def YQ:=t17 "__init__" "Below.__init__" 22 0
def fD:=t7 "self" 521 "base" 522
def YR:=t18 262 259 "oddbases.ways" 380
def YS:=t19 "Below" 508 509 510 91 260 261 511 512
def YT (x:Params):Obj:=(@Obj.mk .none none (@Data.fields (List.toArray [(j_ 93 0),(j_ 4 0),(r_ 269),(j_ 96 0),(j_ 4 0),(r_ 276),(j_ 99 0),(j_ 4 0),(r_ 283),(j_ 102 0),(j_ 4 0),(r_ 290)])) #[])
def YU (x:Params):Obj:=(@Obj.mk (.type "dict") none (@Data.dict (List.toArray [(e_ x "__module__" 513 (p_ "oddbases.ways" 380)),(e_ x "__qualname__" 515 (p_ "Below" 514)),(e_ x "__firstlineno__" 517 (j_ 91 516)),(e_ x "__init__" 525 (r_ 270)),(e_ x "high" 533 (r_ 277)),(e_ x "ratio" 541 (r_ 284)),(e_ x "has" 549 (r_ 291)),(e_ x "__static_attributes__" 551 (r_ 292))]) 8) #[])
def YV:=t13 254
def YW:=t14 254
def fE:=t15 "Plain" 254 253 224 465 473
def fG:=t27 472 476 81 475 484 237 492 244 500 251 502 252 503
def fH:=t10 "base" 501
def fI:=t16 "ratio" "Plain.ratio" 21 2 250
def fJ:=t5 "ratio" 493 "Plain.ratio" 494 495 89 2 245 246 247 248 249 498 499
def YX:=t17 "ratio" "Plain.ratio" 21 2
def fK:=t7 "self" 496 "place" 497
def fL:=t16 "high" "Plain.high" 21 1 243
def fM:=t5 "high" 485 "Plain.high" 486 487 86 2 238 239 240 241 242 490 491
def YY:=t17 "high" "Plain.high" 21 1
def fN:=t7 "self" 488 "place" 489
def fO:=t16 "__init__" "Plain.__init__" 21 0 236
def fP:=t5 "__init__" 477 "Plain.__init__" 478 479 83 2 231 232 233 234 235 482 483
def YZ:=t17 "__init__" "Plain.__init__" 21 0
def fQ:=t7 "self" 480 "base" 481
def Y4:=t18 229 226 "oddbases.ways" 380
def Y5:=t19 "Plain" 467 468 469 81 227 228 470 471
def Y6:=t28 83 236 86 243 89 250
def Y7:=t29 472 474 "Plain" 473 476 81 475 484 237 492 244 500 251 502 252
def Y8:=t13 219
def Y9:=t14 219
def fR:=t30 460 219
def fS (x:Params):Obj:=(@Obj.mk (.type "getset_descriptor") none (@Data.fields (List.toArray [(p_ "__dict__" 458),(r_ 219),(.builtin "function.__dict__"),(.builtin "function.__dict__#set")])) #[])
def Z5 (x:Params):Obj:=(@Obj.mk (.type "type") none (@Data.cls (@ClassData.mk (.ofString "Way") [(.type "object")] [(r_ 219),(.type "object")] 218 (.ofString "Way") @Bool.true [] [(r_ 254),(r_ 294),(r_ 341),(r_ 374),(r_ 421),(r_ 475)] @Bool.false (@Option.none @Bool) @Bool.false)) (@List.toArray (@Option @Value) [none,none,(some (p_ "Way" 391)),(some (p_ "Way" 399)),(some (.builtin "object.__new__")),(some (.bool @Bool.true))]))
def fU (x:Params):Obj:=(@Obj.mk (.type "dict") none (@Data.dict (List.toArray [(e_ x "__module__" 398 (p_ "oddbases.ways" 380)),(e_ x "__firstlineno__" 402 (j_ 54 401)),(e_ x "nought" 409 (r_ 181)),(e_ x "low" 417 (r_ 188)),(e_ x "weights" 428 (r_ 195)),(e_ x "weight" 436 (r_ 202)),(e_ x "split" 448 (r_ 209)),(e_ x "has" 456 (r_ 216)),(e_ x "__static_attributes__" 457 (r_ 217)),(e_ x "__dict__" 459 (r_ 220)),(e_ x "__weakref__" 461 (r_ 221)),(e_ x "__doc__" 462 .none)]) 4) #[])
def fV:=t16 "has" "Way.has" 20 5 215
def fW:=t5 "has" 449 "Way.has" 450 451 79 2 210 211 212 213 214 454 455
def Y_:=t17 "has" "Way.has" 20 5
def fX:=t7 "self" 452 "number" 453
def fY:=t16 "split" "Way.split" 20 4 208
def fZ:=t5 "split" 437 "Way.split" 438 439 73 3 203 204 205 206 207 446 447
def Xa:=t17 "split" "Way.split" 20 4
def f_:=t9 "self" 440 "total" 441 "place" 442 "low" 443 "figures" 444 "figure" 445
def eh:=t16 "weight" "Way.weight" 20 3 201
def eo:=t5 "weight" 429 "Way.weight" 430 431 70 2 196 197 198 199 200 434 435
def Xb:=t17 "weight" "Way.weight" 20 3
def eA:=t7 "self" 432 "place" 433
def eB:=t16 "weights" "Way.weights" 20 2 194
def eD:=t5 "weights" 418 "Way.weights" 419 420 62 2 189 190 191 192 193 426 427
def Xc:=t17 "weights" "Way.weights" 20 2
def eE:=t6 "self" 421 "many" 422 "weights" 423 "weight" 424 "place" 425
def eG:=t16 "low" "Way.low" 20 1 187
def eH:=t5 "low" 410 "Way.low" 411 412 59 2 182 183 184 185 186 415 416
def Xd:=t17 "low" "Way.low" 20 1
def eI:=t7 "self" 413 "place" 414
def eJ:=t16 "nought" "Way.nought" 20 0 180
def eK:=t5 "nought" 403 "Way.nought" 404 405 56 1 175 176 177 178 179 407 408
def Xe:=t17 "nought" "Way.nought" 20 0
def eL:=t10 "self" 406
def Xf:=t18 173 170 "oddbases.ways" 380
def Xg:=t19 "Way" 393 394 395 54 171 172 396 397
def Xh:=t20 56 180 59 187 62 194 70 201 73 208 79 215
def Xi:=t21 398 400 "Way" 399 402 54 401 "nought" 409 181 "low" 417 188 "weights" 428 195 "weight" 436 202 448 209 456 216 457 217
def kX:=t0 "bounded" 19 "oddbases.ways" 380 166
def kY:=t5 "bounded" 382 "bounded" 383 384 50 3 161 162 163 164 165 388 389
def eM:=t2 "bounded" 19
def kZ:=t8 "number" 385 "least" 386 "most" 387
def k_:=t0 "multiplied" 17 "oddbases.pairs" 337 159
def ja:=t5 "multiplied" 370 "multiplied" 371 372 43 2 154 155 156 157 158 377 378
def eN:=t2 "multiplied" 17
def jb:=t11 "one" 373 "other" 374 "left" 375 "right" 376
def jc:=t0 "added" 16 "oddbases.pairs" 337 152
def jd:=t5 "added" 360 "added" 361 362 37 2 147 148 149 150 151 367 368
def eO:=t2 "added" 16
def je:=t11 "one" 363 "other" 364 "left" 365 "right" 366
def jf:=t0 "as_pair" 15 "oddbases.pairs" 337 145
def jg:=t5 "as_pair" 353 "as_pair" 354 355 33 1 140 141 142 143 144 357 358
def eP:=t2 "as_pair" 15
def jh:=t10 "number" 356
def ji:=t0 "is_pair" 14 "oddbases.pairs" 337 138
def jj:=t5 "is_pair" 346 "is_pair" 347 348 31 1 133 134 135 136 137 350 351
def eQ:=t2 "is_pair" 14
def jk:=t10 "value" 349
def jl:=t0 "is_whole" 13 "oddbases.pairs" 337 131
def jm:=t5 "is_whole" 339 "is_whole" 340 341 29 1 126 127 128 129 130 343 344
def eS:=t2 "is_whole" 13
def jn:=t10 "value" 342
def jo:=t0 "trimmed" 11 "oddbases.rows" 319 124
def jp:=t5 "trimmed" 329 "trimmed" 330 331 23 1 119 120 121 122 123 334 335
def eT:=t2 "trimmed" 11
def jq:=t7 "row" 332 "things" 333
def jr:=t0 "thing_at" 10 "oddbases.rows" 319 117
def jt:=t5 "thing_at" 321 "thing_at" 322 323 19 2 112 113 114 115 116 326 327
def eV:=t2 "thing_at" 10
def ju:=t7 "row" 324 "place" 325
def eW:=t13 109
def eX:=t14 109
def jv:=t31 "NoText" 109 108 100 303 311
def jw:=t32 310 314 16 313 315 107 316
def eY:=t18 105 102 "oddbases.errors" 187
def eZ:=t19 "NoText" 305 306 307 16 103 104 308 309
def e7:=t33 310 312 "NoText" 311 314 16 313 315 107
def ya:=t23 24
def e8:=t13 97
def e9:=t14 97
def jy:=t31 "NoPairs" 97 96 88 287 295
def jz:=t32 294 298 14 297 299 95 300
def db:=t18 93 90 "oddbases.errors" 187
def df:=t19 "NoPairs" 289 290 291 14 91 92 292 293
def dj:=t33 294 296 "NoPairs" 295 298 14 297 299 95
def dk:=t13 85
def dm:=t14 85
def jA:=t31 "NoRatio" 85 84 76 271 279
def jB:=t32 278 282 12 281 283 83 284
def dn:=t18 81 78 "oddbases.errors" 187
def dq:=t19 "NoRatio" 273 274 275 12 79 80 276 277
def dr:=t33 278 280 "NoRatio" 279 282 12 281 283 83
def du:=t13 73
def dw:=t14 73
def jC:=t31 "TooLess" 73 72 64 255 263
def jD:=t32 262 266 10 265 267 71 268
def dz:=t18 69 66 "oddbases.errors" 187
def dA:=t19 "TooLess" 257 258 259 10 67 68 260 261
def dB:=t33 262 264 "TooLess" 263 266 10 265 267 71
def dD:=t13 61
def dE:=t14 61
def jE:=t31 "NoWriting" 61 60 52 239 247
def jF:=t32 246 250 8 249 251 59 252
def dF:=t18 57 54 "oddbases.errors" 187
def dG:=t19 "NoWriting" 241 242 243 8 55 56 244 245
def o99:=t33 246 248 "NoWriting" 247 250 8 249 251 59
def o93:=t13 49
def o92:=t14 49
def o91:=t31 "NoNumber" 49 48 40 223 231
def o90:=t32 230 234 6 233 235 47 236
def o88:=t18 45 42 "oddbases.errors" 187
def o87:=t19 "NoNumber" 225 226 227 6 43 44 228 229
def o84:=t33 230 232 "NoNumber" 231 234 6 233 235 47
def o78:=t13 37
def o77:=t14 37
def o76:=t31 "NoWay" 37 36 28 207 215
def o75:=t32 214 218 4 217 219 35 220
def o73:=t18 33 30 "oddbases.errors" 187
def o72:=t19 "NoWay" 209 210 211 4 31 32 212 213
def o69:=t33 214 216 "NoWay" 215 218 4 217 219 35
def o63:=t13 24
def o62:=t14 24
def o61:=t30 202 24
def jx (x:Params):Obj:=(@Obj.mk (.type "type") none (@Data.cls (@ClassData.mk (.ofString "OddError") [(.type "ValueError")] [(r_ 24),(.type "ValueError"),(.type "Exception"),(.type "BaseException"),(.type "object")] 23 (.ofString "OddError") @Bool.true [] [(r_ 37),(r_ 49),(r_ 61),(r_ 73),(r_ 85),(r_ 97),(r_ 109)] @Bool.false (@Option.none @Bool) @Bool.false)) (@List.toArray (@Option @Value) [(some (r_ 15)),none,(some (p_ "OddError" 189)),(some (p_ "OddError" 197)),(some (.builtin "ValueError.__new__")),(some (.bool @Bool.true))]))
def o59 (x:Params):Obj:=(@Obj.mk (.type "dict") none (@Data.dict (List.toArray [(e_ x "__module__" 196 (p_ "oddbases.errors" 187)),(e_ x "__firstlineno__" 200 (j_ 2 199)),(e_ x "__static_attributes__" 201 (r_ 22)),(e_ x "__weakref__" 203 (r_ 25)),(e_ x "__doc__" 204 .none)]) 3) #[])
def o57:=t18 20 17 "oddbases.errors" 187
def o56:=t19 "OddError" 191 192 193 2 18 19 194 195
def o53:=t33 196 198 "OddError" 197 200 2 199 201 22
def o51 (x:Params):Obj:=(@Obj.mk (.type "tuple") none (@Data.seq (List.toArray [(.type "ValueError")]) 0) #[])
def o46:=t18 13 3 "__main__" 164
def o45:=t19 "<module>" 182 183 184 1 11 12 185 186
def WQ (x:Params):Obj:=(@Obj.mk .none none (@Data.fields (List.toArray ((j_ 2 0)::(j_ 0 0)::(r_ 20)::(j_ 4 0)::(j_ 0 0)::(r_ 33)::(j_ 6 0)::(j_ 0 0)::(r_ 45)::(j_ 8 0)::(j_ 0 0)::(r_ 57)::(j_ 10 0)::(j_ 0 0)::(r_ 69)::(j_ 12 0)::(j_ 0 0)::(r_ 81)::(j_ 14 0)::(j_ 0 0)::(r_ 93)::(j_ 16 0)::(j_ 0 0)::(r_ 105)::(j_ 19 0)::(j_ 0 0)::(r_ 117)::(j_ 23 0)::(j_ 0 0)::(r_ 124)::(j_ 29 0)::(j_ 0 0)::(r_ 131)::(j_ 31 0)::(j_ 0 0)::(r_ 138)::(j_ 33 0)::(j_ 0 0)::(r_ 145)::(j_ 37 0)::(j_ 0 0)::(r_ 152)::(j_ 43 0)::(j_ 0 0)::(r_ 159)::(j_ 50 0)::(j_ 0 0)::(r_ 166)::(j_ 54 0)::(j_ 0 0)::(r_ 173)::(j_ 81 0)::(j_ 0 0)::(r_ 229)::(j_ 91 0)::(j_ 0 0)::(r_ 262)::(j_ 104 0)::(j_ 0 0)::(r_ 302)::(j_ 120 0)::(j_ 0 0)::(r_ 349)::(j_ 130 0)::(j_ 0 0)::(r_ 382)::(j_ 154 0)::(j_ 0 0)::(r_ 429)::(j_ 178 0)::(j_ 0 0)::(r_ 483)::(j_ 193 0)::(j_ 0 0)::(r_ 490)::(j_ 196 0)::(j_ 0 0)::(r_ 497)::(j_ 202 0)::(j_ 0 0)::(r_ 504)::(j_ 207 0)::(j_ 0 0)::(r_ 511)::(j_ 213 0)::(j_ 0 0)::(r_ 518)::(j_ 217 0)::(j_ 0 0)::(r_ 525)::(j_ 222 0)::(j_ 0 0)::(r_ 532)::(j_ 230 0)::(j_ 0 0)::(r_ 539)::(j_ 237 0)::(j_ 0 0)::(r_ 546)::(j_ 242 0)::(j_ 0 0)::(r_ 553)::(j_ 254 0)::(j_ 0 0)::(r_ 560)::(j_ 260 0)::(j_ 0 0)::(r_ 567)::(j_ 265 0)::(j_ 0 0)::(r_ 574)::(j_ 271 0)::(j_ 0 0)::(r_ 581)::(j_ 278 0)::(j_ 0 0)::(r_ 588)::(j_ 292 0)::(j_ 0 0)::(r_ 595)::(j_ 300 0)::(j_ 0 0)::(r_ 602)::(j_ 304 0)::(j_ 0 0)::(r_ 609)::(j_ 314 0)::(j_ 0 0)::(r_ 616)::(j_ 318 0)::(j_ 0 0)::(r_ 623)::(j_ 326 0)::(j_ 0 0)::(r_ 630)::(j_ 340 0)::(j_ 0 0)::(r_ 637)::(j_ 348 0)::(j_ 0 0)::(r_ 644)::(j_ 365 0)::(j_ 0 0)::(r_ 651)::(j_ 372 0)::(j_ 0 0)::(r_ 656)::(j_ 383 0)::(j_ 0 0)::(r_ 663)::(j_ 385 0)::(j_ 0 0)::(r_ 670)::(j_ 390 0)::(j_ 0 0)::(r_ 677)::(j_ 398 0)::(j_ 0 0)::(r_ 682)::[]))) #[])
def aq (x:Params):Obj:=(@Obj.mk (.type "dict") none (@Data.dict (List.toArray ((e_ x "__name__" 165 (p_ "law_oddbases_k67_whole_order" 956))::(e_ x "__doc__" 166 .none)::(e_ x "__package__" 167 .none)::(U0 x)::(e_ x "__spec__" 169 .none)::(U2 x)::(e_ x "__builtins__" 171 (r_ 4))::(U1 x)::(e_ x "__cached__" 174 .none)::(e_ x "OddError" 206 (r_ 24))::(e_ x "NoWay" 222 (r_ 37))::(e_ x "NoNumber" 238 (r_ 49))::(e_ x "NoWriting" 254 (r_ 61))::(e_ x "TooLess" 270 (r_ 73))::(e_ x "NoRatio" 286 (r_ 85))::(e_ x "NoPairs" 302 (r_ 97))::(e_ x "NoText" 318 (r_ 109))::(e_ x "thing_at" 328 (r_ 118))::(e_ x "trimmed" 336 (r_ 125))::(e_ x "is_whole" 345 (r_ 132))::(e_ x "is_pair" 352 (r_ 139))::(e_ x "as_pair" 359 (r_ 146))::(e_ x "added" 369 (r_ 153))::(e_ x "multiplied" 379 (r_ 160))::(e_ x "bounded" 390 (r_ 167))::(e_ x "Way" 464 (r_ 219))::(e_ x "Plain" 505 (r_ 254))::(e_ x "Below" 554 (r_ 294))::(e_ x "Balanced" 611 (r_ 341))::(e_ x "Growing" 652 (r_ 374))::(e_ x "Falling" 715 (r_ 421))::(e_ x "Pairs" 784 (r_ 475))::(e_ x "figures_and_carries" 799 (r_ 484))::(e_ x "settled" 807 (r_ 491))::(e_ x "has_figures_alone" 819 (r_ 575))::(e_ x "has_figures_alone_writings" 820 (r_ 498))::(e_ x "has_mosts_above_noughts_alone" 829 (r_ 505))::(e_ x "is_writing" 837 (r_ 512))::(e_ x "held_to_be_writings" 846 (r_ 519))::(e_ x "worth" 857 (r_ 526))::(e_ x "written_by_weights" 868 (r_ 533))::(e_ x "written" 876 (r_ 540))::(e_ x "parting" 887 (r_ 547))::(e_ x "order" 898 (r_ 554))::(e_ x "as_wanted" 908 (r_ 561))::(e_ x "moved" 917 (r_ 568))::(e_ x "FIGURES" 921 (p_ "0123456789" 920))::(e_ x "has_figures_alone_texts" 930 (r_ 575))::(e_ x "whole_read" 938 (r_ 582))::(e_ x "way_made" 946 (r_ 589))::(e_ x "way_read" 955 (r_ 596))::(e_ x "_law_cell_at" 965 (r_ 603))::(e_ x "_law_way" 974 (r_ 610))::(e_ x "_law_low" 981 (r_ 617))::(e_ x "_law_high" 989 (r_ 624))::(e_ x "_law_drawn" 1004 (r_ 631))::(e_ x "_law_falling_worth" 1016 (r_ 638))::(e_ x "_law_worth" 1027 (r_ 645))::(e_ x "_law_is_writing" 1036 (r_ 652))::(e_ x "_law_row" 1042 (r_ 657))::(e_ x "_law_sign" 1050 (r_ 664))::(e_ x "_law_held" 1061 (r_ 671))::(e_ x "_law_sorted" 1072 (r_ 678))::(e_ x "law" 1078 (r_ 683))::[])) 64) #[])
def UQ (x:Params):Obj:=(@Obj.mk .none none (@Data.fields (List.toArray ((j_ 2 0)::(j_ 0 0)::(r_ 20)::(j_ 4 0)::(j_ 0 0)::(r_ 33)::(j_ 6 0)::(j_ 0 0)::(r_ 45)::(j_ 8 0)::(j_ 0 0)::(r_ 57)::(j_ 10 0)::(j_ 0 0)::(r_ 69)::(j_ 12 0)::(j_ 0 0)::(r_ 81)::(j_ 14 0)::(j_ 0 0)::(r_ 93)::(j_ 16 0)::(j_ 0 0)::(r_ 105)::(j_ 19 0)::(j_ 0 0)::(r_ 117)::(j_ 23 0)::(j_ 0 0)::(r_ 124)::(j_ 29 0)::(j_ 0 0)::(r_ 131)::(j_ 31 0)::(j_ 0 0)::(r_ 138)::(j_ 33 0)::(j_ 0 0)::(r_ 145)::(j_ 37 0)::(j_ 0 0)::(r_ 152)::(j_ 43 0)::(j_ 0 0)::(r_ 159)::(j_ 50 0)::(j_ 0 0)::(r_ 166)::(j_ 54 0)::(j_ 0 0)::(r_ 173)::(j_ 81 0)::(j_ 0 0)::(r_ 229)::(j_ 91 0)::(j_ 0 0)::(r_ 262)::(j_ 104 0)::(j_ 0 0)::(r_ 302)::(j_ 120 0)::(j_ 0 0)::(r_ 349)::[]))) #[])
def UP (x:Params):Obj:=(@Obj.mk (.type "type") none (@Data.cls (@ClassData.mk (.ofString "Way") [(.type "object")] [(r_ 219),(.type "object")] 218 (.ofString "Way") @Bool.true [] [(r_ 254),(r_ 294),(r_ 341),(r_ 374)] @Bool.false (@Option.none @Bool) @Bool.false)) (@List.toArray (@Option @Value) [none,none,(some (p_ "Way" 391)),(some (p_ "Way" 399)),(some (.builtin "object.__new__")),(some (.bool @Bool.true))]))
def UR (x:Params):Obj:=(@Obj.mk (.type "dict") none (@Data.dict (List.toArray [(e_ x "__name__" 165 (p_ "oddbases.ways" 380)),(e_ x "__doc__" 166 .none),(e_ x "__package__" 167 .none),(U0 x),(e_ x "__spec__" 169 .none),(U2 x),(e_ x "__builtins__" 171 (r_ 4)),(U1 x),(e_ x "__cached__" 174 .none),(e_ x "OddError" 206 (r_ 24)),(e_ x "NoWay" 222 (r_ 37)),(e_ x "NoNumber" 238 (r_ 49)),(e_ x "NoWriting" 254 (r_ 61)),(e_ x "TooLess" 270 (r_ 73)),(e_ x "NoRatio" 286 (r_ 85)),(e_ x "NoPairs" 302 (r_ 97)),(e_ x "NoText" 318 (r_ 109)),(e_ x "thing_at" 328 (r_ 118)),(e_ x "trimmed" 336 (r_ 125)),(e_ x "is_whole" 345 (r_ 132)),(e_ x "is_pair" 352 (r_ 139)),(e_ x "as_pair" 359 (r_ 146)),(e_ x "added" 369 (r_ 153)),(e_ x "multiplied" 379 (r_ 160)),(e_ x "bounded" 390 (r_ 167)),(e_ x "Way" 464 (r_ 219)),(e_ x "Plain" 505 (r_ 254)),(e_ x "Below" 554 (r_ 294)),(e_ x "Balanced" 611 (r_ 341)),(e_ x "Growing" 652 (r_ 374))]) 30) #[])
def US (x:Params):Obj:=(@Obj.mk .none none (@Data.fields (List.toArray [(j_ 2 0),(j_ 0 0),(r_ 20),(j_ 4 0),(j_ 0 0),(r_ 33),(j_ 6 0),(j_ 0 0),(r_ 45),(j_ 8 0),(j_ 0 0),(r_ 57),(j_ 10 0),(j_ 0 0),(r_ 69),(j_ 12 0),(j_ 0 0),(r_ 81),(j_ 14 0),(j_ 0 0),(r_ 93),(j_ 16 0),(j_ 0 0),(r_ 105),(j_ 19 0),(j_ 0 0),(r_ 117),(j_ 23 0),(j_ 0 0),(r_ 124),(j_ 29 0),(j_ 0 0),(r_ 131),(j_ 31 0),(j_ 0 0),(r_ 138),(j_ 33 0),(j_ 0 0),(r_ 145),(j_ 37 0),(j_ 0 0),(r_ 152),(j_ 43 0),(j_ 0 0),(r_ 159),(j_ 50 0),(j_ 0 0),(r_ 166)])) #[])
def UT (x:Params):Obj:=(@Obj.mk (.type "dict") none (@Data.dict (List.toArray [(e_ x "__name__" 165 (p_ "oddbases.ways" 380)),(e_ x "__doc__" 166 .none),(e_ x "__package__" 167 .none),(U0 x),(e_ x "__spec__" 169 .none),(U2 x),(e_ x "__builtins__" 171 (r_ 4)),(U1 x),(e_ x "__cached__" 174 .none),(e_ x "OddError" 206 (r_ 24)),(e_ x "NoWay" 222 (r_ 37)),(e_ x "NoNumber" 238 (r_ 49)),(e_ x "NoWriting" 254 (r_ 61)),(e_ x "TooLess" 270 (r_ 73)),(e_ x "NoRatio" 286 (r_ 85)),(e_ x "NoPairs" 302 (r_ 97)),(e_ x "NoText" 318 (r_ 109)),(e_ x "thing_at" 328 (r_ 118)),(e_ x "trimmed" 336 (r_ 125)),(e_ x "is_whole" 345 (r_ 132)),(e_ x "is_pair" 352 (r_ 139)),(e_ x "as_pair" 359 (r_ 146)),(e_ x "added" 369 (r_ 153)),(e_ x "multiplied" 379 (r_ 160)),(e_ x "bounded" 390 (r_ 167))]) 25) #[])
abbrev Y3:=N_ zg (L_ zb) Z_
abbrev Y2:=N_ zg (L_ zg) Z_
abbrev Y1:=N_ zb (L_ zg) Z_
abbrev Y0:=N_ zb (L_ zb) Z_
def myAs:List Nat:=((nat_lit 2)::(nat_lit 3)::(nat_lit 15)::(nat_lit 22)::(nat_lit 23)::(nat_lit 24)::(nat_lit 25)::(nat_lit 28)::(nat_lit 35)::(nat_lit 36)::(nat_lit 37)::(nat_lit 40)::(nat_lit 47)::(nat_lit 48)::(nat_lit 49)::(nat_lit 52)::(nat_lit 59)::(nat_lit 60)::(nat_lit 61)::(nat_lit 64)::(nat_lit 71)::(nat_lit 72)::(nat_lit 73)::(nat_lit 76)::(nat_lit 83)::(nat_lit 84)::(nat_lit 85)::(nat_lit 88)::(nat_lit 95)::(nat_lit 96)::(nat_lit 97)::(nat_lit 100)::(nat_lit 107)::(nat_lit 108)::(nat_lit 109)::(nat_lit 112)::(nat_lit 114)::(nat_lit 115)::(nat_lit 117)::(nat_lit 118)::(nat_lit 119)::(nat_lit 121)::(nat_lit 122)::(nat_lit 124)::(nat_lit 125)::(nat_lit 126)::(nat_lit 128)::(nat_lit 129)::(nat_lit 131)::(nat_lit 132)::(nat_lit 133)::(nat_lit 135)::(nat_lit 136)::(nat_lit 138)::(nat_lit 139)::(nat_lit 140)::(nat_lit 142)::(nat_lit 143)::(nat_lit 145)::(nat_lit 146)::(nat_lit 147)::(nat_lit 149)::(nat_lit 150)::(nat_lit 152)::(nat_lit 153)::(nat_lit 154)::(nat_lit 156)::(nat_lit 157)::(nat_lit 159)::(nat_lit 160)::(nat_lit 161)::(nat_lit 163)::(nat_lit 164)::(nat_lit 166)::(nat_lit 167)::(nat_lit 175)::(nat_lit 177)::(nat_lit 178)::(nat_lit 180)::(nat_lit 181)::(nat_lit 182)::(nat_lit 184)::(nat_lit 185)::(nat_lit 187)::(nat_lit 188)::(nat_lit 189)::(nat_lit 191)::(nat_lit 192)::(nat_lit 194)::(nat_lit 195)::(nat_lit 196)::(nat_lit 198)::(nat_lit 199)::(nat_lit 201)::(nat_lit 202)::(nat_lit 203)::(nat_lit 205)::(nat_lit 206)::(nat_lit 208)::(nat_lit 209)::(nat_lit 210)::(nat_lit 212)::(nat_lit 213)::(nat_lit 215)::(nat_lit 216)::(nat_lit 217)::(nat_lit 218)::(nat_lit 219)::(nat_lit 220)::(nat_lit 221)::(nat_lit 224)::(nat_lit 231)::(nat_lit 233)::(nat_lit 234)::(nat_lit 236)::(nat_lit 237)::(nat_lit 238)::(nat_lit 240)::(nat_lit 241)::(nat_lit 243)::(nat_lit 244)::(nat_lit 245)::(nat_lit 247)::(nat_lit 248)::(nat_lit 250)::(nat_lit 251)::(nat_lit 252)::(nat_lit 253)::(nat_lit 254)::(nat_lit 257)::(nat_lit 264)::(nat_lit 266)::(nat_lit 267)::(nat_lit 269)::(nat_lit 270)::(nat_lit 271)::(nat_lit 273)::(nat_lit 274)::(nat_lit 276)::(nat_lit 277)::(nat_lit 278)::(nat_lit 280)::(nat_lit 281)::(nat_lit 283)::(nat_lit 284)::(nat_lit 285)::(nat_lit 287)::(nat_lit 288)::(nat_lit 290)::(nat_lit 291)::(nat_lit 292)::(nat_lit 293)::(nat_lit 294)::(nat_lit 297)::(nat_lit 304)::(nat_lit 306)::(nat_lit 307)::(nat_lit 309)::(nat_lit 310)::(nat_lit 311)::(nat_lit 313)::(nat_lit 314)::(nat_lit 316)::(nat_lit 317)::(nat_lit 318)::(nat_lit 320)::(nat_lit 321)::(nat_lit 323)::(nat_lit 324)::(nat_lit 325)::(nat_lit 327)::(nat_lit 328)::(nat_lit 330)::(nat_lit 331)::(nat_lit 332)::(nat_lit 334)::(nat_lit 335)::(nat_lit 337)::(nat_lit 338)::(nat_lit 339)::(nat_lit 340)::(nat_lit 341)::(nat_lit 344)::(nat_lit 351)::(nat_lit 353)::(nat_lit 354)::(nat_lit 356)::(nat_lit 357)::(nat_lit 358)::(nat_lit 360)::(nat_lit 361)::(nat_lit 363)::(nat_lit 364)::(nat_lit 365)::(nat_lit 367)::(nat_lit 368)::(nat_lit 370)::(nat_lit 371)::(nat_lit 372)::(nat_lit 373)::(nat_lit 374)::(nat_lit 377)::(nat_lit 384)::(nat_lit 386)::(nat_lit 387)::(nat_lit 389)::(nat_lit 390)::(nat_lit 391)::(nat_lit 393)::(nat_lit 394)::(nat_lit 396)::(nat_lit 397)::(nat_lit 398)::(nat_lit 400)::(nat_lit 401)::(nat_lit 403)::(nat_lit 404)::(nat_lit 405)::(nat_lit 407)::(nat_lit 408)::(nat_lit 410)::(nat_lit 411)::(nat_lit 412)::(nat_lit 414)::(nat_lit 415)::(nat_lit 417)::(nat_lit 418)::(nat_lit 419)::(nat_lit 420)::(nat_lit 421)::(nat_lit 424)::(nat_lit 431)::(nat_lit 433)::(nat_lit 434)::(nat_lit 436)::(nat_lit 437)::(nat_lit 438)::(nat_lit 440)::(nat_lit 441)::(nat_lit 443)::(nat_lit 444)::(nat_lit 445)::(nat_lit 447)::(nat_lit 448)::(nat_lit 450)::(nat_lit 451)::(nat_lit 452)::(nat_lit 454)::(nat_lit 455)::(nat_lit 457)::(nat_lit 458)::(nat_lit 459)::(nat_lit 461)::(nat_lit 462)::(nat_lit 464)::(nat_lit 465)::(nat_lit 466)::(nat_lit 468)::(nat_lit 469)::(nat_lit 471)::(nat_lit 472)::(nat_lit 473)::(nat_lit 474)::(nat_lit 475)::(nat_lit 478)::(nat_lit 480)::(nat_lit 481)::(nat_lit 483)::(nat_lit 484)::(nat_lit 485)::(nat_lit 487)::(nat_lit 488)::(nat_lit 490)::(nat_lit 491)::(nat_lit 492)::(nat_lit 494)::(nat_lit 495)::(nat_lit 497)::(nat_lit 498)::(nat_lit 499)::(nat_lit 501)::(nat_lit 502)::(nat_lit 504)::(nat_lit 505)::(nat_lit 506)::(nat_lit 508)::(nat_lit 509)::(nat_lit 511)::(nat_lit 512)::(nat_lit 513)::(nat_lit 515)::(nat_lit 516)::(nat_lit 518)::(nat_lit 519)::(nat_lit 520)::(nat_lit 522)::(nat_lit 523)::(nat_lit 525)::(nat_lit 526)::(nat_lit 527)::(nat_lit 529)::(nat_lit 530)::(nat_lit 532)::(nat_lit 533)::(nat_lit 534)::(nat_lit 536)::(nat_lit 537)::(nat_lit 539)::(nat_lit 540)::(nat_lit 541)::(nat_lit 543)::(nat_lit 544)::(nat_lit 546)::(nat_lit 547)::(nat_lit 548)::(nat_lit 550)::(nat_lit 551)::(nat_lit 553)::(nat_lit 554)::(nat_lit 555)::(nat_lit 557)::(nat_lit 558)::(nat_lit 560)::(nat_lit 561)::(nat_lit 562)::(nat_lit 564)::(nat_lit 565)::(nat_lit 567)::(nat_lit 568)::(nat_lit 569)::(nat_lit 571)::(nat_lit 572)::(nat_lit 574)::(nat_lit 575)::(nat_lit 576)::(nat_lit 578)::(nat_lit 579)::(nat_lit 581)::(nat_lit 582)::(nat_lit 583)::(nat_lit 585)::(nat_lit 586)::(nat_lit 588)::(nat_lit 589)::(nat_lit 590)::(nat_lit 592)::(nat_lit 593)::(nat_lit 595)::(nat_lit 596)::(nat_lit 597)::(nat_lit 599)::(nat_lit 600)::(nat_lit 602)::(nat_lit 603)::(nat_lit 604)::(nat_lit 606)::(nat_lit 607)::(nat_lit 609)::(nat_lit 610)::(nat_lit 611)::(nat_lit 613)::(nat_lit 614)::(nat_lit 616)::(nat_lit 617)::(nat_lit 618)::(nat_lit 620)::(nat_lit 621)::(nat_lit 623)::(nat_lit 624)::(nat_lit 625)::(nat_lit 627)::(nat_lit 628)::(nat_lit 630)::(nat_lit 631)::(nat_lit 632)::(nat_lit 634)::(nat_lit 635)::(nat_lit 637)::(nat_lit 638)::(nat_lit 639)::(nat_lit 641)::(nat_lit 642)::(nat_lit 644)::(nat_lit 645)::(nat_lit 646)::(nat_lit 648)::(nat_lit 649)::(nat_lit 651)::(nat_lit 652)::(nat_lit 653)::(nat_lit 656)::(nat_lit 657)::(nat_lit 658)::(nat_lit 660)::(nat_lit 661)::(nat_lit 663)::(nat_lit 664)::(nat_lit 665)::(nat_lit 667)::(nat_lit 668)::(nat_lit 670)::(nat_lit 671)::(nat_lit 672)::(nat_lit 674)::(nat_lit 675)::(nat_lit 677)::(nat_lit 678)::(nat_lit 679)::(nat_lit 682)::(nat_lit 683)::[])
def h_heap_39:PySem.Params→PySem.W.Frag:=fun x=>
(nat_lit 2,(@W.boot_o_2 x))::
(nat_lit 3,(aq x))::
(nat_lit 15,(o51 x))::
(nat_lit 22,(zb x))::
(nat_lit 23,(o59 x))::
(nat_lit 24,(jx x))::
(nat_lit 25,(o61 x))::
(nat_lit 28,(ya x))::
(nat_lit 35,(zb x))::
(nat_lit 36,(o75 x))::
(nat_lit 37,(o76 x))::
(nat_lit 40,(ya x))::
(nat_lit 47,(zb x))::
(nat_lit 48,(o90 x))::
(nat_lit 49,(o91 x))::
(nat_lit 52,(ya x))::
(nat_lit 59,(zb x))::
(nat_lit 60,(jF x))::
(nat_lit 61,(jE x))::
(nat_lit 64,(ya x))::
(nat_lit 71,(zb x))::
(nat_lit 72,(jD x))::
(nat_lit 73,(jC x))::
(nat_lit 76,(ya x))::
(nat_lit 83,(zb x))::
(nat_lit 84,(jB x))::
(nat_lit 85,(jA x))::
(nat_lit 88,(ya x))::
(nat_lit 95,(zb x))::
(nat_lit 96,(jz x))::
(nat_lit 97,(jy x))::
(nat_lit 100,(ya x))::
(nat_lit 107,(zb x))::
(nat_lit 108,(jw x))::
(nat_lit 109,(jv x))::
(nat_lit 112,(zb x))::
(nat_lit 114,(ju x))::
(nat_lit 115,(zb x))::
(nat_lit 117,(jt x))::
(nat_lit 118,(jr x))::
(nat_lit 119,(zb x))::
(nat_lit 121,(jq x))::
(nat_lit 122,(zb x))::
(nat_lit 124,(jp x))::
(nat_lit 125,(jo x))::
(nat_lit 126,(zb x))::
(nat_lit 128,(jn x))::
(nat_lit 129,(zb x))::
(nat_lit 131,(jm x))::
(nat_lit 132,(jl x))::
(nat_lit 133,(zb x))::
(nat_lit 135,(jk x))::
(nat_lit 136,(zb x))::
(nat_lit 138,(jj x))::
(nat_lit 139,(ji x))::
(nat_lit 140,(zb x))::
(nat_lit 142,(jh x))::
(nat_lit 143,(zb x))::
(nat_lit 145,(jg x))::
(nat_lit 146,(jf x))::
(nat_lit 147,(zb x))::
(nat_lit 149,(je x))::
(nat_lit 150,(zb x))::
(nat_lit 152,(jd x))::
(nat_lit 153,(jc x))::
(nat_lit 154,(zb x))::
(nat_lit 156,(jb x))::
(nat_lit 157,(zb x))::
(nat_lit 159,(ja x))::
(nat_lit 160,(k_ x))::
(nat_lit 161,(zb x))::
(nat_lit 163,(kZ x))::
(nat_lit 164,(zb x))::
(nat_lit 166,(kY x))::
(nat_lit 167,(kX x))::
(nat_lit 175,(zb x))::
(nat_lit 177,(eL x))::
(nat_lit 178,(zb x))::
(nat_lit 180,(eK x))::
(nat_lit 181,(eJ x))::
(nat_lit 182,(zb x))::
(nat_lit 184,(eI x))::
(nat_lit 185,(zb x))::
(nat_lit 187,(eH x))::
(nat_lit 188,(eG x))::
(nat_lit 189,(zb x))::
(nat_lit 191,(eE x))::
(nat_lit 192,(zb x))::
(nat_lit 194,(eD x))::
(nat_lit 195,(eB x))::
(nat_lit 196,(zb x))::
(nat_lit 198,(eA x))::
(nat_lit 199,(zb x))::
(nat_lit 201,(eo x))::
(nat_lit 202,(eh x))::
(nat_lit 203,(zb x))::
(nat_lit 205,(f_ x))::
(nat_lit 206,(zb x))::
(nat_lit 208,(fZ x))::
(nat_lit 209,(fY x))::
(nat_lit 210,(zb x))::
(nat_lit 212,(fX x))::
(nat_lit 213,(zb x))::
(nat_lit 215,(fW x))::
(nat_lit 216,(fV x))::
(nat_lit 217,(zb x))::
(nat_lit 218,(fU x))::
(nat_lit 219,(Z5 x))::
(nat_lit 220,(fS x))::
(nat_lit 221,(fR x))::
(nat_lit 224,(xg x))::
(nat_lit 231,(zb x))::
(nat_lit 233,(fQ x))::
(nat_lit 234,(zb x))::
(nat_lit 236,(fP x))::
(nat_lit 237,(fO x))::
(nat_lit 238,(zb x))::
(nat_lit 240,(fN x))::
(nat_lit 241,(zb x))::
(nat_lit 243,(fM x))::
(nat_lit 244,(fL x))::
(nat_lit 245,(zb x))::
(nat_lit 247,(fK x))::
(nat_lit 248,(zb x))::
(nat_lit 250,(fJ x))::
(nat_lit 251,(fI x))::
(nat_lit 252,(fH x))::
(nat_lit 253,(fG x))::
(nat_lit 254,(fE x))::
(nat_lit 257,(xg x))::
(nat_lit 264,(zb x))::
(nat_lit 266,(fD x))::
(nat_lit 267,(zb x))::
(nat_lit 269,(fC x))::
(nat_lit 270,(fB x))::
(nat_lit 271,(zb x))::
(nat_lit 273,(fA x))::
(nat_lit 274,(zb x))::
(nat_lit 276,(fw x))::
(nat_lit 277,(fv x))::
(nat_lit 278,(zb x))::
(nat_lit 280,(fu x))::
(nat_lit 281,(zb x))::
(nat_lit 283,(ft x))::
(nat_lit 284,(fq x))::
(nat_lit 285,(zb x))::
(nat_lit 287,(fm x))::
(nat_lit 288,(zb x))::
(nat_lit 290,(fk x))::
(nat_lit 291,(fj x))::
(nat_lit 292,(fh x))::
(nat_lit 293,(ff x))::
(nat_lit 294,(fe x))::
(nat_lit 297,(xg x))::
(nat_lit 304,(zb x))::
(nat_lit 306,(fc x))::
(nat_lit 307,(zb x))::
(nat_lit 309,(fb x))::
(nat_lit 310,(g9 x))::
(nat_lit 311,(zb x))::
(nat_lit 313,(g8 x))::
(nat_lit 314,(zb x))::
(nat_lit 316,(g7 x))::
(nat_lit 317,(g6 x))::
(nat_lit 318,(zb x))::
(nat_lit 320,(gZ x))::
(nat_lit 321,(zb x))::
(nat_lit 323,(gY x))::
(nat_lit 324,(gX x))::
(nat_lit 325,(zb x))::
(nat_lit 327,(gW x))::
(nat_lit 328,(zb x))::
(nat_lit 330,(gU x))::
(nat_lit 331,(gT x))::
(nat_lit 332,(zb x))::
(nat_lit 334,(gR x))::
(nat_lit 335,(zb x))::
(nat_lit 337,(gQ x))::
(nat_lit 338,(gP x))::
(nat_lit 339,(gO x))::
(nat_lit 340,(gN x))::
(nat_lit 341,(gM x))::
(nat_lit 344,(xg x))::
(nat_lit 351,(zb x))::
(nat_lit 353,(gL x))::
(nat_lit 354,(zb x))::
(nat_lit 356,(gK x))::
(nat_lit 357,(gJ x))::
(nat_lit 358,(zb x))::
(nat_lit 360,(gH x))::
(nat_lit 361,(zb x))::
(nat_lit 363,(gG x))::
(nat_lit 364,(gF x))::
(nat_lit 365,(zb x))::
(nat_lit 367,(gE x))::
(nat_lit 368,(zb x))::
(nat_lit 370,(gC x))::
(nat_lit 371,(gB x))::
(nat_lit 372,(gA x))::
(nat_lit 373,(gz x))::
(nat_lit 374,(gx x))::
(nat_lit 377,(xg x))::
(nat_lit 384,(zb x))::
(nat_lit 386,(Yp x))::
(nat_lit 387,(zb x))::
(nat_lit 389,(Yo x))::
(nat_lit 390,(Yn x))::
(nat_lit 391,(zb x))::
(nat_lit 393,(Ym x))::
(nat_lit 394,(zb x))::
(nat_lit 396,(Yl x))::
(nat_lit 397,(Yk x))::
(nat_lit 398,(zb x))::
(nat_lit 400,(Yj x))::
(nat_lit 401,(zb x))::
(nat_lit 403,(Yi x))::
(nat_lit 404,(Yh x))::
(nat_lit 405,(zb x))::
(nat_lit 407,(Yg x))::
(nat_lit 408,(zb x))::
(nat_lit 410,(Ye x))::
(nat_lit 411,(Yd x))::
(nat_lit 412,(zb x))::
(nat_lit 414,(Yc x))::
(nat_lit 415,(zb x))::
(nat_lit 417,(Yb x))::
(nat_lit 418,(Z9 x))::
(nat_lit 419,(Z8 x))::
(nat_lit 420,(Z7 x))::
(nat_lit 421,(Z6 x))::
(nat_lit 424,(xg x))::
(nat_lit 431,(zb x))::
(nat_lit 433,(Z4 x))::
(nat_lit 434,(zb x))::
(nat_lit 436,(Z3 x))::
(nat_lit 437,(Z2 x))::
(nat_lit 438,(zb x))::
(nat_lit 440,(Z1 x))::
(nat_lit 441,(zb x))::
(nat_lit 443,(Z0 x))::
(nat_lit 444,(ZZ x))::
(nat_lit 445,(zb x))::
(nat_lit 447,(ZY x))::
(nat_lit 448,(zb x))::
(nat_lit 450,(ZX x))::
(nat_lit 451,(ZW x))::
(nat_lit 452,(zb x))::
(nat_lit 454,(ZV x))::
(nat_lit 455,(zb x))::
(nat_lit 457,(ZU x))::
(nat_lit 458,(ZT x))::
(nat_lit 459,(zb x))::
(nat_lit 461,(ZS x))::
(nat_lit 462,(zb x))::
(nat_lit 464,(ZR x))::
(nat_lit 465,(ZQ x))::
(nat_lit 466,(zb x))::
(nat_lit 468,(ZP x))::
(nat_lit 469,(zb x))::
(nat_lit 471,(ZO x))::
(nat_lit 472,(ZN x))::
(nat_lit 473,(ZM x))::
(nat_lit 474,(ZL x))::
(nat_lit 475,(ZK x))::
(nat_lit 478,(zb x))::
(nat_lit 480,(ZJ x))::
(nat_lit 481,(zb x))::
(nat_lit 483,(ZI x))::
(nat_lit 484,(ZH x))::
(nat_lit 485,(zb x))::
(nat_lit 487,(ZG x))::
(nat_lit 488,(zb x))::
(nat_lit 490,(ZF x))::
(nat_lit 491,(ZE x))::
(nat_lit 492,(zb x))::
(nat_lit 494,(ZD x))::
(nat_lit 495,(zb x))::
(nat_lit 497,(ZC x))::
(nat_lit 498,(ZB x))::
(nat_lit 499,(zb x))::
(nat_lit 501,(ZA x))::
(nat_lit 502,(zb x))::
(nat_lit 504,(Zz x))::
(nat_lit 505,(Zy x))::
(nat_lit 506,(zb x))::
(nat_lit 508,(Zw x))::
(nat_lit 509,(zb x))::
(nat_lit 511,(Zv x))::
(nat_lit 512,(Zu x))::
(nat_lit 513,(zb x))::
(nat_lit 515,(Zt x))::
(nat_lit 516,(zb x))::
(nat_lit 518,(Zs x))::
(nat_lit 519,(Zr x))::
(nat_lit 520,(zb x))::
(nat_lit 522,(Zq x))::
(nat_lit 523,(zb x))::
(nat_lit 525,(Zp x))::
(nat_lit 526,(Zo x))::
(nat_lit 527,(zb x))::
(nat_lit 529,(Zm x))::
(nat_lit 530,(zb x))::
(nat_lit 532,(Zl x))::
(nat_lit 533,(Zk x))::
(nat_lit 534,(zb x))::
(nat_lit 536,(Zj x))::
(nat_lit 537,(zb x))::
(nat_lit 539,(Zi x))::
(nat_lit 540,(Zh x))::
(nat_lit 541,(zb x))::
(nat_lit 543,(Zg x))::
(nat_lit 544,(zb x))::
(nat_lit 546,(Zf x))::
(nat_lit 547,(Ze x))::
(nat_lit 548,(zb x))::
(nat_lit 550,(Zd x))::
(nat_lit 551,(zb x))::
(nat_lit 553,(Zc x))::
(nat_lit 554,(Zb x))::
(nat_lit 555,(zb x))::
(nat_lit 557,(Za x))::
(nat_lit 558,(zb x))::
(nat_lit 560,(a_ x))::
(nat_lit 561,(aZ x))::
(nat_lit 562,(zb x))::
(nat_lit 564,(aY x))::
(nat_lit 565,(zb x))::
(nat_lit 567,(aX x))::
(nat_lit 568,(aW x))::
(nat_lit 569,(zb x))::
(nat_lit 571,(aV x))::
(nat_lit 572,(zb x))::
(nat_lit 574,(aU x))::
(nat_lit 575,(aS x))::
(nat_lit 576,(zb x))::
(nat_lit 578,(aR x))::
(nat_lit 579,(zb x))::
(nat_lit 581,(aQ x))::
(nat_lit 582,(aP x))::
(nat_lit 583,(zb x))::
(nat_lit 585,(aO x))::
(nat_lit 586,(zb x))::
(nat_lit 588,(aN x))::
(nat_lit 589,(aM x))::
(nat_lit 590,(zb x))::
(nat_lit 592,(aL x))::
(nat_lit 593,(zb x))::
(nat_lit 595,(aK x))::
(nat_lit 596,(aJ x))::
(nat_lit 597,(zb x))::
(nat_lit 599,(aI x))::
(nat_lit 600,(zb x))::
(nat_lit 602,(aH x))::
(nat_lit 603,(aG x))::
(nat_lit 604,(zb x))::
(nat_lit 606,(aF x))::
(nat_lit 607,(zb x))::
(nat_lit 609,(aE x))::
(nat_lit 610,(aD x))::
(nat_lit 611,(zb x))::
(nat_lit 613,(aC x))::
(nat_lit 614,(zb x))::
(nat_lit 616,(aB x))::
(nat_lit 617,(aA x))::
(nat_lit 618,(zb x))::
(nat_lit 620,(az x))::
(nat_lit 621,(zb x))::
(nat_lit 623,(ay x))::
(nat_lit 624,(ax x))::
(nat_lit 625,(zb x))::
(nat_lit 627,(aw x))::
(nat_lit 628,(zb x))::
(nat_lit 630,(av x))::
(nat_lit 631,(au x))::
(nat_lit 632,(zb x))::
(nat_lit 634,(ap x))::
(nat_lit 635,(zb x))::
(nat_lit 637,(ao x))::
(nat_lit 638,(al x))::
(nat_lit 639,(zb x))::
(nat_lit 641,(ak x))::
(nat_lit 642,(zb x))::
(nat_lit 644,(aj x))::
(nat_lit 645,(ai x))::
(nat_lit 646,(zb x))::
(nat_lit 648,(ah x))::
(nat_lit 649,(zb x))::
(nat_lit 651,(ag x))::
(nat_lit 652,(af x))::
(nat_lit 653,(zb x))::
(nat_lit 656,(ae x))::
(nat_lit 657,(ad x))::
(nat_lit 658,(zb x))::
(nat_lit 660,(ac x))::
(nat_lit 661,(zb x))::
(nat_lit 663,(aa x))::
(nat_lit 664,(b_ x))::
(nat_lit 665,(zb x))::
(nat_lit 667,(bZ x))::
(nat_lit 668,(zb x))::
(nat_lit 670,(bY x))::
(nat_lit 671,(bX x))::
(nat_lit 672,(zb x))::
(nat_lit 674,(bW x))::
(nat_lit 675,(zb x))::
(nat_lit 677,(bV x))::
(nat_lit 678,(bU x))::
(nat_lit 679,(zb x))::
(nat_lit 682,(bT x))::
(nat_lit 683,(bS x))::[]
def h_view_39:PySem.Program:={ PySem.Challenge.pw_oddbases_k67_whole_order with main:={ PySem.Challenge.pw_oddbases_k67_whole_order.main with body:=[My.top 1,My.top 2,My.top 3,My.top 4,My.top 5,My.top 6,My.top 7,My.top 8,My.top 10,My.top 11,My.top 13,My.top 14,My.top 15,My.top 16,My.top 17,My.top 19,My.top 20,My.top 21,My.top 22,My.top 23,My.top 24,My.top 25,My.top 26,My.top 28,My.top 29,My.top 32,My.top 33,My.top 34,My.top 35,My.top 36,My.top 37,My.top 38,My.top 40,My.top 41,My.top 43,My.top 44,My.top 46,My.top 47,My.top 48,My.top 49,My.top 50,My.top 51,My.top 53,My.top 54,My.top 55,My.top 56,My.top 57,My.top 58,My.top 59,My.top 60,My.top 61,My.top 62,My.top 63,My.top 64,My.top 65] } }
def xa:((x:@Params)→@Heap):=(fun x=>(@Heap.mk (@Array.mk @Obj ((@W.boot_o_0 x)::(@W.boot_o_1 x)::(@W.boot_o_2 x)::(aq x)::(@W.boot_o_4 x)::(@W.boot_o_5 x)::(@W.boot_o_6 x)::(@W.boot_o_7 x)::(@W.boot_o_8 x)::(@W.boot_o_9 x)::(@W.boot_o_10 x)::(zb x)::(WQ x)::(o45 x)::(o46 x)::(o51 x)::(zH x)::(o53 x)::(zb x)::(zg x)::(o56 x)::(o57 x)::(zb x)::(o59 x)::(jx x)::(o61 x)::(o62 x)::(o63 x)::(ya x)::(zH x)::(o69 x)::(zb x)::(zg x)::(o72 x)::(o73 x)::(zb x)::(o75 x)::(o76 x)::(o77 x)::(o78 x)::(ya x)::(zH x)::(o84 x)::(zb x)::(zg x)::(o87 x)::(o88 x)::(zb x)::(o90 x)::(o91 x)::(o92 x)::(o93 x)::(ya x)::(zH x)::(o99 x)::(zb x)::(zg x)::(dG x)::(dF x)::(zb x)::(jF x)::(jE x)::(dE x)::(dD x)::(ya x)::(zH x)::(dB x)::(zb x)::(zg x)::(dA x)::(dz x)::(zb x)::(jD x)::(jC x)::(dw x)::(du x)::(ya x)::(zH x)::(dr x)::(zb x)::(zg x)::(dq x)::(dn x)::(zb x)::(jB x)::(jA x)::(dm x)::(dk x)::(ya x)::(zH x)::(dj x)::(zb x)::(zg x)::(df x)::(db x)::(zb x)::(jz x)::(jy x)::(e9 x)::(e8 x)::(ya x)::(zH x)::(e7 x)::(zb x)::(zg x)::(eZ x)::(eY x)::(zb x)::(jw x)::(jv x)::(eX x)::(eW x)::(zb x)::(zg x)::(ju x)::(zb x)::(eV x)::(jt x)::(jr x)::(zb x)::(zg x)::(jq x)::(zb x)::(eT x)::(jp x)::(jo x)::(zb x)::(zg x)::(jn x)::(zb x)::(eS x)::(jm x)::(jl x)::(zb x)::(zg x)::(jk x)::(zb x)::(eQ x)::(jj x)::(ji x)::(zb x)::(zg x)::(jh x)::(zb x)::(eP x)::(jg x)::(jf x)::(zb x)::(zg x)::(je x)::(zb x)::(eO x)::(jd x)::(jc x)::(zb x)::(zg x)::(jb x)::(zb x)::(eN x)::(ja x)::(k_ x)::(zb x)::(zg x)::(kZ x)::(zb x)::(eM x)::(kY x)::(kX x)::(zb x)::(zH x)::(Xi x)::(zb x)::(Xh x)::(Xg x)::(Xf x)::(zb x)::(zg x)::(eL x)::(zb x)::(Xe x)::(eK x)::(eJ x)::(zb x)::(zg x)::(eI x)::(zb x)::(Xd x)::(eH x)::(eG x)::(zb x)::(zg x)::(eE x)::(zb x)::(Xc x)::(eD x)::(eB x)::(zb x)::(zg x)::(eA x)::(zb x)::(Xb x)::(eo x)::(eh x)::(zb x)::(zg x)::(f_ x)::(zb x)::(Xa x)::(fZ x)::(fY x)::(zb x)::(zg x)::(fX x)::(zb x)::(Y_ x)::(fW x)::(fV x)::(zb x)::(fU x)::(Z5 x)::(fS x)::(fR x)::(Y9 x)::(Y8 x)::(xg x)::(zH x)::(Y7 x)::(zb x)::(Y6 x)::(Y5 x)::(Y4 x)::(zb x)::(zg x)::(fQ x)::(zb x)::(YZ x)::(fP x)::(fO x)::(zb x)::(zg x)::(fN x)::(zb x)::(YY x)::(fM x)::(fL x)::(zb x)::(zg x)::(fK x)::(zb x)::(YX x)::(fJ x)::(fI x)::(fH x)::(fG x)::(fE x)::(YW x)::(YV x)::(xg x)::(zH x)::(YU x)::(zb x)::(YT x)::(YS x)::(YR x)::(zb x)::(zg x)::(fD x)::(zb x)::(YQ x)::(fC x)::(fB x)::(zb x)::(zg x)::(fA x)::(zb x)::(YO x)::(fw x)::(fv x)::(zb x)::(zg x)::(fu x)::(zb x)::(YN x)::(ft x)::(fq x)::(zb x)::(zg x)::(fm x)::(zb x)::(YM x)::(fk x)::(fj x)::(fh x)::(ff x)::(fe x)::(YL x)::(YK x)::(xg x)::(zH x)::(YJ x)::(zb x)::(YI x)::(YH x)::(YG x)::(zb x)::(zg x)::(fc x)::(zb x)::(YF x)::(fb x)::(g9 x)::(zb x)::(zg x)::(g8 x)::(zb x)::(YE x)::(g7 x)::(g6 x)::(zb x)::(zg x)::(gZ x)::(zb x)::(YD x)::(gY x)::(gX x)::(zb x)::(zg x)::(gW x)::(zb x)::(YC x)::(gU x)::(gT x)::(zb x)::(zg x)::(gR x)::(zb x)::(YB x)::(gQ x)::(gP x)::(gO x)::(gN x)::(gM x)::(YA x)::(Yz x)::(xg x)::(zH x)::(Yy x)::(zb x)::(Yx x)::(Yw x)::(Yv x)::(zb x)::(zg x)::(gL x)::(zb x)::(Yu x)::(gK x)::(gJ x)::(zb x)::(zg x)::(gH x)::(zb x)::(Yt x)::(gG x)::(gF x)::(zb x)::(zg x)::(gE x)::(zb x)::(Ys x)::(gC x)::(gB x)::(gA x)::(gz x)::(gx x)::(Yr x)::(Yq x)::(xg x)::(zH x)::(VF x)::(zb x)::(VE x)::(VD x)::(VC x)::(zb x)::(zg x)::(Yp x)::(zb x)::(VB x)::(Yo x)::(Yn x)::(zb x)::(zg x)::(Ym x)::(zb x)::(VA x)::(Yl x)::(Yk x)::(zb x)::(zg x)::(Yj x)::(zb x)::(Vz x)::(Yi x)::(Yh x)::(zb x)::(zg x)::(Yg x)::(zb x)::(Vy x)::(Ye x)::(Yd x)::(zb x)::(zg x)::(Yc x)::(zb x)::(Vx x)::(Yb x)::(Z9 x)::(Z8 x)::(Z7 x)::(Z6 x)::(Vv x)::(Vu x)::(xg x)::(zH x)::(Vs x)::(zb x)::(Vr x)::(Vq x)::(Vp x)::(zb x)::(zg x)::(Z4 x)::(zb x)::(Vo x)::(Z3 x)::(Z2 x)::(zb x)::(zg x)::(Z1 x)::(zb x)::(Vn x)::(Z0 x)::(ZZ x)::(zb x)::(zg x)::(ZY x)::(zb x)::(Vm x)::(ZX x)::(ZW x)::(zb x)::(zg x)::(ZV x)::(zb x)::(Vl x)::(ZU x)::(ZT x)::(zb x)::(zg x)::(ZS x)::(zb x)::(Vk x)::(ZR x)::(ZQ x)::(zb x)::(zg x)::(ZP x)::(zb x)::(Vj x)::(ZO x)::(ZN x)::(ZM x)::(ZL x)::(ZK x)::(Vi x)::(Vh x)::(zb x)::(zg x)::(ZJ x)::(zb x)::(Vg x)::(ZI x)::(ZH x)::(zb x)::(zg x)::(ZG x)::(zb x)::(Vf x)::(ZF x)::(ZE x)::(zb x)::(zg x)::(ZD x)::(zb x)::(Ve x)::(ZC x)::(ZB x)::(zb x)::(zg x)::(ZA x)::(zb x)::(Vd x)::(Zz x)::(Zy x)::(zb x)::(zg x)::(Zw x)::(zb x)::(Vc x)::(Zv x)::(Zu x)::(zb x)::(zg x)::(Zt x)::(zb x)::(Vb x)::(Zs x)::(Zr x)::(zb x)::(zg x)::(Zq x)::(zb x)::(Va x)::(Zp x)::(Zo x)::(zb x)::(zg x)::(Zm x)::(zb x)::(W_ x)::(Zl x)::(Zk x)::(zb x)::(zg x)::(Zj x)::(zb x)::(W9 x)::(Zi x)::(Zh x)::(zb x)::(zg x)::(Zg x)::(zb x)::(W8 x)::(Zf x)::(Ze x)::(zb x)::(zg x)::(Zd x)::(zb x)::(W7 x)::(Zc x)::(Zb x)::(zb x)::(zg x)::(Za x)::(zb x)::(W6 x)::(a_ x)::(aZ x)::(zb x)::(zg x)::(aY x)::(zb x)::(W5 x)::(aX x)::(aW x)::(zb x)::(zg x)::(aV x)::(zb x)::(WZ x)::(aU x)::(aS x)::(zb x)::(zg x)::(aR x)::(zb x)::(WY x)::(aQ x)::(aP x)::(zb x)::(zg x)::(aO x)::(zb x)::(WX x)::(aN x)::(aM x)::(zb x)::(zg x)::(aL x)::(zb x)::(WW x)::(aK x)::(aJ x)::(zb x)::(zg x)::(aI x)::(zb x)::(WV x)::(aH x)::(aG x)::(zb x)::(zg x)::(aF x)::(zb x)::(WU x)::(aE x)::(aD x)::(zb x)::(zg x)::(aC x)::(zb x)::(WT x)::(aB x)::(aA x)::(zb x)::(zg x)::(az x)::(zb x)::(WS x)::(ay x)::(ax x)::(zb x)::(zg x)::(aw x)::(zb x)::(WR x)::(av x)::(au x)::(zb x)::(zg x)::(ap x)::(zb x)::(WP x)::(ao x)::(al x)::(zb x)::(zg x)::(ak x)::(zb x)::(WO x)::(aj x)::(ai x)::(zb x)::(zg x)::(ah x)::(zb x)::(WN x)::(ag x)::(af x)::(zb x)::(zg x)::(WM x)::(ae x)::(ad x)::(zb x)::(zg x)::(ac x)::(zb x)::(WL x)::(aa x)::(b_ x)::(zb x)::(zg x)::(bZ x)::(zb x)::(WK x)::(bY x)::(bX x)::(zb x)::(zg x)::(bW x)::(zb x)::(WJ x)::(bV x)::(bU x)::(zb x)::(zg x)::(WI x)::(bT x)::(bS x)::[])) (@Life.mk [] [] [] 0 (@List.nil (@Prod @Nat @Nat)) [] @Bool.false #[] [] 0 @Bool.false @Bool.false @Bool.false (0:Int) [(2000:Int),(10:Int),(10:Int)] @Bool.false 0 @Bool.true [] [] 0 @Bool.false)))
def yw:@Env:=(@Env.mk (@Module.scope (@Program.main ((@W.OpenRow.toRowW (@W.OpenLaw.row @Challenge.rw_oddbases_k67_whole_order))).1)) @mainNs @mainNs (@List.nil (@Prod @Str @Addr)) @Str.empty (@Option.none @Addr) (r_ 13) (@some @Addr (@OfNat.ofNat @Addr 14 (@instOfNatNat 14))) (@OfNat.ofNat @Addr 0 (@instOfNatNat 0)))
def nj:=N_ W.boot_o_0 (N_ W.boot_o_1 (N_ aq (N_ W.boot_o_7 (N_ o51 (N_ zb (N_ dD (N_ zg (N_ YW (L_ Zv) Z_) (N_ VC (L_ zb) Z_)) (N_ eE (N_ zg (L_ aS) Z_) (L_ ZY))) (N_ zb (N_ ja (N_ fm (L_ Zg) Z_) (N_ zb (L_ bX) Z_)) (N_ Y8 Y0 (L_ zg)))) (N_ zb (N_ zb (N_ zb Y0 (N_ zg (L_ WM) Z_)) (N_ Xa Y1 (L_ Vk))) (N_ eW (N_ zb (N_ YG (L_ W6) Z_) (L_ zb)) (N_ zg (N_ gE (L_ ay) Z_) (L_ zb))))) (N_ o59 (N_ o78 (N_ zb (N_ jk (N_ YR (L_ Zr) Z_) Y1) (N_ zb (N_ gW (L_ zb) Z_) (L_ zb))) (N_ zb (N_ kX (N_ YL (L_ zb) Z_) (N_ Vu (L_ zb) Z_)) (N_ zb (N_ zg (L_ WT) Z_) (L_ ZG)))) (N_ zb (N_ dk (N_ eO Y2 (N_ Yg (L_ aa) Z_)) (N_ fW (N_ Yz (L_ aI) Z_) (L_ ZO))) (N_ zb (N_ zg (N_ zb (L_ aX) Z_) (L_ zg)) (N_ fK (N_ Yr (L_ au) Z_) (L_ Vd)))))) (N_ zb (N_ zg (N_ zb (N_ zb (N_ jm (N_ YU (L_ Zt) Z_) (N_ zb (L_ WO) Z_)) (N_ eB (N_ gY (L_ zb) Z_) (L_ ZW))) (N_ e8 (N_ kZ (N_ fj (L_ Ze) Z_) (N_ Z8 (L_ zb) Z_)) (N_ zb (N_ Yu (L_ zb) Z_) (L_ ZI)))) (N_ o93 (N_ zb (N_ zb (N_ YO (L_ W_) Z_) (N_ Yi (L_ zg) Z_)) (N_ zg (N_ gO (L_ aK) Z_) (L_ zg))) (N_ zb (N_ Xe Y1 (L_ Vo)) (N_ fM (N_ gB (L_ aw) Z_) (L_ zb))))) (N_ o63 (N_ zb (N_ du (N_ ji Y0 (N_ VA (L_ ag) Z_)) (N_ zb (N_ gT (L_ WX) Z_) (L_ zb))) (N_ zb (N_ zb (N_ YJ (L_ zb) Z_) (N_ zb (L_ bS) Z_)) (N_ YZ (N_ gG (L_ zg) Z_) (L_ ZE)))) (N_ zb (N_ zb (N_ zg (N_ ft (L_ Zi) Z_) (N_ Yd (L_ bZ) Z_)) (N_ Z5 (N_ zb (L_ aG) Z_) (L_ ZK))) (N_ eT (N_ eH (N_ YE (L_ aV) Z_) (L_ Z0)) (N_ fI (N_ VF (L_ zb) Z_) (L_ zg))))))) (N_ W.boot_o_5 (N_ W.boot_o_9 (N_ o53 (N_ o72 (N_ zH (N_ zb (N_ xg (L_ zb) Z_) (N_ zg (L_ ak) Z_)) (N_ Xc Y1 (L_ Vm))) (N_ jy (N_ zb (N_ YM (L_ W8) Z_) (N_ Yb (L_ zg) Z_)) (N_ zH (N_ gL (L_ aE) Z_) (L_ zb)))) (N_ o91 (N_ dq (N_ jg (N_ fA (L_ Zm) Z_) (N_ zb (L_ ad) Z_)) (N_ fY (N_ gQ (L_ zb) Z_) (L_ ZQ))) (N_ zg (N_ eL (N_ zg (L_ aZ) Z_) (L_ Z4)) (N_ zb (N_ Ys (L_ zb) Z_) (L_ ZC))))) (N_ o61 (N_ zH (N_ jC (N_ eQ Y2 (N_ Ym (L_ zb) Z_)) (N_ eo (N_ YC (L_ aO) Z_) (L_ ZU))) (N_ eZ (N_ zH (N_ xg (L_ Zc) Z_) (N_ zH (L_ WI) Z_)) (N_ fQ (N_ zb (L_ aA) Z_) (L_ Vf)))) (N_ dG (N_ zH (N_ jc Y0 (N_ Vy (L_ zb) Z_)) (N_ zb (N_ zH (L_ WV) Z_) (L_ ZM))) (N_ jq (N_ zb (N_ g8 (L_ zb) Z_) (L_ zb)) (N_ YX (N_ xg (L_ zg) Z_) (L_ Zy)))))) (N_ o45 (N_ o57 (N_ o76 (N_ dA (N_ zb (N_ YT (L_ Vb) Z_) (N_ Yo (L_ ai) Z_)) (N_ zg (N_ zb (L_ aQ) Z_) (L_ zg))) (N_ zH (N_ eM (N_ ff (L_ zg) Z_) (N_ Z6 (L_ bV) Z_)) (N_ Y5 (N_ gJ (L_ aC) Z_) (L_ zb)))) (N_ zH (N_ jA (N_ je (N_ fv (L_ Zk) Z_) Y0) (N_ zb (N_ gM (L_ zb) Z_) (L_ zb))) (N_ jt (N_ eJ (N_ fb (L_ zb) Z_) (L_ Z2)) (N_ zb (N_ gz (L_ WR) Z_) (L_ ZA))))) (N_ zH (N_ o87 (N_ zH (N_ zg (N_ fC (L_ Zp) Z_) (N_ Yk (L_ zb) Z_)) (N_ f_ (N_ zg (L_ aM) Z_) (L_ ZS))) (N_ jv (N_ Xg (N_ YI (L_ Za) Z_) (L_ Vq)) (N_ fO Y0 (L_ zg)))) (N_ jE (N_ df (N_ zb Y0 (N_ zg (L_ WK) Z_)) (N_ fR (N_ Yw (L_ zg) Z_) (L_ Vh))) (N_ jo (N_ zb (N_ g6 (L_ WZ) Z_) (L_ zb)) (N_ fG (N_ VE (L_ ao) Z_) (L_ zb)))))))) (N_ W.boot_o_2 (N_ W.boot_o_4 (N_ W.boot_o_8 (N_ zH (N_ zg (N_ ya (N_ jn (N_ YV (L_ Zu) Z_) Y1) (N_ zb (N_ gZ (L_ zb) Z_) (L_ zb))) (N_ jz (N_ k_ Y0 (N_ Vx (L_ zb) Z_)) (N_ xg (N_ zg (L_ WU) Z_) (L_ ZJ)))) (N_ o90 (N_ zg (N_ eP Y2 (N_ Yj (L_ ae) Z_)) (N_ fZ (N_ YB (L_ aL) Z_) (L_ ZR))) (N_ zb (N_ zg (N_ zb (L_ a_) Z_) (L_ zg)) (N_ fN (N_ zb (L_ ax) Z_) (L_ Ve))))) (N_ jx (N_ ya (N_ jD (N_ zb Y0 (N_ zg (L_ ah) Z_)) (N_ Xb Y1 (L_ Vl))) (N_ zg (N_ zb (N_ YK (L_ W7) Z_) (N_ xg (L_ zg) Z_)) (N_ zg (N_ gH (L_ aB) Z_) (L_ zb)))) (N_ zg (N_ ya (N_ jd (N_ fu (L_ Zj) Z_) (N_ zb (L_ b_) Z_)) (N_ fV (N_ xg (L_ zb) Z_) (L_ ZN))) (N_ zg (N_ eI (N_ zg (L_ aW) Z_) (L_ Z1)) (N_ zb (N_ Yq (L_ zb) Z_) (L_ Zz)))))) (N_ WQ (N_ o56 (N_ o75 (N_ zg (N_ jl Y0 (N_ VB (L_ aj) Z_)) (N_ zb (N_ gX (L_ WY) Z_) (L_ zb))) (N_ ya (N_ zb (N_ fh (L_ zb) Z_) (N_ Z7 (L_ WJ) Z_)) (N_ Y6 (N_ gK (L_ zg) Z_) (L_ ZH)))) (N_ ya (N_ jB (N_ zg (N_ fw (L_ Zl) Z_) (N_ Yh (L_ ac) Z_)) (N_ fX (N_ gN (L_ aJ) Z_) (L_ ZP))) (N_ eV (N_ eK (N_ YF (L_ aY) Z_) (L_ Z3)) (N_ fL (N_ gA (L_ zb) Z_) (L_ zg))))) (N_ ya (N_ zg (N_ ya (N_ zb (N_ YQ (L_ Va) Z_) (N_ Yl (L_ af) Z_)) (N_ zg (N_ zb (L_ aN) Z_) (L_ zg))) (N_ jw (N_ Xh Y1 (L_ Vr)) (N_ fP (N_ gF (L_ az) Z_) (L_ zb)))) (N_ jF (N_ zg (N_ jb (N_ fq (L_ Zh) Z_) Y0) (N_ fS (N_ Yx (L_ zb) Z_) (L_ Vi))) (N_ jp (N_ eG (N_ g7 (L_ zb) Z_) (L_ ZZ)) (N_ fH (N_ zb (L_ WP) Z_) (L_ Zw))))))) (N_ W.boot_o_6 (N_ W.boot_o_10 (N_ zb (N_ o73 (N_ dB (N_ eS (N_ zH (L_ zg) Z_) (N_ Yp (L_ zb) Z_)) (N_ eD (N_ YD (L_ aR) Z_) (L_ ZX))) (N_ e9 (N_ zg (N_ fk (L_ Zf) Z_) (N_ Z9 (L_ bW) Z_)) (N_ Y7 (N_ zb (L_ aD) Z_) (L_ Vg)))) (N_ o92 (N_ dn (N_ jf Y0 (N_ Vz (L_ zb) Z_)) (N_ zb (N_ gP (L_ WW) Z_) (L_ zb))) (N_ ju (N_ zb (N_ fc (L_ zb) Z_) (L_ zb)) (N_ YY (N_ gC (L_ zg) Z_) (L_ ZB))))) (N_ o62 (N_ o84 (N_ dw (N_ jj (N_ fD (L_ Zq) Z_) (N_ zb (L_ WN) Z_)) (N_ eh (N_ gU (L_ zb) Z_) (L_ ZT))) (N_ eY (N_ Xi (N_ zH (L_ Zb) Z_) (N_ Vs (L_ bT) Z_)) (N_ zb (N_ Yt (L_ zb) Z_) (L_ ZF)))) (N_ dF (N_ dj (N_ zb (N_ YN (L_ W9) Z_) (N_ Ye (L_ zg) Z_)) (N_ fU (N_ Yy (L_ aH) Z_) (L_ ZL))) (N_ zb (N_ Xd Y1 (L_ Vn)) (N_ fJ (N_ zH (L_ ap) Z_) (L_ zb)))))) (N_ o46 (N_ zb (N_ o77 (N_ dz (N_ zg (N_ YS (L_ Zs) Z_) (N_ Yn (L_ zb) Z_)) (N_ eA (N_ zg (L_ aP) Z_) (L_ ZV))) (N_ e7 (N_ kY (N_ fe (L_ Zd) Z_) (N_ Vv (L_ bU) Z_)) (N_ Y4 Y0 (L_ zg)))) (N_ o99 (N_ dm (N_ zb Y0 (N_ zg (L_ WL) Z_)) (N_ Y_ (N_ YA (L_ zg) Z_) (L_ Vj))) (N_ jr (N_ zb (N_ g9 (L_ W5) Z_) (L_ zb)) (N_ zg (N_ gx (L_ av) Z_) (L_ zb))))) (N_ o69 (N_ o88 (N_ dr (N_ jh (N_ fB (L_ Zo) Z_) Y1) (N_ zb (N_ gR (L_ zb) Z_) (L_ zb))) (N_ eX (N_ Xf (N_ YH (L_ zb) Z_) (L_ Vp)) (N_ zb (N_ zg (L_ WS) Z_) (L_ ZD)))) (N_ dE (N_ db (N_ eN Y2 (N_ Yc (L_ bY) Z_)) (N_ Y9 (N_ Yv (L_ aF) Z_) (L_ zb))) (N_ zb (N_ zg (N_ zb (L_ aU) Z_) (L_ zg)) (N_ fE (N_ VD (L_ al) Z_) (L_ Vc))))))))
def wI:(@List @Stmt):=[My.top 25,My.top 26,My.top 27,My.top 28,My.top 29,My.top 30,My.top 31,My.top 32,My.top 33,My.top 34,My.top 35,My.top 36,My.top 37,My.top 38,My.top 39,My.top 40,My.top 41,My.top 42,My.top 43,My.top 44,My.top 45,My.top 46,My.top 47,My.top 48,My.top 49,My.top 50,My.top 51,My.top 52,My.top 53,My.top 54,My.top 55,My.top 56,My.top 57,My.top 58,My.top 59,My.top 60,My.top 61,My.top 62,My.top 63,My.top 64,My.top 65]
def nk:=N_ W.boot_o_0 (N_ W.boot_o_1 (N_ UR (N_ W.boot_o_7 (N_ o51 (N_ zb (N_ dD (N_ zg (L_ YW) Z_) (N_ eE (L_ zg) Z_)) (N_ zb (N_ ja (L_ fm) Z_) (N_ Y8 (L_ zb) Z_))) (N_ zb (N_ zb Y0 (N_ Xa (L_ zb) Z_)) (N_ eW (N_ zb (L_ YG) Z_) (N_ zg (L_ gE) Z_)))) (N_ o59 (N_ o78 (N_ zb (N_ jk (L_ YR) Z_) (N_ zb (L_ gW) Z_)) (N_ zb (N_ kX (L_ YL) Z_) Y1)) (N_ zb (N_ dk (N_ eO (L_ zg) Z_) (N_ fW (L_ Yz) Z_)) (N_ zb Y3 (N_ fK (L_ Yr) Z_))))) (N_ zb (N_ zg (N_ zb (N_ zb (N_ jm (L_ YU) Z_) (N_ eB (L_ gY) Z_)) (N_ e8 (N_ kZ (L_ fj) Z_) (N_ zb (L_ Yu) Z_))) (N_ o93 (N_ zb (N_ zb (L_ YO) Z_) (N_ zg (L_ gO) Z_)) (N_ zb (N_ Xe (L_ zb) Z_) (N_ fM (L_ gB) Z_)))) (N_ o63 (N_ zb (N_ du (N_ ji (L_ zb) Z_) (N_ zb (L_ gT) Z_)) (N_ zb (N_ zb (L_ YJ) Z_) (N_ YZ (L_ gG) Z_))) (N_ zb (N_ zb (N_ zg (L_ ft) Z_) (N_ UP (L_ zb) Z_)) (N_ eT (N_ eH (L_ YE) Z_) (L_ fI)))))) (N_ W.boot_o_5 (N_ W.boot_o_9 (N_ o53 (N_ o72 (N_ zH (N_ zb (L_ xg) Z_) (N_ Xc (L_ zb) Z_)) (N_ jy (N_ zb (L_ YM) Z_) (N_ zH (L_ gL) Z_))) (N_ o91 (N_ dq (N_ jg (L_ fA) Z_) (N_ fY (L_ gQ) Z_)) (N_ zg (N_ eL (L_ zg) Z_) (N_ zb (L_ Ys) Z_)))) (N_ o61 (N_ zH (N_ jC (N_ eQ (L_ zg) Z_) (N_ eo (L_ YC) Z_)) (N_ eZ (N_ zH (L_ xg) Z_) (N_ fQ (L_ zb) Z_))) (N_ dG (N_ zH (N_ jc (L_ zb) Z_) (N_ zb (L_ zH) Z_)) (N_ jq (N_ zb (L_ g8) Z_) (L_ YX))))) (N_ o45 (N_ o57 (N_ o76 (N_ dA (N_ zb (L_ YT) Z_) Y3) (N_ zH (N_ eM (L_ ff) Z_) (N_ Y5 (L_ gJ) Z_))) (N_ zH (N_ jA (N_ je (L_ fv) Z_) (N_ zb (L_ gM) Z_)) (N_ jt (N_ eJ (L_ fb) Z_) (N_ zb (L_ gz) Z_)))) (N_ zH (N_ o87 (N_ zH (N_ zg (L_ fC) Z_) (N_ f_ (L_ zg) Z_)) (N_ jv (N_ Xg (L_ YI) Z_) (N_ fO (L_ zb) Z_))) (N_ jE (N_ df Y0 (N_ fR (L_ Yw) Z_)) (N_ jo (N_ zb (L_ g6) Z_) (L_ fG))))))) (N_ W.boot_o_2 (N_ W.boot_o_4 (N_ W.boot_o_8 (N_ zH (N_ zg (N_ ya (N_ jn (L_ YV) Z_) (N_ zb (L_ gZ) Z_)) (N_ jz (N_ k_ (L_ zb) Z_) (N_ xg (L_ zg) Z_))) (N_ o90 (N_ zg (N_ eP (L_ zg) Z_) (N_ fZ (L_ YB) Z_)) (N_ zb Y3 (N_ fN (L_ zb) Z_)))) (N_ jx (N_ ya (N_ jD Y0 (N_ Xb (L_ zb) Z_)) (N_ zg (N_ zb (L_ YK) Z_) (N_ zg (L_ gH) Z_))) (N_ zg (N_ ya (N_ jd (L_ fu) Z_) (N_ fV (L_ xg) Z_)) (N_ zg (N_ eI (L_ zg) Z_) (N_ zb (L_ Yq) Z_))))) (N_ UQ (N_ o56 (N_ o75 (N_ zg (N_ jl (L_ zb) Z_) (N_ zb (L_ gX) Z_)) (N_ ya (N_ zb (L_ fh) Z_) (N_ Y6 (L_ gK) Z_))) (N_ ya (N_ jB (N_ zg (L_ fw) Z_) (N_ fX (L_ gN) Z_)) (N_ eV (N_ eK (L_ YF) Z_) (N_ fL (L_ gA) Z_)))) (N_ ya (N_ zg (N_ ya (N_ zb (L_ YQ) Z_) Y3) (N_ jw (N_ Xh (L_ zb) Z_) (N_ fP (L_ gF) Z_))) (N_ jF (N_ zg (N_ jb (L_ fq) Z_) (N_ fS (L_ Yx) Z_)) (N_ jp (N_ eG (L_ g7) Z_) (L_ fH)))))) (N_ W.boot_o_6 (N_ W.boot_o_10 (N_ zb (N_ o73 (N_ dB (N_ eS (L_ zH) Z_) (N_ eD (L_ YD) Z_)) (N_ e9 (N_ zg (L_ fk) Z_) (N_ Y7 (L_ zb) Z_))) (N_ o92 (N_ dn (N_ jf (L_ zb) Z_) (N_ zb (L_ gP) Z_)) (N_ ju (N_ zb (L_ fc) Z_) (N_ YY (L_ gC) Z_)))) (N_ o62 (N_ o84 (N_ dw (N_ jj (L_ fD) Z_) (N_ eh (L_ gU) Z_)) (N_ eY (N_ Xi (L_ zH) Z_) (N_ zb (L_ Yt) Z_))) (N_ dF (N_ dj (N_ zb (L_ YN) Z_) (N_ fU (L_ Yy) Z_)) (N_ zb (N_ Xd (L_ zb) Z_) (L_ fJ))))) (N_ o46 (N_ zb (N_ o77 (N_ dz (N_ zg (L_ YS) Z_) (N_ eA (L_ zg) Z_)) (N_ e7 (N_ kY (L_ fe) Z_) (N_ Y4 (L_ zb) Z_))) (N_ o99 (N_ dm Y0 (N_ Y_ (L_ YA) Z_)) (N_ jr (N_ zb (L_ g9) Z_) (N_ zg (L_ gx) Z_)))) (N_ o69 (N_ o88 (N_ dr (N_ jh (L_ fB) Z_) (N_ zb (L_ gR) Z_)) (N_ eX (N_ Xf (L_ YH) Z_) Y1)) (N_ dE (N_ db (N_ eN (L_ zg) Z_) (N_ Y9 (L_ Yv) Z_)) (N_ zb Y3 (L_ fE)))))))
def uk:(@List @Stmt):=[My.top 20,My.top 21,My.top 22,My.top 23,My.top 24]
def nl:=N_ W.boot_o_0 (N_ W.boot_o_1 (N_ UT (N_ W.boot_o_7 (N_ o51 (N_ zb (N_ dD (L_ zg) Z_) (N_ zb (L_ ja) Z_)) (N_ zb Y0 (L_ eW))) (N_ o59 (N_ o78 (N_ zb (L_ jk) Z_) (N_ zb (L_ kX) Z_)) (N_ zb (N_ dk (L_ eO) Z_) (L_ zb)))) (N_ zb (N_ zg (N_ zb (N_ zb (L_ jm) Z_) (N_ e8 (L_ kZ) Z_)) (N_ o93 Y0 (L_ zb))) (N_ o63 (N_ zb (N_ du (L_ ji) Z_) (L_ zb)) (N_ zb Y1 (L_ eT))))) (N_ W.boot_o_5 (N_ W.boot_o_9 (N_ o53 (N_ o72 (N_ zH (L_ zb) Z_) (N_ jy (L_ zb) Z_)) (N_ o91 (N_ dq (L_ jg) Z_) (L_ zg))) (N_ o61 (N_ zH (N_ jC (L_ eQ) Z_) (L_ eZ)) (N_ dG (N_ zH (L_ jc) Z_) (L_ jq)))) (N_ o45 (N_ o57 (N_ o76 (N_ dA (L_ zb) Z_) (N_ zH (L_ eM) Z_)) (N_ zH (N_ jA (L_ je) Z_) (L_ jt))) (N_ zH (N_ o87 (N_ zH (L_ zg) Z_) (L_ jv)) (N_ jE (N_ df (L_ zb) Z_) (L_ jo)))))) (N_ W.boot_o_2 (N_ W.boot_o_4 (N_ W.boot_o_8 (N_ zH (N_ zg (N_ ya (L_ jn) Z_) (N_ jz (L_ k_) Z_)) (N_ o90 (N_ zg (L_ eP) Z_) (L_ zb))) (N_ jx (N_ ya (N_ jD (L_ zb) Z_) (L_ zg)) (N_ zg (N_ ya (L_ jd) Z_) (L_ zg)))) (N_ US (N_ o56 (N_ o75 (N_ zg (L_ jl) Z_) (N_ ya (L_ zb) Z_)) (N_ ya (N_ jB (L_ zg) Z_) (L_ eV))) (N_ ya (N_ zg (N_ ya (L_ zb) Z_) (L_ jw)) (N_ jF (N_ zg (L_ jb) Z_) (L_ jp))))) (N_ W.boot_o_6 (N_ W.boot_o_10 (N_ zb (N_ o73 (N_ dB (L_ eS) Z_) (N_ e9 (L_ zg) Z_)) (N_ o92 (N_ dn (L_ jf) Z_) (L_ ju))) (N_ o62 (N_ o84 (N_ dw (L_ jj) Z_) (L_ eY)) (N_ dF (N_ dj (L_ zb) Z_) (L_ zb)))) (N_ o46 (N_ zb (N_ o77 (N_ dz (L_ zg) Z_) (N_ e7 (L_ kY) Z_)) (N_ o99 (N_ dm (L_ zb) Z_) (L_ jr))) (N_ o69 (N_ o88 (N_ dr (L_ jh) Z_) (L_ eX)) (N_ dE (N_ db (L_ eN) Z_) (L_ zb))))))
def pS:(@List @Stmt):=[My.top 0,My.top 1,My.top 2,My.top 3,My.top 4,My.top 5,My.top 6,My.top 7,My.top 8,My.top 9,My.top 10,My.top 11,My.top 12,My.top 13,My.top 14,My.top 15,My.top 16,My.top 17,My.top 18,My.top 19]
def lH:=N_ W.boot_o_0 (N_ W.boot_o_1 (N_ W.boot_o_3 (L_ W.boot_o_7) (L_ zb)) (N_ W.boot_o_5 (L_ W.boot_o_9) (L_ o45))) (N_ W.boot_o_2 (N_ W.boot_o_4 (L_ W.boot_o_8) (L_ zg)) (N_ W.boot_o_6 (L_ W.boot_o_10) (L_ o46)))
def lI:((x:@Params)→@Heap):=(fun x=>(@Heap.mk (@Array.mk @Obj [(@W.boot_o_0 x),(@W.boot_o_1 x),(@W.boot_o_2 x),(@W.boot_o_3 x),(@W.boot_o_4 x),(@W.boot_o_5 x),(@W.boot_o_6 x),(@W.boot_o_7 x),(@W.boot_o_8 x),(@W.boot_o_9 x),(@W.boot_o_10 x),(zb x),(zg x),(o45 x),(o46 x)]) (@Life.mk [] [] [] 0 (@List.nil (@Prod @Nat @Nat)) [] @Bool.false #[] [] 0 @Bool.false @Bool.false @Bool.false (0:Int) [(2000:Int),(10:Int),(10:Int)] @Bool.false 0 @Bool.true [] [] 0 @Bool.false)))
abbrev k4:=(@Life.mk [] [] [] 0 (@List.nil (@Prod @Nat @Nat)) [] @Bool.false #[] [] 0 @Bool.false @Bool.false @Bool.false (0:Int) [(2000:Int),(10:Int),(10:Int)] @Bool.false 0 @Bool.true [] [] 0 @Bool.false)
abbrev S_ (t:Params→W.BT) (n k:Nat) (w:World) (o:OsState):W.SharedT:=W.SharedT.mk (t w.params) n k4 g_ d_ k o
abbrev k0 (x0:World) (x1:OsState):=(@Shared.mk (@xa x0.params) g_ d_ 1079 x1)
abbrev k1:=(@Prod (@Prod (@List (@Option @FnShape)) @Bool) (@Prod (@List (@Option @PyProof.Rows.PlainShape)) (@Prod (@List (@Option (@Prod @PyProof.Rows.PlainShape @Bool))) (@Prod (@Prod (@List (@Option @FnShape)) @Bool) (@List (@Prod (@Option (@Prod (@List (@Option @FnShape)) @Bool)) (@Option (@Prod @PyProof.Rows.PlainShape @Bool))))))))
abbrev k2:=(@W.OpenRow.toRowW (@W.OpenLaw.row @Challenge.rw_oddbases_k67_whole_order))
abbrev k3:=(@W.looseW @h_view_39 [(.ofString "has_figures_alone_writings"),(.ofString "has_figures_alone_texts")])
abbrev k5:=(@Bool.true,((@pinGoodD (@PyProof.Rows.drecsOf @h_view_39)),((@PyProof.Rows.plainGoodE @h_view_39 k3),((@PyProof.Rows.plainGoodD @h_view_39 [(.ofString "has_figures_alone_writings"),(.ofString "has_figures_alone_texts")]),((@W.wideGood @h_view_39),(@W.clsGoodW @h_view_39 [(.ofString "has_figures_alone_writings"),(.ofString "has_figures_alone_texts")]))))))
abbrev k6 (x0:World) (x1:OsState):=(@W.clsSeenW @h_view_39 [(.ofString "has_figures_alone_writings"),(.ofString "has_figures_alone_texts")] (k0 x0 x1))
abbrev k7 (x0:World) (x1:OsState):=(@PyProof.Rows.plainSeenD @h_view_39 [(.ofString "has_figures_alone_writings"),(.ofString "has_figures_alone_texts")] (k0 x0 x1))
abbrev k8 (x0:World) (x1:OsState):=(@ite @Bool (@Eq @Bool @Bool.true @Bool.true) (@instDecidableEqBool @Bool.true @Bool.true) (@BEq.beq @Nat (@instBEqOfDecidableEq @Nat @instDecidableEqNat) (@Array.size @GenState (@Shared.gens (k0 x0 x1))) 0) (@Bool.not (@leftWithCleanup (@Shared.gens (k0 x0 x1)))))
abbrev k9:=(@List (@Prod (@Option (@Prod (@List (@Option @FnShape)) @Bool)) (@Option (@Prod @PyProof.Rows.PlainShape @Bool))))
abbrev k10 (x0:World) (x1:OsState):=(@Bool.and (@Bool.and (@Bool.and (@W.staticsOk (@importedModules (@Module.body (@Program.main (k2).1))) (@W.boot_heap x0.params) (@xa x0.params)) (@W.namesBound (k2).1 (@xa x0.params))) (@W.gensDone (k0 x0 x1))) (@W.laidKept (@W.boot_heap x0.params) (@xa x0.params)))
abbrev k11:=(@W.clsGoodW @h_view_39 [(.ofString "has_figures_alone_writings"),(.ofString "has_figures_alone_texts")])
abbrev k12:=(@Code.body (@W.behindTheImports (k2).1) @yw)
abbrev k13:=(@PyProof.Rows.plainGoodD @h_view_39 [(.ofString "has_figures_alone_writings"),(.ofString "has_figures_alone_texts")])
abbrev k14:=(@Prod (@Prod (@Option @Str) (@List (@Prod @Str @Value))) (@Prod @Bool (@Prod @Bool k1)))
abbrev k15:=(@Eq.refl (@List @Addr) My.myAs)
abbrev k16:=(@importedModules (@Module.body (@Program.main (k2).1)))
abbrev k17 (x0:World) (x1:OsState):=(@pinSeenD @h_view_39 (@PyProof.Rows.drecsOf @h_view_39) (k0 x0 x1))
abbrev k18 (x0:World) (x1:OsState):=(@PyProof.Rows.plainSeenE @h_view_39 k3 (k0 x0 x1))
abbrev k19:=(@W.openGood @h_view_39 [(.ofString "has_figures_alone_writings"),(.ofString "has_figures_alone_texts")])
abbrev k20:=(@Prod (@List (@Option @FnShape)) @Bool)
abbrev k21:=(@List.nil (@Prod @Str @W.WData))
abbrev k22 (x0:World) (x1:OsState):=(@W.wideSeen @h_view_39 (k0 x0 x1))
abbrev k23:=(@List (@Option (@Prod @PyProof.Rows.PlainShape @Bool)))
abbrev k24:=(@Nat.add 12 (@Nat.add 1 (@Nat.add 1964 (@Nat.add 1724 (@Nat.add 1810 2)))))
abbrev k25 (x0:World) (x1:OsState):=(S_ nl 168 391 x0 x1)
abbrev k26 (x0:World) (x1:OsState):=(S_ nk 377 653 x0 x1)
abbrev k27 (x0:World) (x1:OsState):=(S_ lH 15 187 x0 x1)
abbrev k28:=(@Prod @Flow (@Prod @W.SharedT (@Prod @Code @Pos)))
abbrev k29 (x0:World) (x1:OsState):=(@Shared.mk (@lI x0.params) g_ d_ 187 x1)
abbrev k30 (x0:World) (x1:OsState):=(@PyProof.Rows.tablesOk @h_view_39 (@Shared.heap (k0 x0 x1)))
abbrev k31 (x0:World) (x1:OsState):=(@PyProof.Rows.tabsOk @h_view_39 (k0 x0 x1))
abbrev k32 (x0:World) (x1:OsState):=(@Heap.accountedOkI (@Shared.heap (k0 x0 x1)) k16)
abbrev k33 (x0:World) (x1:OsState):=(S_ nj 684 1079 x0 x1)
abbrev k34 (x0:World) (x1:OsState):=(@Heap.isNs (@Shared.heap (k0 x0 x1)) @mainGlobals)
abbrev k35 (x0:World) (x1:OsState):=(@Heap.isNs (@Shared.heap (k0 x0 x1)) @builtinsNs)
abbrev k36:=(@PyProof.Rows.plainGoodE @h_view_39 k3)
abbrev k37 (x0:World) (x1:OsState):=(@Shared.mk (@W.boot_heap x0.params) g_ @W.boot_drawn @W.boot_toks x1)
abbrev k38:=(@Thread.mk (@denote @treeTable k12) k12 (P_ 0 0 0 0) [(@W.topFrame (P_ 0 0 0 0))])
abbrev k39:=(@PyProof.Rows.clssOf @h_view_39 k3)
abbrev k40:=(@Prod @Flow (@Prod @Shared (@Prod @Code @Pos)))
abbrev kh0:=(@W.kHook @h_heap_39 My.myAs (fun x0=>(@id (@Eq (@List @Addr) My.myAs (@List.map (@Prod @Addr @Obj) @Addr (fun (x1:(@Prod @Addr @Obj))=>(@Prod.fst @Addr @Obj x1)) (@h_heap_39 x0))) k15)))
theorem pf_804:((x0:World)→(@Eq ((x1:OsState)→(@W.Hook.α kh0)) (fun x1=>(@W.Hook.obs kh0 (k0 x0 x1))) (fun x1=>(@W.Hook.val kh0 x0)))):=by intros; kernel_rfl
theorem pf_794:((x0:World)→(@Eq ((x1:OsState)→k9) (fun x1=>(k6 x0 x1)) (fun x1=>k11))):=by intros; kernel_rfl
theorem pf_792:((x0:World)→(@Eq ((x1:OsState)→k20) (fun x1=>(k22 x0 x1)) (fun x1=>(@W.wideGood @h_view_39)))):=by intros; kernel_rfl
theorem pf_795:((x0:World)→((x1:OsState)→(@Eq (@Prod k20 k9) ((k22 x0 x1),(k6 x0 x1)) ((@W.wideGood @h_view_39),k11)))):=(fun x0=>(fun x1=>(@W.looks_pair k20 k9 (k22 x0 x1) (@W.wideGood @h_view_39) (k6 x0 x1) k11 ((fun x2=>(fun x3=>(congrFun (My.pf_792 x2) x3))) x0 x1) ((fun x2=>(fun x3=>(congrFun (My.pf_794 x2) x3))) x0 x1))))
theorem pf_790:((x0:World)→(@Eq ((x1:OsState)→k23) (fun x1=>(k7 x0 x1)) (fun x1=>k13))):=by intros; kernel_rfl
theorem pf_796:((x0:World)→((x1:OsState)→(@Eq (@Prod k23 (@Prod k20 k9)) ((k7 x0 x1),((k22 x0 x1),(k6 x0 x1))) (k13,((@W.wideGood @h_view_39),k11))))):=(fun x0=>(fun x1=>(@W.looks_pair k23 (@Prod k20 k9) (k7 x0 x1) k13 ((k22 x0 x1),(k6 x0 x1)) ((@W.wideGood @h_view_39),k11) ((fun x2=>(fun x3=>(congrFun (My.pf_790 x2) x3))) x0 x1) (@My.pf_795 x0 x1))))
theorem pf_788:((x0:World)→(@Eq ((x1:OsState)→(@List (@Option @PyProof.Rows.PlainShape))) (fun x1=>(k18 x0 x1)) (fun x1=>k36))):=by intros; kernel_rfl
theorem pf_797:((x0:World)→((x1:OsState)→(@Eq (@Prod (@List (@Option @PyProof.Rows.PlainShape)) (@Prod k23 (@Prod k20 k9))) ((k18 x0 x1),((k7 x0 x1),((k22 x0 x1),(k6 x0 x1)))) (k36,(k13,((@W.wideGood @h_view_39),k11)))))):=(fun x0=>(fun x1=>(@W.looks_pair (@List (@Option @PyProof.Rows.PlainShape)) (@Prod k23 (@Prod k20 k9)) (k18 x0 x1) k36 ((k7 x0 x1),((k22 x0 x1),(k6 x0 x1))) (k13,((@W.wideGood @h_view_39),k11)) ((fun x2=>(fun x3=>(congrFun (My.pf_788 x2) x3))) x0 x1) (@My.pf_796 x0 x1))))
theorem pf_786:((x0:World)→(@Eq ((x1:OsState)→k20) (fun x1=>(k17 x0 x1)) (fun x1=>(@pinGoodD (@PyProof.Rows.drecsOf @h_view_39))))):=by intros; kernel_rfl
theorem pf_798:((x0:World)→((x1:OsState)→(@Eq k1 ((k17 x0 x1),((k18 x0 x1),((k7 x0 x1),((k22 x0 x1),(k6 x0 x1))))) ((@pinGoodD (@PyProof.Rows.drecsOf @h_view_39)),(k36,(k13,((@W.wideGood @h_view_39),k11))))))):=(fun x0=>(fun x1=>(@W.looks_pair k20 (@Prod (@List (@Option @PyProof.Rows.PlainShape)) (@Prod k23 (@Prod k20 k9))) (k17 x0 x1) (@pinGoodD (@PyProof.Rows.drecsOf @h_view_39)) ((k18 x0 x1),((k7 x0 x1),((k22 x0 x1),(k6 x0 x1)))) (k36,(k13,((@W.wideGood @h_view_39),k11))) ((fun x2=>(fun x3=>(congrFun (My.pf_786 x2) x3))) x0 x1) (@My.pf_797 x0 x1))))
theorem pf_784:((x0:World)→(@Eq ((x1:OsState)→@Bool) (fun x1=>(k31 x0 x1)) (fun x1=>@Bool.true))):=by intros; kernel_rfl
theorem pf_799:((x0:World)→((x1:OsState)→(@Eq (@Prod @Bool k1) ((k31 x0 x1),((k17 x0 x1),((k18 x0 x1),((k7 x0 x1),((k22 x0 x1),(k6 x0 x1)))))) k5))):=(fun x0=>(fun x1=>(@W.looks_pair @Bool k1 (k31 x0 x1) @Bool.true ((k17 x0 x1),((k18 x0 x1),((k7 x0 x1),((k22 x0 x1),(k6 x0 x1))))) ((@pinGoodD (@PyProof.Rows.drecsOf @h_view_39)),(k36,(k13,((@W.wideGood @h_view_39),k11)))) ((fun x2=>(fun x3=>(congrFun (My.pf_784 x2) x3))) x0 x1) (@My.pf_798 x0 x1))))
theorem pf_782:((x0:World)→(@Eq ((x1:OsState)→@Bool) (fun x1=>(@Bool.and (@Bool.and (@Bool.and (@Bool.and (@Bool.and (@Bool.and (@Heap.keysOk (@Shared.heap (k0 x0 x1)) k3 (@List.map @DefRec @Str (fun (x2:@DefRec)=>(@DefRec.name x2)) (@PyProof.Rows.recsOf @h_view_39)) (@List.map (@Prod @Str @PyData) @Str (fun (x2:(@Prod @Str @PyData))=>(@Prod.fst @Str @PyData x2)) (@PyProof.Rows.litsOf @h_view_39)) (@List.map @ClsRec @Str (fun (x2:@ClsRec)=>(@ClsRec.name x2)) k39)) (k32 x0 x1)) (k34 x0 x1)) (k35 x0 x1)) (k30 x0 x1)) ((fun (x2:@Shared)=>(@Bool.and (@W.xlAt @h_view_39 k21 x2) (@W.recOk (@W.RowW.records k2) x2))) (k0 x0 x1))) (k8 x0 x1))) (fun x1=>@Bool.true))):=by intros; kernel_rfl
theorem pf_800:((x0:World)→((x1:OsState)→(@Eq (@Prod @Bool (@Prod @Bool k1)) ((@Bool.and (@Bool.and (@Bool.and (@Bool.and (@Bool.and (@Bool.and (@Heap.keysOk (@Shared.heap (k0 x0 x1)) k3 (@List.map @DefRec @Str (fun (x2:@DefRec)=>(@DefRec.name x2)) (@PyProof.Rows.recsOf @h_view_39)) (@List.map (@Prod @Str @PyData) @Str (fun (x2:(@Prod @Str @PyData))=>(@Prod.fst @Str @PyData x2)) (@PyProof.Rows.litsOf @h_view_39)) (@List.map @ClsRec @Str (fun (x2:@ClsRec)=>(@ClsRec.name x2)) k39)) (k32 x0 x1)) (k34 x0 x1)) (k35 x0 x1)) (k30 x0 x1)) ((fun (x2:@Shared)=>(@Bool.and (@W.xlAt @h_view_39 k21 x2) (@W.recOk (@W.RowW.records k2) x2))) (k0 x0 x1))) (k8 x0 x1)),((k31 x0 x1),((k17 x0 x1),((k18 x0 x1),((k7 x0 x1),((k22 x0 x1),(k6 x0 x1))))))) (@Bool.true,k5)))):=(fun x0=>(fun x1=>(@W.looks_pair @Bool (@Prod @Bool k1) (@Bool.and (@Bool.and (@Bool.and (@Bool.and (@Bool.and (@Bool.and (@Heap.keysOk (@Shared.heap (k0 x0 x1)) k3 (@List.map @DefRec @Str (fun (x2:@DefRec)=>(@DefRec.name x2)) (@PyProof.Rows.recsOf @h_view_39)) (@List.map (@Prod @Str @PyData) @Str (fun (x2:(@Prod @Str @PyData))=>(@Prod.fst @Str @PyData x2)) (@PyProof.Rows.litsOf @h_view_39)) (@List.map @ClsRec @Str (fun (x2:@ClsRec)=>(@ClsRec.name x2)) k39)) (k32 x0 x1)) (k34 x0 x1)) (k35 x0 x1)) (k30 x0 x1)) ((fun (x2:@Shared)=>(@Bool.and (@W.xlAt @h_view_39 k21 x2) (@W.recOk (@W.RowW.records k2) x2))) (k0 x0 x1))) (k8 x0 x1)) @Bool.true ((k31 x0 x1),((k17 x0 x1),((k18 x0 x1),((k7 x0 x1),((k22 x0 x1),(k6 x0 x1)))))) k5 ((fun x2=>(fun x3=>(congrFun (My.pf_782 x2) x3))) x0 x1) (@My.pf_799 x0 x1))))
theorem pf_780:((x0:World)→(@Eq ((x1:OsState)→(@Prod (@Option @Str) (@List (@Prod @Str @Value)))) (fun x1=>(@Heap.bltView (@Shared.heap (k0 x0 x1)))) (fun x1=>@bltViewBooted))):=by intros; kernel_rfl
theorem pf_801:((x0:World)→((x1:OsState)→(@Eq k14 ((@Heap.bltView (@Shared.heap (k0 x0 x1))),((@Bool.and (@Bool.and (@Bool.and (@Bool.and (@Bool.and (@Bool.and (@Heap.keysOk (@Shared.heap (k0 x0 x1)) k3 (@List.map @DefRec @Str (fun (x2:@DefRec)=>(@DefRec.name x2)) (@PyProof.Rows.recsOf @h_view_39)) (@List.map (@Prod @Str @PyData) @Str (fun (x2:(@Prod @Str @PyData))=>(@Prod.fst @Str @PyData x2)) (@PyProof.Rows.litsOf @h_view_39)) (@List.map @ClsRec @Str (fun (x2:@ClsRec)=>(@ClsRec.name x2)) k39)) (k32 x0 x1)) (k34 x0 x1)) (k35 x0 x1)) (k30 x0 x1)) ((fun (x2:@Shared)=>(@Bool.and (@W.xlAt @h_view_39 k21 x2) (@W.recOk (@W.RowW.records k2) x2))) (k0 x0 x1))) (k8 x0 x1)),((k31 x0 x1),((k17 x0 x1),((k18 x0 x1),((k7 x0 x1),((k22 x0 x1),(k6 x0 x1)))))))) (@bltViewBooted,(@Bool.true,k5))))):=(fun x0=>(fun x1=>(@W.looks_pair (@Prod (@Option @Str) (@List (@Prod @Str @Value))) (@Prod @Bool (@Prod @Bool k1)) (@Heap.bltView (@Shared.heap (k0 x0 x1))) @bltViewBooted ((@Bool.and (@Bool.and (@Bool.and (@Bool.and (@Bool.and (@Bool.and (@Heap.keysOk (@Shared.heap (k0 x0 x1)) k3 (@List.map @DefRec @Str (fun (x2:@DefRec)=>(@DefRec.name x2)) (@PyProof.Rows.recsOf @h_view_39)) (@List.map (@Prod @Str @PyData) @Str (fun (x2:(@Prod @Str @PyData))=>(@Prod.fst @Str @PyData x2)) (@PyProof.Rows.litsOf @h_view_39)) (@List.map @ClsRec @Str (fun (x2:@ClsRec)=>(@ClsRec.name x2)) k39)) (k32 x0 x1)) (k34 x0 x1)) (k35 x0 x1)) (k30 x0 x1)) ((fun (x2:@Shared)=>(@Bool.and (@W.xlAt @h_view_39 k21 x2) (@W.recOk (@W.RowW.records k2) x2))) (k0 x0 x1))) (k8 x0 x1)),((k31 x0 x1),((k17 x0 x1),((k18 x0 x1),((k7 x0 x1),((k22 x0 x1),(k6 x0 x1))))))) (@Bool.true,k5) ((fun x2=>(fun x3=>(congrFun (My.pf_780 x2) x3))) x0 x1) (@My.pf_800 x0 x1))))
theorem pf_778:((x0:World)→(@Eq ((x1:OsState)→@PyProof.Rows.Seen) (fun x1=>(@PyProof.Rows.seen (@List.map @DefRec @Str (fun (x2:@DefRec)=>(@DefRec.name x2)) (@PyProof.Rows.recsOf @h_view_39)) (@PyProof.Rows.ownsOf @h_view_39) [] (@Shared.mk (@Shared.heap (k0 x0 x1)) #[] (@Shared.drawn (k0 x0 x1)) (@Shared.toks (k0 x0 x1)) (@Shared.os (k0 x0 x1))))) (fun x1=>(@PyProof.Rows.expectedOf @h_view_39)))):=by intros; kernel_rfl
theorem pf_802:((x0:World)→((x1:OsState)→(@Eq (@Prod @PyProof.Rows.Seen k14) (@W.openSeen @h_view_39 [(.ofString "has_figures_alone_writings"),(.ofString "has_figures_alone_texts")] k16 (fun (x2:@Shared)=>(@Bool.and (@W.xlAt @h_view_39 k21 x2) (@W.recOk (@W.RowW.records k2) x2))) @Bool.true (k0 x0 x1)) k19))):=(fun x0=>(fun x1=>(@W.looks_pair @PyProof.Rows.Seen k14 (@PyProof.Rows.seen (@List.map @DefRec @Str (fun (x2:@DefRec)=>(@DefRec.name x2)) (@PyProof.Rows.recsOf @h_view_39)) (@PyProof.Rows.ownsOf @h_view_39) [] (@Shared.mk (@Shared.heap (k0 x0 x1)) #[] (@Shared.drawn (k0 x0 x1)) (@Shared.toks (k0 x0 x1)) (@Shared.os (k0 x0 x1)))) (@PyProof.Rows.expectedOf @h_view_39) ((@Heap.bltView (@Shared.heap (k0 x0 x1))),((@Bool.and (@Bool.and (@Bool.and (@Bool.and (@Bool.and (@Bool.and (@Heap.keysOk (@Shared.heap (k0 x0 x1)) k3 (@List.map @DefRec @Str (fun (x2:@DefRec)=>(@DefRec.name x2)) (@PyProof.Rows.recsOf @h_view_39)) (@List.map (@Prod @Str @PyData) @Str (fun (x2:(@Prod @Str @PyData))=>(@Prod.fst @Str @PyData x2)) (@PyProof.Rows.litsOf @h_view_39)) (@List.map @ClsRec @Str (fun (x2:@ClsRec)=>(@ClsRec.name x2)) k39)) (k32 x0 x1)) (k34 x0 x1)) (k35 x0 x1)) (k30 x0 x1)) ((fun (x2:@Shared)=>(@Bool.and (@W.xlAt @h_view_39 k21 x2) (@W.recOk (@W.RowW.records k2) x2))) (k0 x0 x1))) (k8 x0 x1)),((k31 x0 x1),((k17 x0 x1),((k18 x0 x1),((k7 x0 x1),((k22 x0 x1),(k6 x0 x1)))))))) (@bltViewBooted,(@Bool.true,k5)) ((fun x2=>(fun x3=>(congrFun (My.pf_778 x2) x3))) x0 x1) (@My.pf_801 x0 x1))))
theorem pf_805:((x0:World)→((x1:OsState)→(@Eq (@Prod (@Prod @PyProof.Rows.Seen k14) (@W.Hook.α kh0)) ((@W.openSeen @h_view_39 [(.ofString "has_figures_alone_writings"),(.ofString "has_figures_alone_texts")] k16 (fun (x2:@Shared)=>(@Bool.and (@W.xlAt @h_view_39 k21 x2) (@W.recOk (@W.RowW.records k2) x2))) @Bool.true (k0 x0 x1)),(@W.Hook.obs kh0 (k0 x0 x1))) (k19,(@W.Hook.val kh0 x0))))):=(fun x0=>(fun x1=>(@W.looks_pair (@Prod @PyProof.Rows.Seen k14) (@W.Hook.α kh0) (@W.openSeen @h_view_39 [(.ofString "has_figures_alone_writings"),(.ofString "has_figures_alone_texts")] k16 (fun (x2:@Shared)=>(@Bool.and (@W.xlAt @h_view_39 k21 x2) (@W.recOk (@W.RowW.records k2) x2))) @Bool.true (k0 x0 x1)) k19 (@W.Hook.obs kh0 (k0 x0 x1)) (@W.Hook.val kh0 x0) (@My.pf_802 x0 x1) ((fun x2=>(fun x3=>(congrFun (My.pf_804 x2) x3))) x0 x1))))
theorem pf_776:((x0:World)→(@Eq ((x1:OsState)→@Bool) (fun x1=>(k10 x0 x1)) (fun x1=>@Bool.true))):=by intros; kernel_rfl
theorem pf_806:((x0:World)→((x1:OsState)→(@Eq (@Prod @Bool (@Prod (@Prod @PyProof.Rows.Seen k14) (@W.Hook.α kh0))) ((k10 x0 x1),((@W.openSeen @h_view_39 [(.ofString "has_figures_alone_writings"),(.ofString "has_figures_alone_texts")] k16 (fun (x2:@Shared)=>(@Bool.and (@W.xlAt @h_view_39 k21 x2) (@W.recOk (@W.RowW.records k2) x2))) @Bool.true (k0 x0 x1)),(@W.Hook.obs kh0 (k0 x0 x1)))) (@Bool.true,(k19,(@W.Hook.val kh0 x0)))))):=(fun x0=>(fun x1=>(@W.looks_pair @Bool (@Prod (@Prod @PyProof.Rows.Seen k14) (@W.Hook.α kh0)) (k10 x0 x1) @Bool.true ((@W.openSeen @h_view_39 [(.ofString "has_figures_alone_writings"),(.ofString "has_figures_alone_texts")] k16 (fun (x2:@Shared)=>(@Bool.and (@W.xlAt @h_view_39 k21 x2) (@W.recOk (@W.RowW.records k2) x2))) @Bool.true (k0 x0 x1)),(@W.Hook.obs kh0 (k0 x0 x1))) (k19,(@W.Hook.val kh0 x0)) ((fun x2=>(fun x3=>(congrFun (My.pf_776 x2) x3))) x0 x1) (@My.pf_805 x0 x1))))
theorem pf_771:((x0:World)→(@Eq ((x1:OsState)→(@Option @Shared)) (fun x1=>(@W.topRun @treeTable (k2).1 x0 11 v_ 2 (@W.SharedT.abs (k33 x0 x1)) (@Thread.mk (@W.doneF @Flow.next) k12 (P_ 398 0 418 45) [(@W.topFrame (P_ 0 0 0 0))]))) (fun x1=>(@some @Shared (k0 x0 x1))))):=by intros; kernel_rfl
theorem pf_49:((x0:World)→(@Eq ((x1:OsState)→(@Option k40)) (fun x1=>(@W.segRun @treeTable (k2).1 x0 11 v_ 1 1 (k29 x0 x1) (@W.blockOf (@W.behindTheImports (k2).1) @yw k12 (P_ 0 0 0 0) [(@W.topFrame (P_ 0 0 0 0))]))) (fun x1=>(@some k40 (@Flow.next,((@W.SharedT.abs (k27 x0 x1)),(k12,(P_ 0 0 0 0)))))))):=by intros; kernel_rfl
theorem pf_47:((x0:World)→(@Eq ((x1:OsState)→(@Option (@Prod @Shared @Thread))) (fun x1=>(@W.topGo @treeTable (k2).1 x0 11 v_ 12 (k37 x0 x1) (@W.topStub (k2).1))) (fun x1=>(@some (@Prod @Shared @Thread) ((k29 x0 x1),k38))))):=by intros; kernel_rfl
theorem pf_227:((x0:World)→(@Eq ((x1:OsState)→(@Option k28)) (fun x1=>(@W.segRunT @treeTable (k2).1 x0 11 v_ 1 1964 (k27 x0 x1) (@W.piecesOf @pS @yw k12 (P_ 0 0 0 0) [(@W.topFrame (P_ 0 0 0 0))]))) (fun x1=>(@some k28 (@Flow.next,((k25 x0 x1),(k12,(P_ 50 0 53 17)))))))):=by intros; kernel_rfl
theorem pf_450:((x0:World)→(@Eq ((x1:OsState)→(@Option k28)) (fun x1=>(@W.segRunT @treeTable (k2).1 x0 11 v_ 1 1724 (k25 x0 x1) (@W.piecesOf @uk @yw k12 (P_ 50 0 53 17) [(@W.topFrame (P_ 0 0 0 0))]))) (fun x1=>(@some k28 (@Flow.next,((k26 x0 x1),(k12,(P_ 120 0 129 33)))))))):=by intros; kernel_rfl
theorem pf_769:((x0:World)→(@Eq ((x1:OsState)→(@Option k28)) (fun x1=>(@W.segRunT @treeTable (k2).1 x0 11 v_ 1 1810 (k26 x0 x1) (@W.piecesOf @wI @yw k12 (P_ 120 0 129 33) [(@W.topFrame (P_ 0 0 0 0))]))) (fun x1=>(@some k28 (@Flow.next,((k33 x0 x1),(k12,(P_ 398 0 418 45)))))))):=by intros; kernel_rfl
theorem pf_772:((x0:World)→((x1:OsState)→(@Eq (@Option @Shared) (@W.topRun @treeTable (k2).1 x0 11 v_ k24 (k37 x0 x1) (@W.topStub (k2).1)) (@some @Shared (k0 x0 x1))))):=(fun x0=>(fun x1=>(@W.go_top @treeTable (k2).1 x0 11 v_ 12 (@Nat.add 1 (@Nat.add 1964 (@Nat.add 1724 (@Nat.add 1810 2)))) (k37 x0 x1) (k29 x0 x1) (k0 x0 x1) (@W.topStub (k2).1) k38 (congrFun (My.pf_47 x0) x1) (@W.piece_block @treeTable (k2).1 x0 11 v_ @yw (P_ 0 0 0 0) 1 (@Nat.add 1964 (@Nat.add 1724 (@Nat.add 1810 2))) (k29 x0 x1) (@W.SharedT.abs (k27 x0 x1)) (k0 x0 x1) (@W.behindTheImports (k2).1) k12 (P_ 0 0 0 0) (P_ 0 0 0 0) (congrFun (My.pf_49 x0) x1) (@W.piece_app @treeTable (k2).1 x0 11 v_ @yw (P_ 0 0 0 0) 1964 (@Nat.add 1724 (@Nat.add 1810 2)) (@W.SharedT.abs (k27 x0 x1)) (@W.SharedT.abs (k25 x0 x1)) (k0 x0 x1) @pS (@HAppend.hAppend (@List @Stmt) (@List @Stmt) (@List @Stmt) (@instHAppendOfAppend (@List @Stmt) (@List.instAppend @Stmt)) @uk (@HAppend.hAppend (@List @Stmt) (@List @Stmt) (@List @Stmt) (@instHAppendOfAppend (@List @Stmt) (@List.instAppend @Stmt)) @wI [])) k12 (P_ 0 0 0 0) (P_ 50 0 53 17) (My.sg_ (congrFun (My.pf_227 x0) x1)) (@W.piece_app @treeTable (k2).1 x0 11 v_ @yw (P_ 0 0 0 0) 1724 (@Nat.add 1810 2) (@W.SharedT.abs (k25 x0 x1)) (@W.SharedT.abs (k26 x0 x1)) (k0 x0 x1) @uk (@HAppend.hAppend (@List @Stmt) (@List @Stmt) (@List @Stmt) (@instHAppendOfAppend (@List @Stmt) (@List.instAppend @Stmt)) @wI []) k12 (P_ 50 0 53 17) (P_ 120 0 129 33) (My.sg_ (congrFun (My.pf_450 x0) x1)) (@W.piece_app @treeTable (k2).1 x0 11 v_ @yw (P_ 0 0 0 0) 1810 2 (@W.SharedT.abs (k26 x0 x1)) (@W.SharedT.abs (k33 x0 x1)) (k0 x0 x1) @wI [] k12 (P_ 120 0 129 33) (P_ 398 0 418 45) (My.sg_ (congrFun (My.pf_769 x0) x1)) (congrFun (My.pf_771 x0) x1))))))))
theorem pf_774:((x0:World)→(@Eq (@Prod @Bool (@Prod @Nat (@Option @Value))) ((@Bool.and (@Heap.isNs (@W.boot_heap x0.params) @mainGlobals) (@BEq.beq @Nat (@instBEqOfDecidableEq @Nat @instDecidableEqNat) (@Array.size @GenState g_) 0)),((@Array.size @Obj (@Heap.objs (@W.boot_heap x0.params))),(@Heap.nsMap (@W.boot_heap x0.params) @mainGlobals (.ofString "__annotations__")))) (@Bool.true,(11,v_)))):=by intros; kernel_rfl
theorem pf_43:((x0:@Shared)→(@Eq (@Option @Shared) (@fenceModules? (k2).1 x0) (@some @Shared x0))):=by intros; kernel_rfl
theorem pf_42:(@Eq @Program (@W.opening (k2).1) (@W.plainProg (@Scope.names (@Module.scope (@Program.main (k2).1))))):=by intros; kernel_rfl
theorem left:(@W.LeftO (k2).1 @h_view_39 [(.ofString "has_figures_alone_writings"),(.ofString "has_figures_alone_texts")] (fun (x0:@Shared)=>(@Bool.and (@W.xlAt @h_view_39 k21 x0) (@W.recOk (@W.RowW.records k2) x0))) (@W.Hook.α kh0) (@W.Hook.obs kh0) (@W.Hook.val kh0) 11084 @Bool.true):=(@W.LeftO.of_pieces (k2).1 @h_view_39 [(.ofString "has_figures_alone_writings"),(.ofString "has_figures_alone_texts")] (fun (x0:@Shared)=>(@Bool.and (@W.xlAt @h_view_39 k21 x0) (@W.recOk (@W.RowW.records k2) x0))) (@W.Hook.α kh0) (@W.Hook.obs kh0) (@W.Hook.val kh0) 11084 @Bool.true @W.boot_heap @xa g_ g_ @W.boot_drawn d_ @W.boot_toks 1079 11 v_ k24 (@W.boot_open (k2).1 11084 @My.pf_42 (@of_decide_eq_true (@Eq @Bool (@Nat.ble 600 11084) @Bool.true) (@instDecidableEqBool (@Nat.ble 600 11084) @Bool.true) (@id (@Eq @Bool (@Decidable.decide (@Eq @Bool (@Nat.ble 600 11084) @Bool.true) (@instDecidableEqBool (@Nat.ble 600 11084) @Bool.true)) @Bool.true) (@Eq.refl @Bool @Bool.true))) @My.pf_43) @My.pf_774 @My.pf_772 (@of_decide_eq_true (@Eq @Bool (@Nat.ble k24 11084) @Bool.true) (@instDecidableEqBool (@Nat.ble k24 11084) @Bool.true) (@id (@Eq @Bool (@Decidable.decide (@Eq @Bool (@Nat.ble k24 11084) @Bool.true) (@instDecidableEqBool (@Nat.ble k24 11084) @Bool.true)) @Bool.true) (@Eq.refl @Bool @Bool.true))) (fun x0=>(@funext @OsState (fun x1=>(@Prod @Bool (@Prod (@Prod @PyProof.Rows.Seen k14) (@W.Hook.α kh0)))) (fun x1=>((k10 x0 x1),((@W.openSeen @h_view_39 [(.ofString "has_figures_alone_writings"),(.ofString "has_figures_alone_texts")] k16 (fun (x2:@Shared)=>(@Bool.and (@W.xlAt @h_view_39 k21 x2) (@W.recOk (@W.RowW.records k2) x2))) @Bool.true (k0 x0 x1)),(@W.Hook.obs kh0 (k0 x0 x1))))) (fun x1=>(@Bool.true,(k19,(@W.Hook.val kh0 x0)))) (fun x1=>(@My.pf_806 x0 x1)))))
end My
end
theorem My.myE:∀ P,My.myAs=(My.h_heap_39 P).map (·.1):=fun _=>by kernel_rfl
set_option maxRecDepth 100000
set_option maxHeartbeats 4000000
namespace OD
open PySem PySem.Spec PyProof.Rows L2
abbrev St:=L2.St
noncomputable def Zx (X:Cx):Hp:=if X.stack.length=X.outer.length∨X.fn ""=false then (fun _=>none) else X.H₀
theorem lY {CX:CXT} {P:Program} {w:World} {K:PySem.W.Frag} {mg:Str→Option Value} {base:Heap} {N:List Str} {qual:Str} {scope:Scope} {f:Addr} {cd:Value} {A:Around} {outer:List Env} {s:Shared} {H:Hp} {E:XK}:Zx (yV CX P w K mg base N qual scope f cd A outer s H E)=H:=if_neg (fun z=>z.elim (Nat.succ_ne_self _) (fun z=>Bool.noConfusion z))
theorem ot {X:Cx} (h:X.stack.length≠X.outer.length) (hf:X.fn ""=true:=by rfl):Zx X=X.H₀:=if_neg (fun z=>z.elim h (fun z=>by rw [hf] at z; cases z))
variable {Z:Hp}
inductive Dt where
 | non | bl (b:Bool) | int (i:Int) | str (x:Str) | tup (ds:List Dt) | lst (ds:List Dt) | scr (ns:List Int) | way (C:Addr) (f:Str) (n:Int) | exc (C:Addr)
def cM (a C:Addr):Heap→Prop:=fun h=>∃ o,h.get? a=some o∧o.cls=.ref C
mutual
def Is (K:PySem.W.Frag) (H:Hp):Dt→V→Prop
 | .non,v=>v=.non
 | .bl b,v=>v=.bl b
 | .int i,v=>v=.int i
 | .str x,v=>v=.str x
 | .tup ds,v=>∃ a xs,v=.ref a∧H a=some (.tup xs)∧AllIs K H ds xs
 | .lst ds,v=>∃ a xs,v=.ref a∧H a=some (.lst xs)∧AllIs K H ds xs
 | .scr ns,v=>∃ a,v=.ref a∧SqL K H a (ns.map V.int)
 | .way C f n,v=>∃ a dx,v=.ref a∧H a=some (.ins C dx [(f,.int n)])
 | .exc C,v=>∃ a,v=.ref a∧H a=some (.ext (cM a C))
def AllIs (K:PySem.W.Frag) (H:Hp):List Dt→List V→Prop
 | [],xs=>xs=[]
 | d::ds,xs=>∃ x r,xs=x::r∧Is K H d x∧AllIs K H ds r
end
variable {K:PySem.W.Frag} {H H' H1 H2:Hp}
theorem is_non {v:V}:Is K H .non v↔v=.non:=by unfold Is; exact Iff.rfl
theorem is_bl {b:Bool} {v:V}:Is K H (.bl b) v↔v=.bl b:=by unfold Is; exact Iff.rfl
theorem is_int {i:Int} {v:V}:Is K H (.int i) v↔v=.int i:=by unfold Is; exact Iff.rfl
theorem is_str {x:Str} {v:V}:Is K H (.str x) v↔v=.str x:=by unfold Is; exact Iff.rfl
theorem is_tup {ds:List Dt} {v:V}:Is K H (.tup ds) v↔∃ a xs,v=.ref a∧H a=some (.tup xs)∧AllIs K H ds xs:=by
 constructor
 ·intro h; unfold Is at h; exact h
 ·intro h; unfold Is; exact h
theorem is_lst {ds:List Dt} {v:V}:Is K H (.lst ds) v↔∃ a xs,v=.ref a∧H a=some (.lst xs)∧AllIs K H ds xs:=by
 constructor
 ·intro h; unfold Is at h; exact h
 ·intro h; unfold Is; exact h
theorem is_scr {ns:List Int} {v:V}:Is K H (.scr ns) v↔∃ a,v=.ref a∧SqL K H a (ns.map V.int):=by
 constructor
 ·intro h; unfold Is at h; exact h
 ·intro h; unfold Is; exact h
theorem is_way {C:Addr} {f:Str} {n:Int} {v:V}:Is K H (.way C f n) v↔∃ a dx,v=.ref a∧H a=some (.ins C dx [(f,.int n)]):=by
 constructor
 ·intro h; unfold Is at h; exact h
 ·intro h; unfold Is; exact h
theorem is_exc {C:Addr} {v:V}:Is K H (.exc C) v↔∃ a,v=.ref a∧H a=some (.ext (cM a C)):=by
 constructor
 ·intro h; unfold Is at h; exact h
 ·intro h; unfold Is; exact h
theorem allIs_nil {xs:List V}:AllIs K H [] xs↔xs=[]:=by unfold AllIs; exact Iff.rfl
theorem allIs_cons {d:Dt} {ds:List Dt} {xs:List V}:AllIs K H (d::ds) xs↔∃ x r,xs=x::r∧Is K H d x∧AllIs K H ds r:=by
 constructor
 ·intro h; unfold AllIs at h; exact h
 ·intro h; unfold AllIs; exact h
mutual
theorem Is.mono0 (s:Same H H'):∀ {d:Dt} {v:V},Is K H d v→Is K H' d v
 | .non,_,h=>is_non.mpr (is_non.mp h)
 | .bl _,_,h=>is_bl.mpr (is_bl.mp h)
 | .int _,_,h=>is_int.mpr (is_int.mp h)
 | .str _,_,h=>is_str.mpr (is_str.mp h)
 | .tup ds,_,h=>by
  obtain ⟨a,xs,e,h1,h2⟩:=is_tup.mp h
  exact is_tup.mpr ⟨a,xs,e,s _ _ h1,AllIs.mono0 s h2⟩
 | .lst ds,_,h=>by
  obtain ⟨a,xs,e,h1,h2⟩:=is_lst.mp h
  exact is_lst.mpr ⟨a,xs,e,s _ _ h1,AllIs.mono0 s h2⟩
 | .scr ns,_,h=>by
  obtain ⟨a,e,h1⟩:=is_scr.mp h
  exact is_scr.mpr ⟨a,e,s.seq h1⟩
 | .way C f n,_,h=>by
  obtain ⟨a,dx,e,h1⟩:=is_way.mp h
  exact is_way.mpr ⟨a,dx,e,s _ _ h1⟩
 | .exc C,_,h=>by
  obtain ⟨a,e,h1⟩:=is_exc.mp h
  exact is_exc.mpr ⟨a,e,s _ _ h1⟩
theorem AllIs.mono0 (s:Same H H'):∀ {ds:List Dt} {xs:List V},AllIs K H ds xs→AllIs K H' ds xs
 | [],_,h=>allIs_nil.mpr (allIs_nil.mp h)
 | d::ds,_,h=>by
  obtain ⟨x,r,e,h1,h2⟩:=allIs_cons.mp h
  exact allIs_cons.mpr ⟨x,r,e,Is.mono0 s h1,AllIs.mono0 s h2⟩
end
theorem AllIs.length:∀ {ds:List Dt} {xs:List V},AllIs K H ds xs→ds.length=xs.length
 | [],_,h=>by rw [allIs_nil.mp h]; rfl
 | d::ds,_,h=>by
  obtain ⟨x,r,rfl,_,h2⟩:=allIs_cons.mp h
  rw [List.length_cons,List.length_cons,AllIs.length h2]
theorem AllIs.get:∀ {ds:List Dt} {xs:List V} {i:Nat} {d:Dt},AllIs K H ds xs→ds[i]? = some d→∃ v,xs[i]? = some v∧Is K H d v
 | [],_,_,_,_,e=>by simp at e
 | d::ds,_,0,d',h,e=>by
  obtain ⟨x,r,rfl,h1,h2⟩:=allIs_cons.mp h
  simp at e; subst e
  exact ⟨x,rfl,h1⟩
 | d::ds,_,i+1,d',h,e=>by
  obtain ⟨x,r,rfl,h1,h2⟩:=allIs_cons.mp h
  obtain ⟨v,e1,e2⟩:=AllIs.get (i:=i) h2 (by simpa using e)
  exact ⟨v,by simpa using e1,e2⟩
theorem AllIs.get':∀ {ds:List Dt} {xs:List V} {i:Nat} {v:V},AllIs K H ds xs→xs[i]? = some v→∃ d,ds[i]? = some d∧Is K H d v
 | [],_,_,_,h,e=>by rw [allIs_nil.mp h] at e; simp at e
 | d::ds,_,0,v,h,e=>by
  obtain ⟨x,r,rfl,h1,h2⟩:=allIs_cons.mp h
  simp at e; subst e
  exact ⟨d,rfl,h1⟩
 | d::ds,_,i+1,v,h,e=>by
  obtain ⟨x,r,rfl,h1,h2⟩:=allIs_cons.mp h
  obtain ⟨v,e1,e2⟩:=AllIs.get' (i:=i) h2 (by simpa using e)
  exact ⟨v,by simpa using e1,e2⟩
theorem AllIs.append:∀ {ds es:List Dt} {xs ys:List V},AllIs K H ds xs→AllIs K H es ys→AllIs K H (ds++es) (xs++ys)
 | [],_,_,_,h,h'=>by rw [allIs_nil.mp h]; exact h'
 | d::ds,_,_,_,h,h'=>by
  obtain ⟨x,r,rfl,h1,h2⟩:=allIs_cons.mp h
  exact allIs_cons.mpr ⟨x,_,rfl,h1,AllIs.append h2 h'⟩
theorem AllIs.drop:∀ {ds:List Dt} {xs:List V} (n:Nat),AllIs K H ds xs→AllIs K H (ds.drop n) (xs.drop n)
 | _,_,0,h=>h
 | [],_,n+1,h=>by rw [allIs_nil.mp h]; exact allIs_nil.mpr rfl
 | d::ds,_,n+1,h=>by
  obtain ⟨x,r,rfl,h1,h2⟩:=allIs_cons.mp h
  exact AllIs.drop n h2
theorem AllIs.take:∀ {ds:List Dt} {xs:List V} (n:Nat),AllIs K H ds xs→AllIs K H (ds.take n) (xs.take n)
 | _,_,0,_=>allIs_nil.mpr rfl
 | [],_,n+1,h=>by rw [allIs_nil.mp h]; exact allIs_nil.mpr rfl
 | d::ds,_,n+1,h=>by
  obtain ⟨x,r,rfl,h1,h2⟩:=allIs_cons.mp h
  exact allIs_cons.mpr ⟨x,_,rfl,h1,AllIs.take n h2⟩
theorem AllIs.ints:∀ {ns:List Int},AllIs K H (ns.map Dt.int) (ns.map V.int)
 | []=>allIs_nil.mpr rfl
 | n::ns=>allIs_cons.mpr ⟨.int n,_,rfl,is_int.mpr rfl,AllIs.ints⟩
theorem AllIs.atI {ds:List Dt} {xs:List V} {i:Int} {d:Dt} (h:AllIs K H ds xs) (e:L2.atI ds i=some d):∃ v,L2.atI xs i=some v∧Is K H d v:=by
 unfold L2.atI at e ⊢
 rw [← h.length]
 cases q:ixN ds.length i with
 | none=>rw [q] at e; cases e
 | some j=>
  rw [q] at e
  exact h.get e
theorem AllIs.one {d:Dt} {xs:List V} (h:AllIs K H [d] xs):∃ v,xs=[v]∧Is K H d v:=by
 obtain ⟨x,r,rfl,h1,h2⟩:=allIs_cons.mp h
 rw [allIs_nil.mp h2]
 exact ⟨x,rfl,h1⟩
theorem AllIs.two {d e:Dt} {xs:List V} (h:AllIs K H [d,e] xs):∃ v u,xs=[v,u]∧Is K H d v∧Is K H e u:=by
 obtain ⟨x,r,rfl,h1,h2⟩:=allIs_cons.mp h
 obtain ⟨u,rfl,h3⟩:=h2.one
 exact ⟨x,u,rfl,h1,h3⟩
theorem zF {p:Addr} (h:H p=none) (o:HO):Same H (upd H p o):=fun b u q=>by rw [zw (zQ q h)]; exact q
structure Vw where
 g:Hp
 h:Hp
 sub:Same g h
structure Le (W W':Vw):Prop where
 g:Same W.g W'.g
 h:Same W.h W'.h
 n:∀ a,W.h a≠none→W.g a=none→W'.g a=none
theorem Le.refl (W:Vw):Le W W:=⟨Same.refl _,Same.refl _,fun _ _ h=>h⟩
theorem Le.trans {W W1 W2:Vw} (a:Le W W1) (b:Le W1 W2):Le W W2:=
 ⟨a.g.trans b.g,a.h.trans b.h,fun c h1 h2=>b.n c (fun z=>h1 (a.h.free z)) (a.n c h1 h2)⟩
theorem Is.mono {W W':Vw} {d:Dt} {v:V} (h:Is K W.g d v) (s:Le W W'):Is K W'.g d v:=Is.mono0 s.g h
theorem AllIs.mono {W W':Vw} {d:List Dt} {v:List V} (h:AllIs K W.g d v) (s:Le W W'):AllIs K W'.g d v:=AllIs.mono0 s.g h
def Vw.new (W:Vw) (p:Addr) (o:HO):Vw:=⟨upd W.g p o,upd W.h p o,fun b u q=>by
 by_cases e:b=p
 ·subst e; rw [zv] at q ⊢; exact q
 ·rw [zw e] at q ⊢; exact W.sub _ _ q⟩
theorem tS {W:Vw} {p:Addr} (hp:W.h p=none) (o:HO):Le W (W.new p o):=
 ⟨zF (W.sub.free hp) o,zF hp o,fun a h1 h2=>by
  have:a≠p:=fun e=>h1 (e ▸ hp)
  show upd W.g p o a=none
  rw [zw this]; exact h2⟩
def Vw.mine (W:Vw) (p:Addr) (o:HO) (hp:W.g p=none):Vw:=⟨W.g,upd W.h p o,fun b u q=>by
 have:b≠p:=fun e=>by rw [e,hp] at q; cases q
 rw [zw this]; exact W.sub _ _ q⟩
theorem qi {W:Vw} {p:Addr} (hp:W.h p=none) (o:HO):Le W (W.mine p o (W.sub.free hp)):=
 ⟨Same.refl _,zF hp o,fun _ _ h=>h⟩
def Vw.frz (W:Vw) (p:Addr) (o:HO) (hp:W.h p=some o):Vw:=⟨upd W.g p o,W.h,fun b u q=>by
 by_cases e:b=p
 ·subst e; rw [zv] at q; rw [hp]; exact q
 ·rw [zw e] at q; exact W.sub _ _ q⟩
inductive Sl where | none | some (d:Dt) | own (ds:List Dt) | arg (a:Addr) (ds:List Dt)
abbrev DS:=List Sl
structure Rl (K:PySem.W.Frag) (Z F:Hp) (W:Vw) (ρ:DS) (σ:St):Prop where
 len:ρ.length=σ.length
 at_:∀ (i:Nat) (d:Dt),ρ[i]? = some (.some d)→∃ v,σ[i]? = some (some v)∧Is K W.g d v
 ow:∀ (i:Nat) (ds:List Dt),ρ[i]? = some (.own ds)→∃ a xs,σ[i]? = some (some (.ref a))∧W.h a=some (.lst xs)∧W.g a=none∧F a=none∧AllIs K W.g ds xs
 ne:∀ (i j:Nat) (ds es:List Dt),i≠j→ρ[i]? = some (.own ds)→ρ[j]? = some (.own es)→σ[i]?≠σ[j]?
 fr:Same F W.h
 z:Same Z F
 ar:∀ (i:Nat) (a:Addr) (ds:List Dt),ρ[i]? = some (.arg a ds)→(∃ xs,σ[i]? = some (some (.ref a))∧W.h a=some (.lst xs)∧W.g a=none∧F a=none∧AllIs K W.g ds xs)∧(∀ (j:Nat) (es:List Dt),ρ[j]? = some (.own es)→σ[j]?≠some (some (.ref a)))∧∀ (j:Nat) (b:Addr) (es:List Dt),ρ[j]? = some (.arg b es)→j=i
variable {F:Hp} {W W':Vw}
theorem Rl.mono {ρ:DS} {σ:St} (r:Rl K Z F W ρ σ) (s:Le W W'):Rl K Z F W' ρ σ:=
 ⟨r.len,fun i d e=>let ⟨v,h1,h2⟩:=r.at_ i d e; ⟨v,h1,h2.mono s⟩,
  fun i ds e=>let ⟨a,xs,h1,h2,h3,h4,h5⟩:=r.ow i ds e; ⟨a,xs,h1,s.h _ _ h2,s.n a (by rw [h2]; intro z; cases z) h3,h4,h5.mono s⟩,r.ne,r.fr.trans s.h,r.z,
  fun i a ds e=>let ⟨⟨xs,h1,h2,h3,h4,h5⟩,k1,k2⟩:=r.ar i a ds e; ⟨⟨xs,h1,s.h _ _ h2,s.n a (by rw [h2]; intro z; cases z) h3,h4,h5.mono s⟩,k1,k2⟩⟩
theorem zt {α:Type} {l:List α} {i j:Nat} {x y:α} (q:(l.set i x)[j]? = some y):(i=j∧i<l.length∧x=y)∨(i≠j∧l[j]? = some y):=by
 by_cases hij:i=j
 ·subst hij
  by_cases hl:i<l.length
  ·rw [List.getElem?_set_self hl] at q
   exact .inl ⟨rfl,hl,Option.some.inj q⟩
  ·rw [List.getElem?_eq_none (by rw [List.length_set]; omega)] at q
   cases q
 ·rw [List.getElem?_set_ne hij] at q
  exact .inr ⟨hij,q⟩
theorem Rl.set {ρ:DS} {σ:St} (r:Rl K Z F W ρ σ) {d:Dt} {v:V} (i:Nat) (h:Is K W.g d v):Rl K Z F W (ρ.set i (.some d)) (σ.set i (some v)):=by
 refine ⟨by rw [List.length_set,List.length_set]; exact r.len,fun j e q=>?_,fun j ds q=>?_,fun j k ds es hjk q1 q2=>?_,r.fr,r.z,fun j a ds q=>?_⟩
 ·rcases zt q with ⟨rfl,hl,e1⟩ | ⟨hij,q⟩
  ·cases e1
   exact ⟨v,by rw [List.getElem?_set_self (by rw [← r.len]; exact hl)],h⟩
  ·rw [List.getElem?_set_ne hij]
   exact r.at_ j e q
 ·rcases zt q with ⟨_,_,e1⟩ | ⟨hij,q⟩
  ·cases e1
  ·rw [List.getElem?_set_ne hij]
   exact r.ow j ds q
 ·rcases zt q1 with ⟨_,_,e1⟩ | ⟨hij,q1⟩
  ·cases e1
  rcases zt q2 with ⟨_,_,e1⟩ | ⟨hik,q2⟩
  ·cases e1
  rw [List.getElem?_set_ne hij,List.getElem?_set_ne hik]
  exact r.ne j k ds es hjk q1 q2
 ·rcases zt q with ⟨_,_,e1⟩ | ⟨hij,q⟩
  ·cases e1
  obtain ⟨⟨xs,h1,h2⟩,k1,k2⟩:=r.ar j a ds q
  refine ⟨⟨xs,by rw [List.getElem?_set_ne hij]; exact h1,h2⟩,fun k es q'=>?_,fun k c es q'=>?_⟩
  ·rcases zt q' with ⟨_,_,e1⟩ | ⟨hik,q'⟩
   ·cases e1
   rw [List.getElem?_set_ne hik]
   exact k1 k es q'
  ·rcases zt q' with ⟨_,_,e1⟩ | ⟨hik,q'⟩
   ·cases e1
   exact k2 k c es q'
theorem Rl.own {ρ:DS} {σ:St} (r:Rl K Z F W ρ σ) (s:Le W W') {p:Addr} {xs:List V} {ds:List Dt} (i:Nat) (h0:W.h p=none) (h1:W'.h p=some (.lst xs)) (h2:W'.g p=none) (h3:AllIs K W'.g ds xs):
  Rl K Z F W' (ρ.set i (.own ds)) (σ.set i (some (.ref p))):=by
 have r':=r.mono s
 have nep:∀ (j:Nat) (es:List Dt),ρ[j]? = some (Sl.own es)→σ[j]?≠some (some (V.ref p)):=fun j es q z=>by
  obtain ⟨a,ys,e1,e2,_⟩:=r.ow j es q
  rw [z] at e1
  cases e1
  rw [h0] at e2
  cases e2
 refine ⟨by rw [List.length_set,List.length_set]; exact r.len,fun j e q=>?_,fun j es q=>?_,fun j k es es' hjk q1 q2=>?_,r'.fr,r.z,fun j a fs q=>?_⟩
 ·rcases zt q with ⟨_,_,e1⟩ | ⟨hij,q⟩
  ·cases e1
  ·rw [List.getElem?_set_ne hij]
   exact r'.at_ j e q
 ·rcases zt q with ⟨rfl,hl,e1⟩ | ⟨hij,q⟩
  ·cases e1
   exact ⟨p,xs,by rw [List.getElem?_set_self (by rw [← r.len]; exact hl)],h1,h2,r.fr.free h0,h3⟩
  ·rw [List.getElem?_set_ne hij]
   exact r'.ow j es q
 ·rcases zt q1 with ⟨rfl,hl,e1⟩ | ⟨hij,q1⟩
  ·rcases zt q2 with ⟨rfl,_,_⟩ | ⟨hik,q2⟩
   ·exact absurd rfl hjk
   ·rw [List.getElem?_set_self (by rw [← r.len]; exact hl),List.getElem?_set_ne hik]
    exact fun z=>nep k es' q2 z.symm
  ·rcases zt q2 with ⟨rfl,hl,_⟩ | ⟨hik,q2⟩
   ·rw [List.getElem?_set_self (by rw [← r.len]; exact hl),List.getElem?_set_ne hij]
    exact nep j es q1
   ·rw [List.getElem?_set_ne hij,List.getElem?_set_ne hik]
    exact r.ne j k es es' hjk q1 q2
 ·rcases zt q with ⟨_,_,e1⟩ | ⟨hij,q⟩
  ·cases e1
  obtain ⟨⟨ys,g1,g2⟩,k1,k2⟩:=r'.ar j a fs q
  obtain ⟨⟨_,_,g3,_⟩,_,_⟩:=r.ar j a fs q
  refine ⟨⟨ys,by rw [List.getElem?_set_ne hij]; exact g1,g2⟩,fun k es q'=>?_,fun k c es q'=>?_⟩
  ·rcases zt q' with ⟨rfl,hl,e1⟩ | ⟨hik,q'⟩
   ·rw [List.getElem?_set_self (by rw [← r.len]; exact hl)]
    intro z
    cases z
    rw [h0] at g3
    cases g3
   ·rw [List.getElem?_set_ne hik]
    exact k1 k es q'
  ·rcases zt q' with ⟨_,_,e1⟩ | ⟨hik,q'⟩
   ·cases e1
   exact k2 k c es q'
theorem Rl.put {ρ:DS} {σ:St} (r:Rl K Z F W ρ σ) {i:Nat} {ds es:List Dt} {a:Addr} {ys:List V} (hi:ρ[i]? = some (.own ds)) (ha:σ[i]? = some (some (.ref a))) (hg:W.g a=none) (hF:F a=none) (h3:AllIs K W.g es ys):
  Rl K Z F (W.mine a (.lst ys) hg) (ρ.set i (.own es)) σ:=by
 have hl:i<ρ.length:=by
  rcases Nat.lt_or_ge i ρ.length with h | h
  ·exact h
  ·rw [List.getElem?_eq_none h] at hi; cases hi
 have other:∀ j fs,j≠i→ρ[j]? = some (.own fs)→σ[j]?≠some (some (.ref a)):=fun j fs hj q z=>r.ne j i fs ds hj q hi (z.trans ha.symm)
 refine ⟨by rw [List.length_set]; exact r.len,fun j e q=>?_,fun j fs q=>?_,fun j k fs fs' hjk q1 q2=>?_,fun p o q=>?_,r.z,fun j c fs q=>?_⟩
 ·rcases zt q with ⟨_,_,e1⟩ | ⟨hij,q⟩
  ·cases e1
  ·exact r.at_ j e q
 ·rcases zt q with ⟨rfl,_,e1⟩ | ⟨hij,q⟩
  ·cases e1
   exact ⟨a,ys,ha,zv,hg,hF,h3⟩
  ·obtain ⟨b,xs,e1,e2,e3,e4,e5⟩:=r.ow j fs q
   have hb:b≠a:=fun z=>other j fs (fun z=>hij z.symm) q (z ▸ e1)
   exact ⟨b,xs,e1,(zw hb).trans e2,e3,e4,e5⟩
 ·have k1:∃ gs,ρ[j]? = some (.own gs):=by
   rcases zt q1 with ⟨rfl,_,_⟩ | ⟨_,q⟩
   ·exact ⟨_,hi⟩
   ·exact ⟨_,q⟩
  have k2:∃ gs,ρ[k]? = some (.own gs):=by
   rcases zt q2 with ⟨rfl,_,_⟩ | ⟨_,q⟩
   ·exact ⟨_,hi⟩
   ·exact ⟨_,q⟩
  obtain ⟨_,k1⟩:=k1
  obtain ⟨_,k2⟩:=k2
  exact r.ne j k _ _ hjk k1 k2
 ·have e:p≠a:=fun e=>by rw [e,hF] at q; cases q
  exact (zw (H:=W.h) (o:=.lst ys) e).trans (r.fr p o q)
 ·rcases zt q with ⟨_,_,e1⟩ | ⟨hij,q⟩
  ·cases e1
  obtain ⟨⟨ys',g1,g2,g3,g4,g5⟩,k1,k2⟩:=r.ar j c fs q
  have hc:c≠a:=fun z=>k1 i ds hi (by rw [z]; exact ha)
  refine ⟨⟨ys',g1,(zw hc).trans g2,g3,g4,g5⟩,fun k es' q'=>?_,fun k c' es' q'=>?_⟩
  ·rcases zt q' with ⟨rfl,_,_⟩ | ⟨_,q'⟩
   ·exact k1 i ds hi
   ·exact k1 k es' q'
  ·rcases zt q' with ⟨_,_,e1⟩ | ⟨hik,q'⟩
   ·cases e1
   exact k2 k c' es' q'
theorem Rl.frz {ρ:DS} {σ:St} (r:Rl K Z F W ρ σ) {i:Nat} {ds:List Dt} {a:Addr} {xs:List V} (hi:ρ[i]? = some (.own ds)) (ha:σ[i]? = some (some (.ref a))) (hh:W.h a=some (.lst xs)) (hg:W.g a=none) (h3:AllIs K W.g ds xs):
  Rl K Z F (W.frz a _ hh) (ρ.set i (.some (.lst ds))) σ:=by
 have sg:Same W.g (upd W.g a (.lst xs)):=zF hg _
 have other:∀ j fs,j≠i→ρ[j]? = some (.own fs)→σ[j]?≠some (some (.ref a)):=fun j fs hj q z=>r.ne j i fs ds hj q hi (z.trans ha.symm)
 refine ⟨by rw [List.length_set]; exact r.len,fun j e q=>?_,fun j fs q=>?_,fun j k fs fs' hjk q1 q2=>?_,r.fr,r.z,fun j c fs q=>?_⟩
 ·rcases zt q with ⟨rfl,_,e1⟩ | ⟨hij,q⟩
  ·cases e1
   exact ⟨_,ha,is_lst.mpr ⟨a,xs,rfl,zv,AllIs.mono0 sg h3⟩⟩
  ·obtain ⟨v,e1,e2⟩:=r.at_ j e q
   exact ⟨v,e1,Is.mono0 sg e2⟩
 ·rcases zt q with ⟨_,_,e1⟩ | ⟨hij,q⟩
  ·cases e1
  ·obtain ⟨b,ys,e1,e2,e3,e4,e5⟩:=r.ow j fs q
   have hb:b≠a:=fun z=>other j fs (fun z=>hij z.symm) q (z ▸ e1)
   exact ⟨b,ys,e1,e2,(zw hb).trans e3,e4,AllIs.mono0 sg e5⟩
 ·rcases zt q1 with ⟨_,_,e1⟩ | ⟨_,q1⟩
  ·cases e1
  rcases zt q2 with ⟨_,_,e1⟩ | ⟨_,q2⟩
  ·cases e1
  exact r.ne j k _ _ hjk q1 q2
 ·rcases zt q with ⟨_,_,e1⟩ | ⟨hij,q⟩
  ·cases e1
  obtain ⟨⟨ys',g1,g2,g3,g4,g5⟩,k1,k2⟩:=r.ar j c fs q
  have hc:c≠a:=fun z=>k1 i ds hi (by rw [z]; exact ha)
  refine ⟨⟨ys',g1,g2,(zw hc).trans g3,g4,AllIs.mono0 sg g5⟩,fun k es' q'=>?_,fun k c' es' q'=>?_⟩
  ·rcases zt q' with ⟨_,_,e1⟩ | ⟨_,q'⟩
   ·cases e1
   ·exact k1 k es' q'
  ·rcases zt q' with ⟨_,_,e1⟩ | ⟨hik,q'⟩
   ·cases e1
   exact k2 k c' es' q'
def xc (n:Nat) (ds:List Dt):DS:=ds.map Sl.some++List.replicate (n - ds.length) Sl.none
theorem Rl.start {N:List Str} {ds:List Dt} {vs:List V} (h:AllIs K W.g ds vs) (hz:Same Z W.h):Rl K Z W.h W (xc N.length ds) (L2.start N vs):=by
 have hl:=h.length
 have cls:∀ (i:Nat) (y:Sl),(xc N.length ds)[i]? = some y→(∃ d,ds[i]? = some d∧y=.some d)∨y=.none:=fun i y e=>by
  unfold xc at e
  by_cases hi:i<ds.length
  ·rw [List.getElem?_append_left (by rw [List.length_map]; exact hi),List.getElem?_map] at e
   cases q:ds[i]? with
   | none=>rw [q] at e; cases e
   | some d'=>
    rw [q] at e
    exact .inl ⟨d',rfl,(Option.some.inj e).symm⟩
  ·rw [List.getElem?_append_right (by rw [List.length_map]; omega),List.getElem?_replicate] at e
   split at e
   ·exact .inr (Option.some.inj e).symm
   ·cases e
 refine ⟨by unfold L2.start xc; rw [List.length_append,List.length_append,List.length_map,List.length_map,List.length_replicate,List.length_replicate,hl],fun i d e=>?_,fun i es e=>?_,fun i j es fs _ e _=>?_,Same.refl _,hz,fun i a es e=>?_⟩
 ·rcases cls i _ e with ⟨d',q,e1⟩ | e1
  ·cases e1
   obtain ⟨v,h1,h2⟩:=h.get q
   refine ⟨v,?_,h2⟩
   have hi:i<ds.length:=by
    rcases Nat.lt_or_ge i ds.length with h | h
    ·exact h
    ·rw [List.getElem?_eq_none h] at q; cases q
   unfold L2.start
   rw [List.getElem?_append_left (by rw [List.length_map,← hl]; exact hi),List.getElem?_map,h1]
   rfl
  ·cases e1
 ·rcases cls i _ e with ⟨d',q,e1⟩ | e1
  ·cases e1
  ·cases e1
 ·rcases cls i _ e with ⟨d',q,e1⟩ | e1
  ·cases e1
  ·cases e1
 ·rcases cls i _ e with ⟨d',q,e1⟩ | e1
  ·cases e1
  ·cases e1
abbrev DTE:=DS→(Dt→Prop)→Prop
abbrev DTT:=DS→(Bool→Prop)→Prop
abbrev DTA:=DS→(List Dt→Prop)→Prop
def LiE (K:PySem.W.Frag) (Z:Hp) (te:TE) (t:DTE):Prop:=
 ∀ {F:Hp} (ρ:DS) (σ:St) (H:Vw) (Q:Dt→Prop),Rl K Z F H ρ σ→t ρ Q→∀ R:VK,(∀ d v H',Le H H'→Is K H'.g d v→Q d→R v H'.h)→te σ H.h R
def LiT (K:PySem.W.Frag) (Z:Hp) (te:TT) (t:DTT):Prop:=
 ∀ {F:Hp} (ρ:DS) (σ:St) (H:Vw) (Q:Bool→Prop),Rl K Z F H ρ σ→t ρ Q→∀ R:Bool→Hp→Prop,(∀ d H',Le H H'→Q d→R d H'.h)→te σ H.h R
def LiA (K:PySem.W.Frag) (Z:Hp) (te:TA) (t:DTA):Prop:=
 ∀ {F:Hp} (ρ:DS) (σ:St) (H:Vw) (Q:List Dt→Prop),Rl K Z F H ρ σ→t ρ Q→∀ R:List V→Hp→Prop,(∀ d v H',Le H H'→AllIs K H'.g d v→Q d→R v H'.h)→te σ H.h R
def DE (X:Cx) (e:Expr) (t:DTE):Prop:=∃ te,PE X e te∧LiE X.K (Zx X) te t
def DT (X:Cx) (e:Expr) (t:DTT):Prop:=∃ te,PT X e te∧LiT X.K (Zx X) te t
def DW (X:Cx) (e:Expr) (t:DTT):Prop:=∃ te,PW X e te∧LiT X.K (Zx X) te t
def DA (X:Cx) (es:List Expr) (t:DTA):Prop:=∃ te,PA X es te∧LiA X.K (Zx X) te t
theorem DW.dt {X:Cx} {e:Expr} {t:DTT} (h:DW X e t):DT X e t:=let ⟨te,h1,h2⟩:=h; ⟨te,h1.pt,h2⟩
def XH (i:Nat):DTE:=fun ρ Q=>∃ d,ρ[i]? = some (.some d)∧Q d
def dC (d:Dt):DTE:=fun _ Q=>Q d
section
variable {X:Cx} {a b c:Expr} {ta tb tc:DTE} {pos:Pos}
theorem dv (i:Nat) {x:Str} {pos:Pos} (hN:X.N[i]? = some x:=by rfl) (hv:Vis X.env.scope x:=by first | exact Or.inl rfl | exact Or.inr (Or.inl rfl) | exact Or.inr (Or.inr rfl)) (hd:(x == ("__debug__":Str))=false:=by decide)
  (hcd:(x == ("__classdict__":Str))=false:=by decide):DE X (.Name x pos) (XH i):=
 ⟨iY i,xu hN hv hd hcd,fun ρ σ H Q r h R k=>by
  obtain ⟨d,e,q⟩:=h
  obtain ⟨v,h1,h2⟩:=r.at_ i d e
  exact ⟨v,h1,k d v H (Le.refl H) h2 q⟩⟩
theorem lic {v:V} {d:Dt} (h:∀ H:Vw,Is K H.g d v):LiE K Z (tC v) (dC d):=fun ρ σ H Q r q R k=>k d v H (Le.refl H) (h H) q
theorem zc {i j pos}:DE X (.Constant (.int i) j pos) (dC (.int i)):=⟨_,bI,lic fun _=>is_int.mpr rfl⟩
theorem xY {b j pos}:DE X (.Constant (.bool b) j pos) (dC (.bl b)):=⟨_,Ww,lic fun _=>is_bl.mpr rfl⟩
theorem XF {j pos}:DE X (.Constant .none j pos) (dC .non):=⟨_,bH,lic fun _=>is_non.mpr rfl⟩
theorem zA {x j pos}:DE X (.Constant (.str x) j pos) (dC (.str x)):=⟨_,bE,lic fun _=>is_str.mpr rfl⟩
def DOp (X:Cx) (f:Value→Value→Sem Value) (g:Dt→Dt→(Dt→Prop)→Prop):Prop:=
 ∃ r,OpR X f r∧∀ (H:Vw) (x y:V) (d e:Dt) (Q:Dt→Prop),Is X.K H.g d x→Is X.K H.g e y→g d e Q→∀ R:VK,(∀ d v H',Le H H'→Is X.K H'.g d v→Q d→R v H'.h)→r x y H.h R
def dOp (g:Dt→Dt→(Dt→Prop)→Prop) (ta tb:DTE):DTE:=fun ρ Q=>ta ρ fun d=>tb ρ fun e=>g d e Q
theorem dJ {te tf:TE} {r:R2} {g:Dt→Dt→(Dt→Prop)→Prop} (ha:LiE K Z te ta) (hb:LiE K Z tf tb)
  (hg:∀ (H:Vw) (x y:V) (d e:Dt) (Q:Dt→Prop),Is K H.g d x→Is K H.g e y→g d e Q→∀ R:VK,(∀ d v H',Le H H'→Is K H'.g d v→Q d→R v H'.h)→r x y H.h R):LiE K Z (tOp r te tf) (dOp g ta tb):=
 fun ρ σ H Q rl h R k=>ha ρ σ H _ rl h _ fun d v H1 s1 i1 q1=>hb ρ σ H1 _ (rl.mono s1) q1 _ fun e u H2 s2 i2 q2=>
  hg H2 v u d e Q (i1.mono s2) i2 q2 R fun d' v' H3 s3 i3 q3=>k d' v' H3 ((s1.trans s2).trans s3) i3 q3
theorem zi {op:Operator} {g:Dt→Dt→(Dt→Prop)→Prop} (ho:DOp X (binaryOp op) g) (ha:DE X a ta) (hb:DE X b tb):DE X (.BinOp a op b pos) (dOp g ta tb):=by
 obtain ⟨r,h1,h2⟩:=ho
 obtain ⟨te,p1,l1⟩:=ha
 obtain ⟨tf,p2,l2⟩:=hb
 exact ⟨_,Wv h1 p1 p2,dJ l1 l2 h2⟩
theorem xx {op:CmpOp} {g:Dt→Dt→(Dt→Prop)→Prop} (ho:DOp X (compareOp op) g) (ha:DE X a ta) (hb:DE X b tb) (hm:behindInMarks op b=false):DE X (.Compare a [op] [b] pos) (dOp g ta tb):=by
 obtain ⟨r,h1,h2⟩:=ho
 obtain ⟨te,p1,l1⟩:=ha
 obtain ⟨tf,p2,l2⟩:=hb
 exact ⟨_,gm h1 p1 p2 hm,dJ l1 l2 h2⟩
def uE (t:DTE):DTT:=fun ρ Q=>t ρ fun d=>∃ k,d=.bl k∧Q k
theorem qh {te:TE} {t:DTE} (h:LiE K Z te t):LiT K Z (kg te) (uE t):=fun ρ σ H Q r q R k=>
 h ρ σ H _ r q _ fun d v H1 s1 i1 ⟨b,e,qb⟩=>by
  subst e
  exact ⟨b,is_bl.mp i1,k b H1 s1 qb⟩
theorem zr {op:CmpOp} {g:Dt→Dt→(Dt→Prop)→Prop} (ho:DOp X (compareOp op) g) (ha:DE X a ta) (hb:DE X b tb) (hm:behindInMarks op b=false):DT X (.Compare a [op] [b] pos) (uE (dOp g ta tb)):=by
 obtain ⟨r,h1,h2⟩:=ho
 obtain ⟨te,p1,l1⟩:=ha
 obtain ⟨tf,p2,l2⟩:=hb
 exact ⟨_,gd h1 p1 p2 hm,qh (dJ l1 l2 h2)⟩
theorem zI {e:Expr} {t:DTE} (h:DE X e t) (he:∀ yy,isTrue e X.env yy=(do let v ← yy; standAt e.pos; holding [v] (truthy v)):=by intro _; rfl):DT X e (uE t):=by
 obtain ⟨te,p,l⟩:=h
 exact ⟨_,bu p he,qh l⟩
def iA (g g':Dt→Dt→(Dt→Prop)→Prop) (ta tb tc:DTE):DTE:=fun ρ Q=>ta ρ fun d=>tb ρ fun e=>g d e fun z=>∃ k,z=.bl k∧(if k=true then tc ρ fun w=>g' e w Q else Q (.bl false))
theorem dL {te tf tg:TE} {r r':R2} {g g':Dt→Dt→(Dt→Prop)→Prop} (ha:LiE K Z te ta) (hb:LiE K Z tf tb) (hc:LiE K Z tg tc)
  (hg:∀ (H:Vw) (x y:V) (d e:Dt) (Q:Dt→Prop),Is K H.g d x→Is K H.g e y→g d e Q→∀ R:VK,(∀ d v H',Le H H'→Is K H'.g d v→Q d→R v H'.h)→r x y H.h R)
  (hg':∀ (H:Vw) (x y:V) (d e:Dt) (Q:Dt→Prop),Is K H.g d x→Is K H.g e y→g' d e Q→∀ R:VK,(∀ d v H',Le H H'→Is K H'.g d v→Q d→R v H'.h)→r' x y H.h R):LiE K Z (ki r r' te tf tg) (iA g g' ta tb tc):=
 fun ρ σ H Q rl h R k=>ha ρ σ H _ rl h _ fun d v H1 s1 i1 q1=>hb ρ σ H1 _ (rl.mono s1) q1 _ fun e u H2 s2 i2 q2=>
  hg H2 v u d e _ (i1.mono s2) i2 q2 _ fun d' v' H3 s3 i3 ⟨z,ez,q3⟩=>by
   subst ez
   refine ⟨z,is_bl.mp i3,?_⟩
   cases z with
   | false=>exact k _ _ H3 ((s1.trans s2).trans s3) (is_bl.mpr rfl) q3
   | true=>exact hc ρ σ H3 _ (rl.mono ((s1.trans s2).trans s3)) q3 _ fun w x H4 s4 i4 q4=>hg' H4 u x e w Q (i2.mono (s3.trans s4)) i4 q4 R fun d5 v5 H5 s5 i5 q5=>k d5 v5 H5 (((s1.trans s2).trans (s3.trans s4)).trans s5) i5 q5
theorem j4 {op op':CmpOp} {g g':Dt→Dt→(Dt→Prop)→Prop} (ho:DOp X (compareOp op) g) (ho':DOp X (compareOp op') g') (ha:DE X a ta) (hb:DE X b tb) (hc:DE X c tc)
  (hm:lastMarks [op,op'] [b,c]=false:=by with_unfolding_all rfl):DT X (.Compare a [op,op'] [b,c] pos) (uE (iA g g' ta tb tc)):=by
 obtain ⟨r,h1,h2⟩:=ho
 obtain ⟨r',h3,h4⟩:=ho'
 obtain ⟨te,p1,l1⟩:=ha
 obtain ⟨tf,p2,l2⟩:=hb
 obtain ⟨tg,p3,l3⟩:=hc
 exact ⟨_,kB h1 h3 p1 p2 p3 hm,qh (dL l1 l2 l3 h2 h4)⟩
variable {tA tB:DTT} {yk:List Expr}
def XW (t u:DTT):DTT:=fun ρ Q=>t ρ fun c=>if c=true then u ρ Q else Q false
def dOr (t u:DTT):DTT:=fun ρ Q=>t ρ fun c=>if c=true then Q true else u ρ Q
def Te (t:DTT):DTT:=fun ρ Q=>t ρ fun c=>Q (!c)
theorem zV (ha:DT X a tA):DW X (.BoolOp .And [a] pos) tA:=let ⟨_,p,l⟩:=ha; ⟨_,gc p,l⟩
theorem uo (ha:DT X a tA):DW X (.BoolOp .Or [a] pos) tA:=let ⟨_,p,l⟩:=ha; ⟨_,bq p,l⟩
theorem zS (ha:DT X a tA) (hb:DW X (.BoolOp .And (b::yk) pos) tB):DW X (.BoolOp .And (a::b::yk) pos) (XW tA tB):=by
 obtain ⟨te,p1,l1⟩:=ha
 obtain ⟨tf,p2,l2⟩:=hb
 refine ⟨_,br p1 p2,fun ρ σ H Q r h R k=>l1 ρ σ H _ r h _ fun c H1 s1 q1=>?_⟩
 cases c with
 | true=>exact l2 ρ σ H1 Q (r.mono s1) q1 R fun d H2 s2 q2=>k d H2 (s1.trans s2) q2
 | false=>exact k _ H1 s1 q1
theorem vF (ha:DT X a tA) (hb:DW X (.BoolOp .Or (b::yk) pos) tB):DW X (.BoolOp .Or (a::b::yk) pos) (dOr tA tB):=by
 obtain ⟨te,p1,l1⟩:=ha
 obtain ⟨tf,p2,l2⟩:=hb
 refine ⟨_,Wr p1 p2,fun ρ σ H Q r h R k=>l1 ρ σ H _ r h _ fun c H1 s1 q1=>?_⟩
 cases c with
 | false=>exact l2 ρ σ H1 Q (r.mono s1) q1 R fun d H2 s2 q2=>k d H2 (s1.trans s2) q2
 | true=>exact k _ H1 s1 q1
theorem xv (ha:DT X a tA):DT X (.UnaryOp .Not a pos) (Te tA):=by
 obtain ⟨te,p1,l1⟩:=ha
 exact ⟨_,bv p1,fun ρ σ H Q r h R k=>l1 ρ σ H _ r h _ fun c H1 s1 q1=>k _ H1 s1 q1⟩
def Ul (ta tb:DTE):DTE:=fun ρ Q=>ta ρ fun d=>∃ c,d=.bl c∧if c=true then tb ρ Q else Q (.bl false)
def Td (ta tb:DTE):DTE:=fun ρ Q=>ta ρ fun d=>∃ c,d=.bl c∧if c=true then Q (.bl true) else tb ρ Q
def V1 (ta:DTE):DTE:=fun ρ Q=>ta ρ fun d=>∃ c,d=.bl c∧Q (.bl (!c))
theorem qv {op} {t:DTE} (h:DE X a t):DE X (.BoolOp op [a] pos) t:=let ⟨_,p,l⟩:=h; ⟨_,bF p,l⟩
theorem t_ (ha:DE X a ta) (hb:DE X (.BoolOp .And (b::yk) pos) tb):DE X (.BoolOp .And (a::b::yk) pos) (Ul ta tb):=by
 obtain ⟨te,p1,l1⟩:=ha
 obtain ⟨tf,p2,l2⟩:=hb
 refine ⟨_,bL p1 p2,fun ρ σ H Q r h R k=>l1 ρ σ H _ r h _ fun d v H1 s1 i1 ⟨c,e,q1⟩=>?_⟩
 subst e
 refine ⟨c,is_bl.mp i1,?_⟩
 cases c with
 | true=>exact l2 ρ σ H1 Q (r.mono s1) q1 R fun d v H2 s2 i2 q2=>k d v H2 (s1.trans s2) i2 q2
 | false=>exact k _ _ H1 s1 (is_bl.mpr rfl) q1
theorem VW (ha:DE X a ta) (hb:DE X (.BoolOp .Or (b::yk) pos) tb):DE X (.BoolOp .Or (a::b::yk) pos) (Td ta tb):=by
 obtain ⟨te,p1,l1⟩:=ha
 obtain ⟨tf,p2,l2⟩:=hb
 refine ⟨_,Wu p1 p2,fun ρ σ H Q r h R k=>l1 ρ σ H _ r h _ fun d v H1 s1 i1 ⟨c,e,q1⟩=>?_⟩
 subst e
 refine ⟨c,is_bl.mp i1,?_⟩
 cases c with
 | false=>exact l2 ρ σ H1 Q (r.mono s1) q1 R fun d v H2 s2 i2 q2=>k d v H2 (s1.trans s2) i2 q2
 | true=>exact k _ _ H1 s1 (is_bl.mpr rfl) q1
theorem io (ha:DE X a ta):DE X (.UnaryOp .Not a pos) (V1 ta):=by
 obtain ⟨te,p1,l1⟩:=ha
 refine ⟨_,bG p1,fun ρ σ H Q r h R k=>l1 ρ σ H _ r h _ fun d v H1 s1 i1 ⟨c,e,q1⟩=>?_⟩
 subst e
 exact ⟨c,is_bl.mp i1,k _ _ H1 s1 (is_bl.mpr rfl) q1⟩
def dIf (t:DTT) (ta tb:DTE):DTE:=fun ρ Q=>t ρ fun c=>if c=true then ta ρ Q else tb ρ Q
theorem pZ {c:Expr} (hc:DT X c tA) (ha:DE X a ta) (hb:DE X b tb):DE X (.IfExp c a b pos) (dIf tA ta tb):=by
 obtain ⟨tt,p0,l0⟩:=hc
 obtain ⟨te,p1,l1⟩:=ha
 obtain ⟨tf,p2,l2⟩:=hb
 refine ⟨_,kI p0 p1 p2,fun ρ σ H Q r h R k=>l0 ρ σ H _ r h _ fun c H1 s1 q1=>?_⟩
 cases c with
 | true=>exact l1 ρ σ H1 Q (r.mono s1) q1 R fun d v H2 s2 i2 q2=>k d v H2 (s1.trans s2) i2 q2
 | false=>exact l2 ρ σ H1 Q (r.mono s1) q1 R fun d v H2 s2 i2 q2=>k d v H2 (s1.trans s2) i2 q2
end
section
variable {X:Cx} {a b c:Expr} {ta tb tc:DTE} {pos:Pos}
def gI (g:Int→Int→Dt):Dt→Dt→(Dt→Prop)→Prop:=fun d e Q=>∃ i j,d=.int i∧e=.int j∧Q (g i j)
def gIC (C:Int→Int→Prop) (g:Int→Int→Dt):Dt→Dt→(Dt→Prop)→Prop:=fun d e Q=>∃ i j,d=.int i∧e=.int j∧C i j∧Q (g i j)
theorem j9 {f:Value→Value→Sem Value} {g:Int→Int→Int} (h:OpR X f (rI0 fun i j=>.int (g i j))):DOp X f (gI fun i j=>.int (g i j)):=by
 refine ⟨_,h,fun H x y d e Q i1 i2 q R k=>?_⟩
 obtain ⟨i,j,rfl,rfl,q⟩:=q
 exact ⟨i,j,is_int.mp i1,is_int.mp i2,k _ _ H (Le.refl H) (is_int.mpr rfl) q⟩
theorem qr {f:Value→Value→Sem Value} {g:Int→Int→Bool} (h:OpR X f (rI0 fun i j=>.bl (g i j))):DOp X f (gI fun i j=>.bl (g i j)):=by
 refine ⟨_,h,fun H x y d e Q i1 i2 q R k=>?_⟩
 obtain ⟨i,j,rfl,rfl,q⟩:=q
 exact ⟨i,j,is_int.mp i1,is_int.mp i2,k _ _ H (Le.refl H) (is_bl.mpr rfl) q⟩
theorem qq {f:Value→Value→Sem Value} {C:Int→Int→Prop} {g:Int→Int→Int} (h:OpR X f (rI C fun i j=>.int (g i j))):DOp X f (gIC C fun i j=>.int (g i j)):=by
 refine ⟨_,h,fun H x y d e Q i1 i2 q R k=>?_⟩
 obtain ⟨i,j,rfl,rfl,hc,q⟩:=q
 exact ⟨i,j,is_int.mp i1,is_int.mp i2,hc,k _ _ H (Le.refl H) (is_int.mpr rfl) q⟩
theorem gq:OpR X (binaryOp .Mult) (rI IntMulOk fun i j=>.int (i*j)):=opI fun _ _ _ _ _ _ _ hc q=>mul_int q hc
theorem zJ:DOp X (binaryOp .Add) (gI fun i j=>.int (i+j)):=j9 bQ
theorem zR:DOp X (binaryOp .Sub) (gI fun i j=>.int (i - j)):=j9 bO
theorem zZ:DOp X (binaryOp .Mult) (gIC IntMulOk fun i j=>.int (i*j)):=qq gq
theorem yL:DOp X (binaryOp .FloorDiv) (gIC mK fun i j=>.int (i.fdiv j)):=qq kN
def iT (_ j:Int):Prop:=j≠0
theorem yd:DOp X (binaryOp .Mod) (gIC iT fun i j=>.int (i.fmod j)):=qq (C:=iT) gr
theorem iF {c n:Int} (h:(n != 0 && decide (n.natAbs<1073741824))=true):mK c n:=by
 rw [Bool.and_eq_true,bne_iff_ne,decide_eq_true_iff] at h
 exact h
theorem se {c n:Int} (h:(n != 0)=true):iT c n:=bne_iff_ne.mp h
theorem Um {c n:Int} (h:(decide (0≤n) && (decide (n≤1000000) && decide (c.natAbs<18446744073709551616)))=true):X2 c n:=by
 rw [Bool.and_eq_true,Bool.and_eq_true,decide_eq_true_iff,decide_eq_true_iff,decide_eq_true_iff] at h
 exact h
theorem VG {c n:Int} (h:decide (n.natAbs<9223372036854775808)=true):IntMulOk c n:=by
 rw [decide_eq_true_iff] at h
 exact .of_right (intBits_le_64 (by omega) (by omega))
theorem Xl {c n:Int} (h:decide (n.natAbs<9223372036854775808)=true):IntMulOk n c:=by
 rw [decide_eq_true_iff] at h
 exact .of_left (intBits_le_64 (by omega) (by omega))
theorem cG:DOp X (binaryOp .Pow) (gIC X2 fun i j=>.int (i ^ j.toNat)):=qq bP
theorem rX:DOp X (compareOp .Lt) (gI fun i j=>.bl (decide (i<j))):=qr Wy
theorem WF:DOp X (compareOp .LtE) (gI fun i j=>.bl (decide (i≤j))):=qr Wz
theorem rY:DOp X (compareOp .Gt) (gI fun i j=>.bl (decide (j<i))):=qr WA
theorem WH:DOp X (compareOp .GtE) (gI fun i j=>.bl (decide (j≤i))):=qr WB
def XQ (ta:DTE):DTE:=fun ρ Q=>ta ρ fun d=>∃ i,d=.int i∧Q (.int (-i))
theorem zX (ha:DE X a ta):DE X (.UnaryOp .USub a pos) (XQ ta):=by
 obtain ⟨te,p1,l1⟩:=ha
 refine ⟨_,Wt c8 p1,fun ρ σ H Q r h R k=>l1 ρ σ H _ r h _ fun d v H1 s1 i1 ⟨i,e,q1⟩=>?_⟩
 subst e
 exact ⟨i,is_int.mp i1,k _ _ H1 s1 (is_int.mpr rfl) q1⟩
def V2:DTA:=fun _ Q=>Q []
def Uj (te:DTE) (t:DTA):DTA:=fun ρ Q=>te ρ fun d=>t ρ fun ds=>Q (d::ds)
variable {es:List Expr} {t:DTA}
theorem zf:DA X [] V2:=⟨_,z6,fun ρ σ H Q r h R k=>k [] [] H (Le.refl H) (allIs_nil.mpr rfl) h⟩
theorem za (ha:DE X a ta) (hr:DA X es t) (hs:starEach (a::es) X.env=(false,eval a X.env)::starEach es X.env:=by rfl):DA X (a::es) (Uj ta t):=by
 obtain ⟨te,p1,l1⟩:=ha
 obtain ⟨tf,p2,l2⟩:=hr
 exact ⟨_,zE p1 p2 hs,fun ρ σ H Q r h R k=>l1 ρ σ H _ r h _ fun d v H1 s1 i1 q1=>l2 ρ σ H1 _ (r.mono s1) q1 _ fun ds vs H2 s2 i2 q2=>
  k (d::ds) (v::vs) H2 (s1.trans s2) (allIs_cons.mpr ⟨v,vs,rfl,i1.mono s2,i2⟩) q2⟩
def U7 (t:DTA):DTE:=fun ρ Q=>t ρ fun ds=>Nat.ble ds.length 1000=true∧Q (.tup ds)
def XT (t:DTA):DTE:=fun ρ Q=>t ρ fun ds=>Nat.ble ds.length 1000=true∧Q (.lst ds)
theorem zW {x1} (h:DA X es t):DE X (.Tuple es x1 pos) (U7 t):=by
 obtain ⟨te,p1,l1⟩:=h
 refine ⟨_,bD p1,fun ρ σ H Q r h R k=>l1 ρ σ H _ r h _ fun ds vs H1 s1 i1 ⟨hl,q1⟩=>⟨?_,fun p hp=>?_⟩⟩
 ·rw [← i1.length]; exact Nat.le_trans (Nat.le_of_ble_eq_true hl) (by decide)
 ·have s:=tS hp (.tup vs)
  exact k _ _ _ (s1.trans s) (is_tup.mpr ⟨p,vs,rfl,zv,i1.mono s⟩) q1
theorem xw (h:DA X es t):DE X (.List es pos) (XT t):=by
 obtain ⟨te,p1,l1⟩:=h
 refine ⟨_,kH p1,fun ρ σ H Q r h R k=>l1 ρ σ H _ r h _ fun ds vs H1 s1 i1 ⟨hl,q1⟩=>⟨?_,fun p hp=>?_⟩⟩
 ·rw [← i1.length]; exact Nat.le_trans (Nat.le_of_ble_eq_true hl) (by decide)
 ·have s:=tS hp (.lst vs)
  exact k _ _ _ (s1.trans s) (is_lst.mpr ⟨p,vs,rfl,zv,i1.mono s⟩) q1
def qW:Dt→Option (List Dt)
 | .tup ds=>some ds
 | .lst ds=>some ds
 | .scr ns=>some (ns.map .int)
 | _=>none
theorem rD {H:Vw} {d:Dt} {v:V} {ds:List Dt} (h:Is K H.g d v) (e:qW d=some ds):∃ a xs,v=.ref a∧(SqL K H.h a xs∨SqT K H.h a xs)∧AllIs K H.g ds xs:=by
 cases d with
 | tup es=>
  obtain rfl:es=ds:=Option.some.inj e
  obtain ⟨a,xs,rfl,h1,h2⟩:=is_tup.mp h
  exact ⟨a,xs,rfl,.inr (.of (H.sub _ _ h1)),h2⟩
 | lst es=>
  obtain rfl:es=ds:=Option.some.inj e
  obtain ⟨a,xs,rfl,h1,h2⟩:=is_lst.mp h
  exact ⟨a,xs,rfl,.inl (.of (H.sub _ _ h1)),h2⟩
 | scr ns=>
  obtain rfl:ns.map Dt.int=ds:=Option.some.inj e
  obtain ⟨a,rfl,h1⟩:=is_scr.mp h
  exact ⟨a,_,rfl,.inl (H.sub.seq h1),AllIs.ints⟩
 | _=>cases e
def dIx (ta tb:DTE):DTE:=fun ρ Q=>ta ρ fun d=>tb ρ fun e=>∃ ds i d',qW d=some ds∧e=.int i∧atI ds i=some d'∧Q d'
theorem zq (ha:DE X a ta) (hb:DE X b tb) (hs:qJ b):DE X (.Subscript a b pos) (dIx ta tb):=by
 obtain ⟨te,p1,l1⟩:=ha
 obtain ⟨tf,p2,l2⟩:=hb
 refine ⟨_,cE Xu p1 p2 hs,fun ρ σ H Q r h R k=>l1 ρ σ H _ r h _ fun d v H1 s1 i1 q1=>l2 ρ σ H1 _ (r.mono s1) q1 _ fun e u H2 s2 i2 q2=>?_⟩
 obtain ⟨ds,i,d',e1,e2,e3,q⟩:=q2
 subst e2
 obtain ⟨p,xs,e4,h1,h2⟩:=rD (i1.mono s2) e1
 obtain ⟨w,e5,h3⟩:=h2.atI e3
 rcases h1 with h1 | h1
 ·exact .inl ⟨p,xs,i,w,e4,is_int.mp i2,h1,e5,k d' w H2 (s1.trans s2) h3 q⟩
 ·exact .inr (.inl ⟨p,xs,i,w,e4,is_int.mp i2,h1,e5,k d' w H2 (s1.trans s2) h3 q⟩)
def Tg (t:DTE):DTE:=fun ρ Q=>t ρ fun d=>∃ ds,qW d=some ds∧Q (.int ds.length)
theorem yC {p:Pos} (hg:Gl X "len") (hm:X.mg "len"=none) (ha:DE X a ta) (hs:starEach [a] X.env=(false,eval a X.env)::starEach [] X.env:=by rfl) (hpl:(backTo pos (starEach [] X.env)).any (·.1)=false:=by rfl):
  DE X (.Call (.Name "len" p) [a] [] pos) (Tg ta):=by
 obtain ⟨te,p1,l1⟩:=ha
 refine ⟨_,y7 vI hg hm PySem.boot_len (zE p1 z6 hs) (by decide) (by decide) hs hpl,fun ρ σ H Q r h R k=>l1 ρ σ H _ r h _ fun d v H1 s1 i1 ⟨ds,e,q⟩=>?_⟩
 obtain ⟨a,xs,rfl,h1,h2⟩:=rD i1 e
 exact ⟨a,xs,rfl,h1,by rw [← h2.length]; exact k _ _ H1 s1 (is_int.mpr rfl) q⟩
def nE (xs:List Dt) (lo hi:Option Int):List Dt:=(xs.drop (HT.sIx xs.length 0 lo)).take (HT.sIx xs.length xs.length hi - HT.sIx xs.length 0 lo)
theorem AllIs.cut {G:Hp} {ds:List Dt} {xs:List V} (h:AllIs K G ds xs) (lo hi:Option Int):AllIs K G (nE ds lo hi) (nD xs lo hi):=by
 unfold nE nD
 rw [← h.length]
 exact (h.drop _).take _
abbrev DTO:=DS→(Option Int→Prop)→Prop
def DO (X:Cx) (e:Option Expr) (t:DTO):Prop:=∃ te,PO X e te∧∀ {F:Hp} (ρ:DS) (σ:St) (H:Vw) (Q:Option Int→Prop),Rl X.K (Zx X) F H ρ σ→t ρ Q→∀ R:Option Int→Hp→Prop,(∀ o H',Le H H'→Q o→R o H'.h)→te σ H.h R
def cf:DTO:=fun _ Q=>Q none
def V0 (t:DTE):DTO:=fun ρ Q=>t ρ fun d=>∃ i,d=.int i∧Q (some i)
theorem qt:DO X none cf:=⟨_,gg,fun ρ σ H Q r h R k=>k none H (Le.refl H) h⟩
theorem qs (ha:DE X a ta):DO X (some a) (V0 ta):=by
 obtain ⟨te,p1,l1⟩:=ha
 refine ⟨_,gf p1,fun ρ σ H Q r h R k=>l1 ρ σ H _ r h _ fun d v H1 s1 i1 ⟨i,e,q⟩=>?_⟩
 subst e
 exact ⟨i,is_int.mp i1,k _ H1 s1 q⟩
def y_:Dt→Option (List Dt)
 | .lst ds=>some ds
 | .scr ns=>some (ns.map .int)
 | _=>none
theorem qe {H:Vw} {d:Dt} {v:V} {ds:List Dt} (h:Is K H.g d v) (e:y_ d=some ds):∃ a xs,v=.ref a∧SqL K H.h a xs∧AllIs K H.g ds xs:=by
 cases d with
 | lst es=>
  obtain rfl:es=ds:=Option.some.inj e
  obtain ⟨a,xs,rfl,h1,h2⟩:=is_lst.mp h
  exact ⟨a,xs,rfl,.of (H.sub _ _ h1),h2⟩
 | scr ns=>
  obtain rfl:ns.map Dt.int=ds:=Option.some.inj e
  obtain ⟨a,rfl,h1⟩:=is_scr.mp h
  exact ⟨a,_,rfl,H.sub.seq h1,AllIs.ints⟩
 | _=>cases e
def dSl (te:DTE) (tl th:DTO):DTE:=fun ρ Q=>te ρ fun d=>tl ρ fun l=>th ρ fun u=>∃ ds,y_ d=some ds∧Q (.lst (nE ds l u))
theorem ik {lo hi:Option Expr} {tl th:DTO} {p2:Pos} (ha:DE X a ta) (hl:DO X lo tl) (hu:DO X hi th):DE X (.Subscript a (.Slice lo hi none p2) pos) (dSl ta tl th):=by
 obtain ⟨te,p1,l1⟩:=ha
 obtain ⟨tf,p2,l2⟩:=hl
 obtain ⟨tg,p3,l3⟩:=hu
 refine ⟨_,pq i0 p1 p2 p3,fun ρ σ H Q r h R k=>l1 ρ σ H _ r h _ fun d v H1 s1 i1 q1=>l2 ρ σ H1 _ (r.mono s1) q1 _ fun l H2 s2 q2=>l3 ρ σ H2 _ (r.mono (s1.trans s2)) q2 _ fun u H3 s3 ⟨ds,e,q⟩=>?_⟩
 obtain ⟨a,xs,rfl,h1,h2⟩:=qe (i1.mono (s2.trans s3)) e
 refine ⟨a,xs,rfl,h1,fun p hp=>?_⟩
 have s:=tS hp (.lst (nD xs l u))
 exact k _ _ _ (((s1.trans s2).trans s3).trans s) (is_lst.mpr ⟨p,_,rfl,zv,(h2.cut l u).mono s⟩) q
end
def LiF (K:PySem.W.Frag) (Z:Hp) (te:TE) (t:DTE):Prop:=
 ∀ {F:Hp} (ρ:DS) (σ:St) (H:Vw) (Q:Dt→Prop),Rl K Z F H ρ σ→t ρ Q→∀ R:VK,
  (∀ es p xs H',Le H H'→H.h p=none→H'.h p=some (.lst xs)→H'.g p=none→AllIs K H'.g es xs→Q (.lst es)→R (.ref p) H'.h)→te σ H.h R
def DF (X:Cx) (e:Expr) (t:DTE):Prop:=∃ te,PE X e te∧LiF X.K (Zx X) te t
theorem ui {H H':Vw} {p:Addr} {o:HO} (s:Le H H') (h0:H.h p=none) (h1:H'.h p=some o) (h2:H'.g p=none):Le H (H'.frz p o h1):=
 ⟨s.g.trans (zF h2 o),s.h,fun a z1 z2=>by
  have:a≠p:=fun e=>z1 (e ▸ h0)
  show upd H'.g p o a=none
  rw [zw this]; exact s.n a z1 z2⟩
section
variable {X:Cx} {a b c e:Expr} {ta tb tc:DTE} {t:DTA} {pos p0 p1 p2:Pos} {es:List Expr}
theorem DF.de {t:DTE} (h:DF X e t):DE X e t:=by
 obtain ⟨te,p,l⟩:=h
 exact ⟨te,p,fun ρ σ H Q r h R k=>l ρ σ H Q r h R fun es q xs H' s h0 h1 h2 i z=>k (.lst es) (.ref q) (H'.frz q _ h1) (ui s h0 h1 h2) (is_lst.mpr ⟨q,xs,rfl,zv,AllIs.mono0 (zF h2 _) i⟩) z⟩
theorem xT (h:DA X es t):DF X (.List es pos) (XT t):=by
 obtain ⟨te,p1,l1⟩:=h
 refine ⟨_,kH p1,fun ρ σ H Q r h R k=>l1 ρ σ H _ r h _ fun ds vs H1 s1 i1 ⟨hl,q1⟩=>⟨?_,fun p hp=>?_⟩⟩
 ·rw [← i1.length]; exact Nat.le_trans (Nat.le_of_ble_eq_true hl) (by decide)
 ·exact k ds p vs (H1.mine p (.lst vs) (H1.sub.free hp)) (s1.trans (qi hp _)) (s1.h.free hp) zv (H1.sub.free hp) i1 q1
def V6 (ta:DTE):DTE:=fun ρ Q=>ta ρ fun d=>∃ ds,qW d=some ds∧Q (.lst ds)
theorem xU (hg:Gl X "list") (hm:X.mg "list"=none) (ha:DE X a ta) (hs:starEach [a] X.env=(false,eval a X.env)::starEach [] X.env:=by rfl) (hpl:(backTo pos (starEach [] X.env)).any (·.1)=false:=by rfl):
  DF X (.Call (.Name "list" p0) [a] [] pos) (V6 ta):=by
 obtain ⟨te,p1,l1⟩:=ha
 refine ⟨_,uc qy hg hm PyProof.Rows.boot_list (zE p1 z6 hs) (by decide) (by decide) hs hpl,fun ρ σ H Q r h R k=>l1 ρ σ H _ r h _ fun d v H1 s1 i1 ⟨ds,e,q⟩=>?_⟩
 obtain ⟨a,xs,rfl,h1,h2⟩:=rD i1 e
 exact ⟨a,xs,rfl,h1,fun p hp=>k _ p _ (H1.mine p _ (H1.sub.free hp)) (s1.trans (qi hp _)) (s1.h.free hp) zv (H1.sub.free hp) h2 q⟩
variable {i:Nat} {x:Str}
def V8 (i:Nat):DTE:=fun ρ Q=>∃ ds,ρ[i]? = some (.own ds)∧Q (.int ds.length)
theorem xW (i:Nat) (hg:Gl X "len") (hm:X.mg "len"=none) (hN:X.N[i]? = some x:=by rfl) (hv:Vis X.env.scope x:=by first | exact Or.inl rfl | exact Or.inr (Or.inl rfl) | exact Or.inr (Or.inr rfl)) (hd:(x == ("__debug__":Str))=false:=by decide)
  (hcd:(x == ("__classdict__":Str))=false:=by decide) (hs:starEach [.Name x p1] X.env=(false,eval (.Name x p1) X.env)::starEach [] X.env:=by rfl) (hpl:(backTo pos (starEach [] X.env)).any (·.1)=false:=by rfl):
  DE X (.Call (.Name "len" p0) [.Name x p1] [] pos) (V8 i):=by
 refine ⟨_,y7 vI hg hm PySem.boot_len (zE (xu hN hv hd hcd) z6 hs) (by decide) (by decide) hs hpl,fun ρ σ H Q r h R k=>?_⟩
 obtain ⟨ds,e,q⟩:=h
 obtain ⟨a,xs,e1,e2,e3,e4,e5⟩:=r.ow i ds e
 exact ⟨.ref a,e1,a,xs,rfl,.inl (.of e2),by rw [← e5.length]; exact k _ _ H (Le.refl H) (is_int.mpr rfl) q⟩
def V9 (i:Nat) (tb:DTE):DTE:=fun ρ Q=>∃ ds,ρ[i]? = some (.own ds)∧tb ρ fun e=>∃ k d,e=.int k∧atI ds k=some d∧Q d
theorem ww (i:Nat) (hb:DE X b tb) (hs:qJ b) (hN:X.N[i]? = some x:=by rfl) (hv:Vis X.env.scope x:=by first | exact Or.inl rfl | exact Or.inr (Or.inl rfl) | exact Or.inr (Or.inr rfl)) (hd:(x == ("__debug__":Str))=false:=by decide)
  (hcd:(x == ("__classdict__":Str))=false:=by decide):DE X (.Subscript (.Name x p1) b pos) (V9 i tb):=by
 obtain ⟨tf,p2,l2⟩:=hb
 refine ⟨_,cE ix_list (xu hN hv hd hcd) p2 hs,fun ρ σ H Q r h R k=>?_⟩
 obtain ⟨ds,e,h⟩:=h
 obtain ⟨a,xs,e1,e2,e3,e4,e5⟩:=r.ow i ds e
 refine ⟨.ref a,e1,l2 ρ σ H _ r h _ fun e u H2 s2 i2 ⟨n,d,en,ed,q⟩=>?_⟩
 subst en
 obtain ⟨v,ev,iv⟩:=e5.atI ed
 exact ⟨a,xs,n,v,rfl,is_int.mp i2,.of (s2.h _ _ e2),ev,k d v H2 s2 (iv.mono s2) q⟩
def cQ (i:Nat):DTT:=fun ρ Q=>∃ ds,ρ[i]? = some (.own ds)∧Q (!ds.isEmpty)
theorem uG {G:Hp} {ds:List Dt} {xs:List V} (h:AllIs K G ds xs):(!xs.isEmpty)=!ds.isEmpty:=by
 cases ds with
 | nil=>rw [allIs_nil.mp h]; rfl
 | cons d ds=>obtain ⟨x,r,rfl,_⟩:=allIs_cons.mp h; rfl
theorem dZ (i:Nat) (hN:X.N[i]? = some x:=by rfl) (hv:Vis X.env.scope x:=by first | exact Or.inl rfl | exact Or.inr (Or.inl rfl) | exact Or.inr (Or.inr rfl)) (hd:(x == ("__debug__":Str))=false:=by decide)
  (hcd:(x == ("__classdict__":Str))=false:=by decide) (he:∀ yy,isTrue (.Name x p1) X.env yy=(do let v ← yy; standAt (Expr.Name x p1).pos; holding [v] (truthy v)):=by intro _; rfl):DT X (.Name x p1) (cQ i):=by
 refine ⟨_,pe (xu hN hv hd hcd) he,fun ρ σ H Q r h R k=>?_⟩
 obtain ⟨ds,e,q⟩:=h
 obtain ⟨a,xs,e1,e2,e3,e4,e5⟩:=r.ow i ds e
 exact ⟨.ref a,e1,!ds.isEmpty,.inl ⟨xs,.of e2,(uG e5).symm⟩,k _ H (Le.refl H) q⟩
def U8 (ta:DTE):DTT:=fun ρ Q=>ta ρ fun d=>∃ ds,y_ d=some ds∧Q (!ds.isEmpty)
theorem XA (ha:DE X a ta) (he:∀ yy,isTrue a X.env yy=(do let v ← yy; standAt a.pos; holding [v] (truthy v)):=by intro _; rfl):DT X a (U8 ta):=by
 obtain ⟨te,p1,l1⟩:=ha
 refine ⟨_,pe p1 he,fun ρ σ H Q r h R k=>l1 ρ σ H _ r h _ fun d v H1 s1 i1 ⟨ds,e,q⟩=>?_⟩
 obtain ⟨a,xs,rfl,h1,h2⟩:=qe i1 e
 exact ⟨!ds.isEmpty,.inl ⟨xs,h1,(uG h2).symm⟩,k _ H1 s1 q⟩
def fz:Sl→Sl
 | .own ds=>.some (.lst ds)
 | .arg _ ds=>.some (.lst ds)
 | s=>s
open Classical in
theorem Rl.bor {ρ:DS} {σ:St} (r:Rl K Z F W ρ σ):∃ W':Vw,W'.h=W.h∧Same W.g W'.g∧Rl K Z F W' (ρ.map fz) σ∧∀ a o,W'.g a=some o→W.g a=some o∨∃ xs,o=.lst xs:=by
 let ow:Addr→Prop:=fun a=>∃ (i:Nat) (ds:List Dt),(ρ[i]? = some (Sl.own ds)∧σ[i]? = some (some (V.ref a)))∨ρ[i]? = some (Sl.arg a ds)
 have own_at:∀ a,ow a→W.g a=none:=fun a ⟨i,ds,h⟩=>by
  rcases h with ⟨e,ea⟩ | e
  ·obtain ⟨b,xs,e1,_,e3,_⟩:=r.ow i ds e
   rw [ea] at e1
   cases e1
   exact e3
  ·exact (r.ar i a ds e).1.choose_spec.2.2.1
 let g:Hp:=fun a=>if ow a then W.h a else W.g a
 have gs:Same W.g g:=fun b o q=>by
  show (if ow b then W.h b else W.g b)=some o
  by_cases hb:ow b
  ·rw [own_at b hb] at q; cases q
  ·rw [if_neg hb]; exact q
 have sub:Same g W.h:=fun b o q=>by
  have q':(if ow b then W.h b else W.g b)=some o:=q
  by_cases hb:ow b
  ·rw [if_pos hb] at q'; exact q'
  ·rw [if_neg hb] at q'; exact W.sub _ _ q'
 have cls:∀ (i:Nat) (y:Sl),(ρ.map fz)[i]? = some y→(∃ d,ρ[i]? = some (.some d)∧y=.some d)∨(∃ ds,(ρ[i]? = some (.own ds)∨∃ a,ρ[i]? = some (.arg a ds))∧y=.some (.lst ds))∨y=.none:=fun i y e=>by
  rw [List.getElem?_map] at e
  cases q:ρ[i]? with
  | none=>rw [q] at e; cases e
  | some z=>
   rw [q] at e
   have e':=(Option.some.inj e).symm
   cases z with
   | none=>exact .inr (.inr e')
   | some d=>exact .inl ⟨d,rfl,e'⟩
   | own ds=>exact .inr (.inl ⟨ds,.inl rfl,e'⟩)
   | arg a ds=>exact .inr (.inl ⟨ds,.inr ⟨a,rfl⟩,e'⟩)
 have gl:∀ a o,g a=some o→W.g a=some o∨∃ xs,o=HO.lst xs:=fun a o q=>by
  have q':(if ow a then W.h a else W.g a)=some o:=q
  by_cases hb:ow a
  ·rw [if_pos hb] at q'
   obtain ⟨i,ds,h⟩:=hb
   rcases h with ⟨e,ea⟩ | e
   ·obtain ⟨b,xs,e1,e2,_⟩:=r.ow i ds e
    rw [ea] at e1
    cases e1
    rw [e2] at q'
    exact .inr ⟨xs,(Option.some.inj q').symm⟩
   ·obtain ⟨⟨xs,_,e2,_⟩,_,_⟩:=r.ar i a ds e
    rw [e2] at q'
    exact .inr ⟨xs,(Option.some.inj q').symm⟩
  ·rw [if_neg hb] at q'
   exact .inl q'
 refine ⟨⟨g,W.h,sub⟩,rfl,gs,⟨by rw [List.length_map]; exact r.len,fun i d e=>?_,fun i ds e=>?_,fun i j ds es _ e _=>?_,r.fr,r.z,fun i a ds e=>?_⟩,gl⟩
 ·rcases cls i _ e with ⟨d',q,e1⟩ | ⟨ds,q,e1⟩ | e1
  ·cases e1
   obtain ⟨v,h1,h2⟩:=r.at_ i d q
   exact ⟨v,h1,Is.mono0 gs h2⟩
  ·cases e1
   rcases q with q | ⟨b,q⟩
   ·obtain ⟨b,xs,e1,e2,e3,e4,e5⟩:=r.ow i ds q
    have hb:ow b:=⟨i,ds,.inl ⟨q,e1⟩⟩
    exact ⟨_,e1,is_lst.mpr ⟨b,xs,rfl,(if_pos hb).trans e2,AllIs.mono0 gs e5⟩⟩
   ·obtain ⟨⟨xs,e1,e2,e3,e4,e5⟩,_,_⟩:=r.ar i b ds q
    have hb:ow b:=⟨i,ds,.inr q⟩
    exact ⟨_,e1,is_lst.mpr ⟨b,xs,rfl,(if_pos hb).trans e2,AllIs.mono0 gs e5⟩⟩
  ·cases e1
 ·rcases cls i _ e with ⟨d',q,e1⟩ | ⟨ds,q,e1⟩ | e1 <;> cases e1
 ·rcases cls i _ e with ⟨d',q,e1⟩ | ⟨ds,q,e1⟩ | e1 <;> cases e1
 ·rcases cls i _ e with ⟨d',q,e1⟩ | ⟨ds,q,e1⟩ | e1 <;> cases e1
theorem og {H W' H1:Vw} (e:W'.h=H.h) (s1:Le W' H1) (sg:Same H.g W'.g):∃ H2:Vw,H2.h=H1.h∧H2.g=H.g∧Le H H2:=
 ⟨⟨H.g,H1.h,(sg.trans s1.g).trans H1.sub⟩,rfl,rfl,Same.refl _,e ▸ s1.h,fun _ _ h=>h⟩
def cT (t:DTT):DTT:=fun ρ Q=>t (ρ.map fz) Q
theorem j5 {t:DTT} (h:DT X e t):DT X e (cT t):=by
 obtain ⟨te,p,l⟩:=h
 refine ⟨te,p,fun ρ σ H Q r hq R k=>?_⟩
 obtain ⟨W',e,sg,r',_⟩:=r.bor
 have:=l (ρ.map fz) σ W' Q r' hq R fun b H1 s1 q1=>by
  obtain ⟨H2,e2,_,s2⟩:=og e s1 sg
  rw [← e2]
  exact k b H2 s2 q1
 rw [e] at this
 exact this
def qY:Dt→Bool
 | .non=>true | .bl _=>true | .int _=>true | .str _=>true | _=>false
theorem hG {G G':Hp} {d:Dt} {v:V} (h:qY d=true) (i:Is K G d v):Is K G' d v:=by
 cases d with
 | non=>exact is_non.mpr (is_non.mp i)
 | bl b=>exact is_bl.mpr (is_bl.mp i)
 | int b=>exact is_int.mpr (is_int.mp i)
 | str b=>exact is_str.mpr (is_str.mp i)
 | _=>cases h
end
abbrev DSp:=List Dt→(Dt→Prop)→Prop
def zo (K:PySem.W.Frag) (S:DSp):Sp:=fun vs H Q _=>∃ (W:Vw) (ds:List Dt) (Qd:Dt→Prop),W.h=H∧AllIs K W.g ds vs∧S ds Qd∧∀ d v W',Le W W'→Is K W'.g d v→Qd d→Q v W'.h
def z9 (K:PySem.W.Frag) (S:DSp):Sp:=fun vs H Q _=>∃ (W:Vw) (ds:List Dt) (Qd:Dt→Prop),W.h=H∧AllIs K W.g ds vs∧S ds Qd∧
 ∀ es p xs W',Le W W'→W.h p=none→W'.h p=some (.lst xs)→W'.g p=none→AllIs K W'.g es xs→Qd (.lst es)→Q (.ref p) W'.h
structure DOk (P:Program) (w:World) (K:PySem.W.Frag) (mg:Str→Option Value) (base:Heap) (n:Nat) (x:Str) (S:DSp):Prop where
 ex:∃ f fd ps,mg x=some (.ref f)∧PySem.W.keepIn K (.ref f)=true∧Binds K fd ps []∧FnOk P w K mg base CX0 n f fd ps (zo K S)
structure FOk (P:Program) (w:World) (K:PySem.W.Frag) (mg:Str→Option Value) (base:Heap) (n:Nat) (x:Str) (S:DSp):Prop where
 ex:∃ f fd ps,mg x=some (.ref f)∧PySem.W.keepIn K (.ref f)=true∧Binds K fd ps []∧FnOk P w K mg base CX0 n f fd ps (z9 K S)
structure MOk (P:Program) (w:World) (K:PySem.W.Frag) (mg:Str→Option Value) (base:Heap) (n:Nat) (C:Addr) (m:Str) (S:DSp):Prop where
 cl:Cls K C
 ex:∃ f fd ps,iS K C m f∧Binds K fd ps []∧FnOk P w K mg base CX0 n f fd ps (zo K S)
structure FMOk (P:Program) (w:World) (K:PySem.W.Frag) (mg:Str→Option Value) (base:Heap) (n:Nat) (C:Addr) (m:Str) (S:DSp):Prop where
 cl:Cls K C
 ex:∃ f fd ps,iS K C m f∧Binds K fd ps []∧FnOk P w K mg base CX0 n f fd ps (z9 K S)
section
variable {X:Cx} {a b c e o:Expr} {ta tb tc:DTE} {pos p apos:Pos} {es:List Expr} {t:DTA} {n:Nat} {x m:Str} {S:DSp}
def cS (S:DSp) (t:DTA):DTE:=fun ρ Q=>t ρ fun ds=>S ds Q
theorem zj (G:DOk X.prog X.w X.K X.mg X.base n x S) (hr:Room n X.A) (hg:Gl X x) (ha:DA X (e::es) t) (hdb:(x == ("__debug__":Str))=false:=by decide)
  (he:starEach (e::es) X.env=(false,eval e X.env)::starEach es X.env:=by rfl) (hpl:(backTo pos (starEach es X.env)).any (·.1)=false:=by rfl):DE X (.Call (.Name x p) (e::es) [] pos) (cS S t):=by
 obtain ⟨f,fd,ps,hm,hk,hb,F⟩:=G.ex
 obtain ⟨te,p1,l1⟩:=ha
 refine ⟨_,rO F hr hg hm hk hb .nil pD p1 hdb he hpl,fun ρ σ H Q r h R k=>l1 ρ σ H _ r h _ fun ds vs H1 s1 i1 q1=>?_⟩
 rw [List.append_nil]
 exact ⟨H1,ds,Q,rfl,i1,q1,fun d v H2 s2 i2 q2=>k d v H2 (s1.trans s2) i2 q2⟩
theorem xV (G:FOk X.prog X.w X.K X.mg X.base n x S) (hr:Room n X.A) (hg:Gl X x) (ha:DA X (e::es) t) (hdb:(x == ("__debug__":Str))=false:=by decide)
  (he:starEach (e::es) X.env=(false,eval e X.env)::starEach es X.env:=by rfl) (hpl:(backTo pos (starEach es X.env)).any (·.1)=false:=by rfl):DF X (.Call (.Name x p) (e::es) [] pos) (cS S t):=by
 obtain ⟨f,fd,ps,hm,hk,hb,F⟩:=G.ex
 obtain ⟨te,p1,l1⟩:=ha
 refine ⟨_,rO F hr hg hm hk hb .nil pD p1 hdb he hpl,fun ρ σ H Q r h R k=>l1 ρ σ H _ r h _ fun ds vs H1 s1 i1 q1=>?_⟩
 rw [List.append_nil]
 exact ⟨H1,ds,Q,rfl,i1,q1,fun es p xs H2 s2 h0 h1 h2 i2 q2=>k es p xs H2 (s1.trans s2) (s1.h.free h0) h1 h2 i2 q2⟩
def kh (X:Cx) (n:Nat) (m:Str) (ta:TE) (t:TA):TE:=fun σ H Q=>ta σ H fun x H1=>∃ a dx fs C f fd ps sp,x=.ref a∧H1 a=some (.ins C dx fs)∧fs.lookup m=none∧Cls X.K C∧iS X.K C m f∧Binds X.K fd ps []∧
 FnOk X.prog X.w X.K X.mg X.base CX0 n f fd ps sp∧t σ H1 fun vs H2=>sp (x::vs) H2 Q E0
theorem pr {pl:Sem Bool} {te:TE} {tt:TA} (he:PE X o te) (hr:Room n X.A) (ha:PA X (e::es) tt)
  (hst:starEach (e::es) X.env=(false,eval e X.env)::starEach es X.env:=by rfl) (hpl:(backTo pos (starEach es X.env)).any (·.1)=false:=by rfl)
  (ht:eval (.Call (.Attribute o m apos) (e::es) [] pos) X.env=(do
   let ov ← eval o X.env
   standAt apos.atName
   let (f,first) ← holding [ov] (getMethod ov m pl)
   callWith pos f first (backTo pos (starEach (e::es) X.env)) (backToKw pos (keywordEach [] X.env))):=by rfl):
  PE X (.Call (.Attribute o m apos) (e::es) [] pos) (kh X n m te tt):=by
 intro pins s σ H Q I h
 refine PySem.W.methodCall_KW (pl:=pl) (thn (he pins s σ H _ I h) fun u s1 ⟨x,H1,I1,rx,a,dx,fs,C,f,fd,ps,sp,ex,ea,l,c,hm,hb,F,q⟩=>?_) ht
 subst ex
 obtain rfl:u=Value.ref a:=rx
 refine tW I1 ea c hm l ?_
 refine PySem.W.callWith_K (first:=[.ref a]) (h₀:=X.base) I.ok.mod.kin hm.kp (thn (ha pos pins s1 σ H1 _ I1 q) fun us s2 ⟨vs,H2,I2,r,q2⟩=>⟨I2.kIn,?_⟩) hst hpl
 exact oP (us:=.ref a::us) (vs:=.ref a::vs) (dvs:=[]) (E:=E0) F hr hb .nil pD I2 (.cons rfl r) (by rw [List.append_nil]; exact q2)
theorem lh {pl:Sem Bool} {te:TE} (he:PE X o te) (hr:Room n X.A)
  (ht:eval (.Call (.Attribute o m apos) [] [] pos) X.env=(do
   let ov ← eval o X.env
   standAt apos.atName
   let (f,first) ← holding [ov] (getMethod ov m pl)
   callWith pos f first (backTo pos (starEach [] X.env)) (backToKw pos (keywordEach [] X.env))):=by rfl):
  PE X (.Call (.Attribute o m apos) [] [] pos) (kh X n m te Wb):=by
 intro pins s σ H Q I h
 refine PySem.W.methodCall_KW (pl:=pl) (thn (he pins s σ H _ I h) fun u s1 ⟨x,H1,I1,rx,a,dx,fs,C,f,fd,ps,sp,ex,ea,l,c,hm,hb,F,q⟩=>?_) ht
 subst ex
 obtain rfl:u=Value.ref a:=rx
 refine tW I1 ea c hm l ?_
 exact PySem.W.callWith_K0 (first:=[.ref a]) I1.kIn hm.kp (oP (us:=[.ref a]) (vs:=[.ref a]) (dvs:=[]) (E:=E0) F hr hb .nil pD I1 (.cons rfl .nil) q)
def V4 (X:Cx) (n:Nat) (m:Str) (ta:DTE) (t:DTA):DTE:=fun ρ Q=>ta ρ fun d=>∃ C f k S,d=.way C f k∧(m == f)=false∧MOk X.prog X.w X.K X.mg X.base n C m S∧t ρ fun ds=>S (d::ds) Q
theorem yU {pl:Sem Bool} (hr:Room n X.A) (he:DE X o ta) (ha:DA X (e::es) t)
  (hst:starEach (e::es) X.env=(false,eval e X.env)::starEach es X.env:=by rfl) (hpl:(backTo pos (starEach es X.env)).any (·.1)=false:=by rfl)
  (ht:eval (.Call (.Attribute o m apos) (e::es) [] pos) X.env=(do
   let ov ← eval o X.env
   standAt apos.atName
   let (f,first) ← holding [ov] (getMethod ov m pl)
   callWith pos f first (backTo pos (starEach (e::es) X.env)) (backToKw pos (keywordEach [] X.env))):=by rfl):
  DE X (.Call (.Attribute o m apos) (e::es) [] pos) (V4 X n m ta t):=by
 obtain ⟨te,p0,l0⟩:=he
 obtain ⟨tt,p1,l1⟩:=ha
 refine ⟨_,pr (pl:=pl) p0 hr p1 hst hpl ht,fun ρ σ H Q r h R k=>l0 ρ σ H _ r h _ fun d v H1 s1 i1 ⟨C,f,z,S,ed,hne,M,q1⟩=>?_⟩
 subst ed
 obtain ⟨a,dx,rfl,ha⟩:=is_way.mp i1
 obtain ⟨g,fd,ps,hm,hb,F⟩:=M.ex
 refine ⟨a,dx,_,C,g,fd,ps,_,rfl,H1.sub _ _ ha,by simp [List.lookup,hne],M.cl,hm,hb,F,l1 ρ σ H1 _ (r.mono s1) q1 _ fun ds vs H2 s2 i2 q2=>?_⟩
 exact ⟨H2,_,Q,rfl,allIs_cons.mpr ⟨_,_,rfl,i1.mono s2,i2⟩,q2,fun d v H3 s3 i3 q3=>k d v H3 ((s1.trans s2).trans s3) i3 q3⟩
def XS (X:Cx) (n:Nat) (m:Str) (ta:DTE):DTE:=fun ρ Q=>ta ρ fun d=>∃ C f k S,d=.way C f k∧(m == f)=false∧MOk X.prog X.w X.K X.mg X.base n C m S∧S [d] Q
theorem vH {pl:Sem Bool} (hr:Room n X.A) (he:DE X o ta)
  (ht:eval (.Call (.Attribute o m apos) [] [] pos) X.env=(do
   let ov ← eval o X.env
   standAt apos.atName
   let (f,first) ← holding [ov] (getMethod ov m pl)
   callWith pos f first (backTo pos (starEach [] X.env)) (backToKw pos (keywordEach [] X.env))):=by rfl):
  DE X (.Call (.Attribute o m apos) [] [] pos) (XS X n m ta):=by
 obtain ⟨te,p0,l0⟩:=he
 refine ⟨_,lh (pl:=pl) p0 hr ht,fun ρ σ H Q r h R k=>l0 ρ σ H _ r h _ fun d v H1 s1 i1 ⟨C,f,z,S,ed,hne,M,q1⟩=>?_⟩
 subst ed
 obtain ⟨a,dx,rfl,ha⟩:=is_way.mp i1
 obtain ⟨g,fd,ps,hm,hb,F⟩:=M.ex
 refine ⟨a,dx,_,C,g,fd,ps,_,rfl,H1.sub _ _ ha,by simp [List.lookup,hne],M.cl,hm,hb,F,?_⟩
 exact ⟨H1,_,Q,rfl,allIs_cons.mpr ⟨_,_,rfl,i1,allIs_nil.mpr rfl⟩,q1,fun d v H3 s3 i3 q3=>k d v H3 (s1.trans s3) i3 q3⟩
def XR (X:Cx) (n:Nat) (m:Str) (ta:DTE) (t:DTA):DTE:=fun ρ Q=>ta ρ fun d=>∃ C f k S,d=.way C f k∧(m == f)=false∧FMOk X.prog X.w X.K X.mg X.base n C m S∧t ρ fun ds=>S (d::ds) Q
theorem d9 {pl:Sem Bool} (hr:Room n X.A) (he:DE X o ta) (ha:DA X (e::es) t)
  (hst:starEach (e::es) X.env=(false,eval e X.env)::starEach es X.env:=by rfl) (hpl:(backTo pos (starEach es X.env)).any (·.1)=false:=by rfl)
  (ht:eval (.Call (.Attribute o m apos) (e::es) [] pos) X.env=(do
   let ov ← eval o X.env
   standAt apos.atName
   let (f,first) ← holding [ov] (getMethod ov m pl)
   callWith pos f first (backTo pos (starEach (e::es) X.env)) (backToKw pos (keywordEach [] X.env))):=by rfl):
  DF X (.Call (.Attribute o m apos) (e::es) [] pos) (XR X n m ta t):=by
 obtain ⟨te,p0,l0⟩:=he
 obtain ⟨tt,p1,l1⟩:=ha
 refine ⟨_,pr (pl:=pl) p0 hr p1 hst hpl ht,fun ρ σ H Q r h R k=>l0 ρ σ H _ r h _ fun d v H1 s1 i1 ⟨C,f,z,S,ed,hne,M,q1⟩=>?_⟩
 subst ed
 obtain ⟨a,dx,rfl,ha⟩:=is_way.mp i1
 obtain ⟨g,fd,ps,hm,hb,F⟩:=M.ex
 refine ⟨a,dx,_,C,g,fd,ps,_,rfl,H1.sub _ _ ha,by simp [List.lookup,hne],M.cl,hm,hb,F,l1 ρ σ H1 _ (r.mono s1) q1 _ fun ds vs H2 s2 i2 q2=>?_⟩
 have s:=s1.trans s2
 exact ⟨H2,_,Q,rfl,allIs_cons.mpr ⟨_,_,rfl,i1.mono s2,i2⟩,q2,fun es p xs H3 s3 h0 h1 h2 i3 q3=>k es p xs H3 (s.trans s3) (s.h.free h0) h1 h2 i3 q3⟩
def Tm (K:PySem.W.Frag) (f:Str) (ta:DTE):DTE:=fun ρ Q=>ta ρ fun d=>∃ C g k,d=.way C g k∧(f == g)=true∧Cls K C∧NoAttr K C f∧Q (.int k)
theorem zY {f:Str} (ha:DE X a ta) (hb:attributeBase a f X.env (eval a X.env)=eval a X.env:=by rfl):DE X (.Attribute a f pos) (Tm X.K f ta):=by
 obtain ⟨te,p1,l1⟩:=ha
 refine ⟨_,bJ p1 hb,fun ρ σ H Q r h R k=>l1 ρ σ H _ r h _ fun d v H1 s1 i1 ⟨C,g,z,ed,hfg,hc,hn,q1⟩=>?_⟩
 subst ed
 obtain ⟨p,dx,rfl,hp⟩:=is_way.mp i1
 exact ⟨p,C,dx,_,.int z,rfl,H1.sub _ _ hp,hc,hn,by simp [List.lookup,hfg],k _ _ H1 s1 (is_int.mpr rfl) q1⟩
def xj (C:Addr) (f:Str) (ok:Int→Prop):Sp:=fun vs H Q _=>∃ p dx i,vs=[.ref p,.int i]∧H p=some (.ins C dx [])∧ok i∧∀ H':Hp,H' p=some (.ins C dx [(f,.int i)])→(∀ b o,H b=some o→b≠p→H' b=some o)→Q .non H'
structure KOk (P:Program) (w:World) (K:PySem.W.Frag) (mg:Str→Option Value) (base:Heap) (n:Nat) (x:Str) (C:Addr) (f:Str) (ok:Int→Prop):Prop where
 ex:∃ g fd ps,mg x=some (.ref C)∧Mk K C g∧Binds K fd ps []∧FnOk P w K mg base CX0 n g fd ps (xj C f ok)
def V5 (C:Addr) (f:Str) (ok:Int→Prop) (t:DTA):DTE:=fun ρ Q=>t ρ fun ds=>∃ i,ds=[.int i]∧ok i∧Q (.way C f i)
theorem wL {C:Addr} {f:Str} {ok:Int→Prop} (G:KOk X.prog X.w X.K X.mg X.base n x C f ok) (hr:Room (n+1) X.A) (hg:Gl X x) (ha:DA X (e::es) t) (hdb:(x == ("__debug__":Str))=false:=by decide)
  (he:starEach (e::es) X.env=(false,eval e X.env)::starEach es X.env:=by rfl) (hpl:(backTo pos (starEach es X.env)).any (·.1)=false:=by rfl):DE X (.Call (.Name x p) (e::es) [] pos) (V5 C f ok t):=by
 obtain ⟨g,fd,ps,hm,M,hb,F⟩:=G.ex
 obtain ⟨te,p1,l1⟩:=ha
 refine ⟨_,gj M F hr hg hm hb .nil pD p1 hdb he hpl,fun ρ σ H Q r h R k=>l1 ρ σ H _ r h _ fun ds vs H1 s1 i1 ⟨i,ed,hok,q1⟩ y dy ny ndy ne=>?_⟩
 subst ed
 obtain ⟨v,rfl,hv⟩:=i1.one
 obtain rfl:=is_int.mp hv
 refine ⟨y,dy,i,rfl,zv,hok,fun H' e1 e2=>⟨rfl,?_⟩⟩
 have keep:Same H1.h H':=fun b o hb=>e2 b o (by rw [zw (zQ hb ny),zw (zQ hb ndy)]; exact hb) (zQ hb ny)
 have gy:H1.g y=none:=H1.sub.free ny
 exact k _ _ ⟨upd H1.g y (.ins C dy [(f,.int i)]),H',fun b u q=>by
   by_cases e:b=y
   ·subst e; rw [zv] at q; rw [e1]; exact q
   ·rw [zw e] at q; exact keep _ _ (H1.sub _ _ q)⟩
  (s1.trans ⟨zF gy _,keep,fun a z1 z2=>by
   have:a≠y:=fun e=>z1 (e ▸ ny)
   show upd H1.g y _ a=none
   rw [zw this]; exact z2⟩) (is_way.mpr ⟨y,dy,rfl,zv⟩) q1
structure cu (K:PySem.W.Frag):Prop where
 ib:PySem.W.kitOne K (.type "int") (.type "bool")=some false
 it:PySem.W.kitOne K (.type "int") (.type "tuple")=some false
 il:PySem.W.kitOne K (.type "int") (.type "list")=some false
 bi:PySem.W.kitOne K (.type "bool") (.type "int")=some true
 bt:PySem.W.kitOne K (.type "bool") (.type "tuple")=some false
 bl:PySem.W.kitOne K (.type "bool") (.type "list")=some false
 ti:PySem.W.kitOne K (.type "tuple") (.type "int")=some false
 tb:PySem.W.kitOne K (.type "tuple") (.type "bool")=some false
 tl:PySem.W.kitOne K (.type "tuple") (.type "list")=some false
 li:PySem.W.kitOne K (.type "list") (.type "int")=some false
 lb:PySem.W.kitOne K (.type "list") (.type "bool")=some false
 lt:PySem.W.kitOne K (.type "list") (.type "tuple")=some false
theorem vw {K:PySem.W.Frag} {t:Value}:PySem.W.kitOne K t t=some true:=by
 unfold PySem.W.kitOne
 rw [if_pos (beq_self_eq_true t)]
theorem Xn {K:PySem.W.Frag} {t c:String} {b:Bool} (h1:(Value.type t == Value.type c)=false) (h2:PySem.W.kitMeta c=true) (h3:(fastBuiltinMro t).map (·.contains (Value.type c))=some b):PySem.W.kitOne K (.type t) (.type c)=some b:=by
 unfold PySem.W.kitOne PySem.W.kitCls
 rw [if_neg (by rw [h1]; decide)]
 show (if PySem.W.kitMeta c=true then PySem.W.subIn K (.type t) (.type c) else none)=some b
 rw [if_pos h2]
 exact h3
theorem UV (K:PySem.W.Frag):cu K:=by
 constructor <;> exact Xn (by decide +kernel) (by decide +kernel) (by decide +kernel)
inductive TyN where | int | bool | tuple | list
def TyN.str:TyN→String
 | .int=>"int" | .bool=>"bool" | .tuple=>"tuple" | .list=>"list"
def VL:Dt→TyN→Option Bool
 | .int _,.int=>some true | .int _,.bool=>some false | .int _,.tuple=>some false | .int _,.list=>some false
 | .bl _,.int=>some true | .bl _,.bool=>some true | .bl _,.tuple=>some false | .bl _,.list=>some false
 | .tup _,.int=>some false | .tup _,.bool=>some false | .tup _,.tuple=>some true | .tup _,.list=>some false
 | .lst _,.int=>some false | .lst _,.bool=>some false | .lst _,.tuple=>some false | .lst _,.list=>some true
 | _,_=>none
theorem Xv {H:Vw} {d:Dt} {v:V} {T:TyN} {b:Bool} (kt:cu K) (h:Is K H.g d v) (e:VL d T=some b):∃ tv,vg K H.h v tv∧PySem.W.kitOne K tv (.type T.str)=some b:=by
 cases d with
 | int i=>
  obtain rfl:=is_int.mp h
  refine ⟨_,.int i,?_⟩
  cases T <;> (obtain rfl:=Option.some.inj e; first | exact vw | exact kt.ib | exact kt.it | exact kt.il)
 | bl i=>
  obtain rfl:=is_bl.mp h
  refine ⟨_,.bl i,?_⟩
  cases T <;> (obtain rfl:=Option.some.inj e; first | exact vw | exact kt.bi | exact kt.bt | exact kt.bl)
 | tup ds=>
  obtain ⟨a,xs,rfl,h1,_⟩:=is_tup.mp h
  refine ⟨_,.tup (H.sub _ _ h1),?_⟩
  cases T <;> (obtain rfl:=Option.some.inj e; first | exact vw | exact kt.ti | exact kt.tb | exact kt.tl)
 | lst ds=>
  obtain ⟨a,xs,rfl,h1,_⟩:=is_lst.mp h
  refine ⟨_,.lst (H.sub _ _ h1),?_⟩
  cases T <;> (obtain rfl:=Option.some.inj e; first | exact vw | exact kt.li | exact kt.lb | exact kt.lt)
 | _=>cases T <;> cases e
theorem iG:CallR X (.builtin "isinstance") (fun xs H Q=>∃ v T tv b,xs=[v,.ty T]∧vg X.K H v tv∧PySem.W.kitOne X.K tv (.type T)=some b∧Q (.bl b) H):=by
 intro pins s σ H xs us Q I r h
 obtain ⟨v,T,tv,b,rfl,hty,hk,q⟩:=h
 cases r with
 | cons r1 r2=>
  cases r2 with
  | cons r3 r4=>
   cases r4
   cases r3
   exact sW I r1 hty hk fun tk=>⟨.bl b,H,I.tok _,rfl,q⟩
def Ti (T:TyN) (ta:DTE):DTE:=fun ρ Q=>ta ρ fun d=>∃ b,VL d T=some b∧Q (.bl b)
theorem tZ {T:TyN} {y:Str} {p':Pos} (kt:cu X.K) (hm:X.mg "isinstance"=none) (hmc:X.mg y=none) (hv:bootBuiltins y=some (.type T.str)) (ha:DE X a ta)
  (hg:Gl X "isinstance":=by rfl) (hgc:Gl X y:=by rfl) (hny:y≠"__name__":=by decide) (hdy:(y == ("__debug__":Str))=false:=by decide)
  (hs:starEach [a,.Name y p'] X.env=(false,eval a X.env)::starEach [.Name y p'] X.env:=by rfl) (hs2:starEach [.Name y p'] X.env=(false,eval (.Name y p') X.env)::starEach [] X.env:=by rfl)
  (hpl:(backTo pos (starEach [.Name y p'] X.env)).any (·.1)=false:=by rfl):
  DE X (.Call (.Name "isinstance" p) [a,.Name y p'] [] pos) (Ti T ta):=by
 obtain ⟨te,p1,l1⟩:=ha
 have pc:PE X (.Name y p') (tC (.ty T.str)):=gp hgc hmc hv rfl hny hdy
 refine ⟨_,y7 iG hg hm boot_isinstance (zE p1 (zE pc z6 hs2) hs) (by decide) (by decide) hs hpl,fun ρ σ H Q r h R k=>l1 ρ σ H _ r h _ fun d v H1 s1 i1 ⟨b,e,q⟩=>?_⟩
 obtain ⟨tv,h1,h2⟩:=Xv kt i1 e
 exact ⟨v,T.str,tv,b,rfl,h1,h2,k _ _ H1 s1 (is_bl.mpr rfl) q⟩
end
structure vK where
 nx:DS→Prop
 rt:Dt→Prop
 bk:DS→Prop:=fun _=>False
 ct:DS→Prop:=fun _=>False
abbrev DTS:=vK→DS→Prop
structure At (K:PySem.W.Frag) (Z:Hp) (W0:Vw) (G:Hp) (W:Vw) (ρ:DS) (σ:St):Prop where
 le:Le W0 W
 gs:Same G W.g
 rl:Rl K Z W0.h W ρ σ
inductive Fr where | d | l | t (a b:Bool)
def NewL (K:PySem.W.Frag) (F:Hp) (W:Vw) (d:Dt) (v:V):Prop:=∃ es p xs,d=.lst es∧v=.ref p∧F p=none∧W.h p=some (.lst xs)∧W.g p=none∧AllIs K W.g es xs
def Prt (K:PySem.W.Frag) (F:Hp) (W:Vw) (b:Bool) (d:Dt) (v:V):Prop:=match b with
 | false=>Is K W.g d v
 | true=>NewL K F W d v∨qY d=true∧Is K W.g d v
def Tld (K:PySem.W.Frag) (F:Hp) (W:Vw):Fr→Dt→V→Prop
 | .d,d,v=>Is K W.g d v
 | .l,d,v=>NewL K F W d v
 | .t a b,d,v=>∃ d1 d2 q u1 u2,d=.tup [d1,d2]∧v=.ref q∧W.g q=some (.tup [u1,u2])∧Prt K F W a d1 u1∧Prt K F W b d2 u2∧(∀ es fs,a=true→b=true→d1=.lst es→d2=.lst fs→u1≠u2)
structure Sim (K:PySem.W.Frag) (Z:Hp) (fr:Fr) (W0:Vw) (G:Hp) (D:vK) (D':wS):Prop where
 nx:∀ ρ σ W',At K Z W0 G W' ρ σ→D.nx ρ→D'.nx σ W'.h
 tl:∀ d v W',Le W0 W'→Tld K W0.h W' fr d v→D.rt d→D'.rt v W'.h
 bk:∀ ρ σ W',At K Z W0 G W' ρ σ→D.bk ρ→D'.bk σ W'.h
 ct:∀ ρ σ W',At K Z W0 G W' ρ σ→D.ct ρ→D'.ct σ W'.h
theorem NewL.le {F G:Hp} {W:Vw} {d:Dt} {v:V} (h:NewL K F W d v) (z:∀ p,F p=none→G p=none):NewL K G W d v:=
 let ⟨es,p,xs,h1,h2,h3,h4⟩:=h; ⟨es,p,xs,h1,h2,z p h3,h4⟩
theorem Sim.rf {Z:Hp} {fr:Fr} {W0:Vw} {G:Hp} {D:vK} {D':wS} (s:Sim K Z fr W0 G D D') (hf:fr=.d∨fr=.l) (es:List Dt) (p:Addr) (xs:List V) (W':Vw) (le:Le W0 W') (h0:W0.h p=none) (h1:W'.h p=some (.lst xs)) (h2:W'.g p=none) (h3:AllIs K W'.g es xs) (q:D.rt (.lst es)):D'.rt (.ref p) W'.h:=by
 rcases hf with rfl | rfl
 ·exact s.tl (.lst es) (.ref p) (W'.frz p _ h1) (ui le h0 h1 h2) (is_lst.mpr ⟨p,xs,rfl,zv,AllIs.mono0 (zF h2 _) h3⟩) q
 ·exact s.tl (.lst es) (.ref p) W' le ⟨es,p,xs,rfl,rfl,h0,h1,h2,h3⟩ q
section
variable {W0:Vw} {G G':Hp} {ρ:DS} {σ:St} {fr:Fr}
theorem At.step (a:At K Z W0 G W ρ σ) (s:Le W W'):At K Z W0 G W' ρ σ:=⟨a.le.trans s,a.gs.trans s.g,a.rl.mono s⟩
theorem At.set (a:At K Z W0 G W ρ σ) {d:Dt} {v:V} (i:Nat) (h:Is K W.g d v):At K Z W0 G W (ρ.set i (.some d)) (σ.set i (some v)):=⟨a.le,a.gs,a.rl.set i h⟩
theorem At.weak (a:At K Z W0 G W ρ σ) (s:Same G' G):At K Z W0 G' W ρ σ:=⟨a.le,s.trans a.gs,a.rl⟩
theorem At.own (a:At K Z W0 G W ρ σ) (s:Le W W') {p:Addr} {xs:List V} {ds:List Dt} (i:Nat) (h0:W.h p=none) (h1:W'.h p=some (.lst xs)) (h2:W'.g p=none) (h3:AllIs K W'.g ds xs):
  At K Z W0 G W' (ρ.set i (.own ds)) (σ.set i (some (.ref p))):=⟨a.le.trans s,a.gs.trans s.g,a.rl.own s i h0 h1 h2 h3⟩
theorem At.put (at_:At K Z W0 G W ρ σ) {i:Nat} {ds es:List Dt} {a:Addr} {ys:List V} (hi:ρ[i]? = some (.own ds)) (ha:σ[i]? = some (some (.ref a))) (hg:W.g a=none) (hF:W0.h a=none) (h3:AllIs K W.g es ys):
  At K Z W0 G (W.mine a (.lst ys) hg) (ρ.set i (.own es)) σ:=
 ⟨⟨at_.le.g,fun b o q=>by
   have:b≠a:=fun e=>by rw [e,hF] at q; cases q
   show upd W.h a _ b=some o
   rw [zw this]; exact at_.le.h _ _ q,at_.le.n⟩,at_.gs,at_.rl.put hi ha hg hF h3⟩
theorem At.frz (at_:At K Z W0 G W ρ σ) {i:Nat} {ds:List Dt} {a:Addr} {xs:List V} (hi:ρ[i]? = some (.own ds)) (ha:σ[i]? = some (some (.ref a))) (hh:W.h a=some (.lst xs)) (hg:W.g a=none) (hF:W0.h a=none) (h3:AllIs K W.g ds xs):
  At K Z W0 G (W.frz a _ hh) (ρ.set i (.some (.lst ds))) σ:=
 ⟨ui at_.le hF hh hg,at_.gs.trans (zF hg _),at_.rl.frz hi ha hh hg h3⟩
theorem Sim.weak {D:vK} {D':wS} (h:Sim K Z fr W0 G' D D') (s:Same G' G):Sim K Z fr W0 G D D':=
 ⟨fun ρ σ W' a=>h.nx ρ σ W' (a.weak s),h.tl,fun ρ σ W' a=>h.bk ρ σ W' (a.weak s),fun ρ σ W' a=>h.ct ρ σ W' (a.weak s)⟩
end
def LiS (K:PySem.W.Frag) (Z:Hp) (fr:Fr) (ts:TS) (t:DTS):Prop:=∀ (W0:Vw) (G:Hp) (ρ:DS) (σ:St) (W:Vw) (D:vK) (D':wS),At K Z W0 G W ρ σ→Sim K Z fr W0 G D D'→t D ρ→ts D' σ W.h
def DSt (X:Cx) (fr:Fr) (st:Stmt) (t:DTS):Prop:=∃ ts,PS X st ts∧LiS X.K (Zx X) fr ts t
def DSs (X:Cx) (fr:Fr) (sts:List Stmt) (t:DTS):Prop:=∃ ts,PSs X sts ts∧LiS X.K (Zx X) fr ts t
def V3:DTS:=fun D ρ=>D.nx ρ
def Ta (t u:DTS):DTS:=fun D ρ=>t { D with nx:=u D } ρ
def XJ (te:DTE):DTS:=fun D ρ=>te ρ D.rt
def VZ (i:Nat):DTS:=fun D ρ=>∃ ds,ρ[i]? = some (.own ds)∧D.rt (.lst ds)
def ce (i:Nat) (te:DTE):DTS:=fun D ρ=>te ρ fun d=>D.nx (ρ.set i (.some d))
def VX (i:Nat) (te:DTE):DTS:=fun D ρ=>te ρ fun d=>∃ ds,d=.lst ds∧D.nx (ρ.set i (.own ds))
def Tk (c:DTT) (t u:DTS):DTS:=fun D ρ=>c ρ fun b=>if b=true then t D ρ else u D ρ
def Ui (te:DTE):DTS:=fun D ρ=>te ρ fun _=>D.nx ρ
def XO:DTS:=fun _ _=>False
def Tc (i j:Nat) (ta:DTA):DTS:=fun D ρ=>ta ρ fun ds=>∃ a b,ds=[a,b]∧D.nx ((ρ.set i (.some a)).set j (.some b))
def Uf (j:Nat) (te:DTE) (tb:DTS):DTS:=fun D ρ=>te ρ fun d=>∃ (ds:List Dt) (Pv:Nat→DS→Prop),y_ d=some ds∧Pv 0 ρ∧
 (∀ i e ρ',ds[i]? = some e→Pv i ρ'→tb { D with nx:=Pv (i+1),ct:=Pv (i+1),bk:=D.nx } (ρ'.set j (.some e)))∧∀ ρ',Pv ds.length ρ'→D.nx ρ'
def Ue (j:Nat) (te:DTE) (tb:DTS):DTS:=fun D ρ=>te ρ fun d=>∃ (n:Int) (Pv:Nat→DS→Prop),d=.int n∧-(2 ^ 62)≤n∧n<2 ^ 62∧Pv 0 ρ∧
 (∀ (i:Nat) ρ',i<n.toNat→Pv i ρ'→tb { D with nx:=Pv (i+1),ct:=Pv (i+1),bk:=D.nx } (ρ'.set j (.some (.int i))))∧∀ ρ',Pv n.toNat ρ'→D.nx ρ'
def XU (j:Nat) (ta:DTA) (tb:DTS):DTS:=fun D ρ=>ta ρ fun ds=>∃ (m n:Int) (Pv:Nat→DS→Prop),ds=[.int m,.int n]∧-(2 ^ 62)≤m∧m<2 ^ 62∧-(2 ^ 62)≤n∧n<2 ^ 62∧Pv 0 ρ∧
 (∀ (i:Nat) ρ',i<(n - m).toNat→Pv i ρ'→tb { D with nx:=Pv (i+1),ct:=Pv (i+1),bk:=D.nx } (ρ'.set j (.some (.int (m+i)))))∧∀ ρ',Pv (n - m).toNat ρ'→D.nx ρ'
def nC (c:DTT) (tb:DTS):DTS:=fun D ρ=>∃ Pv:Nat→DS→Prop,(∃ m,Pv m ρ)∧∀ m ρ',Pv m ρ'→
 c ρ' fun b=>if b=true then tb { D with nx:=fun ρ2=>∃ m',m'<m∧Pv m' ρ2,ct:=fun ρ2=>∃ m',m'<m∧Pv m' ρ2,bk:=D.nx } ρ' else D.nx ρ'
section
variable {X:Cx} {fr:Fr} {st:Stmt} {yk:List Stmt} {t u:DTS} {e:Expr} {te:DTE} {pos p0 p1 p2:Pos}
theorem zp:DSs X fr [] V3:=⟨_,ge,fun W0 G ρ σ W D D' a s h=>s.nx ρ σ W a h⟩
theorem zd (h1:DSt X fr st t) (h2:DSs X fr yk u):DSs X fr (st::yk) (Ta t u):=by
 obtain ⟨ts,p1,l1⟩:=h1
 obtain ⟨us,p2,l2⟩:=h2
 exact ⟨_,ph p1 p2,fun W0 G ρ σ W D D' a s h=>l1 W0 G ρ σ W { D with nx:=u D } { D' with nx:=us D' } a ⟨fun ρ' σ' W' a' q=>l2 W0 G ρ' σ' W' D D' a' s q,s.tl,s.bk,s.ct⟩ h⟩
theorem ze (h:DSt X fr st t):DSs X fr [st] t:=let ⟨_,p,l⟩:=h; ⟨_,xN p,l⟩
def Tl (i:Nat) (t:DTS):DTS:=fun D ρ=>∃ ds,ρ[i]? = some (.own ds)∧t D (ρ.set i (.some (.lst ds)))
theorem u8 (i:Nat) (h:DSs X fr yk t):DSs X fr yk (Tl i t):=by
 obtain ⟨ts,p,l⟩:=h
 refine ⟨ts,p,fun W0 G ρ σ W D D' a s h=>?_⟩
 obtain ⟨ds,e,q⟩:=h
 obtain ⟨b,xs,e1,e2,e3,e4,e5⟩:=a.rl.ow i ds e
 exact l W0 G _ σ (W.frz b _ e2) D D' (a.frz e e1 e2 e3 e4 e5) s q
theorem zk (h:DE X e te):DSt X .d (.Return (some e) pos) (XJ te):=by
 obtain ⟨tt,p,l⟩:=h
 exact ⟨_,oR p,fun W0 G ρ σ W D D' a s h=>l ρ σ W _ a.rl h _ fun d v W1 s1 i1 q1=>s.tl d v W1 (a.le.trans s1) i1 q1⟩
theorem qo (h:DF X e te) (hf:fr=.d∨fr=.l:=by first | exact .inl rfl | exact .inr rfl):DSt X fr (.Return (some e) pos) (XJ te):=by
 obtain ⟨tt,p,l⟩:=h
 exact ⟨_,oR p,fun W0 G ρ σ W D D' a s h=>l ρ σ W _ a.rl h _ fun es q xs W1 s1 h0 h1 h2 i1 q1=>s.rf hf es q xs W1 (a.le.trans s1) (a.le.h.free h0) h1 h2 i1 q1⟩
theorem xS (i:Nat) {x:Str} (hN:X.N[i]? = some x:=by rfl) (hv:Vis X.env.scope x:=by first | exact Or.inl rfl | exact Or.inr (Or.inl rfl) | exact Or.inr (Or.inr rfl)) (hd:(x == ("__debug__":Str))=false:=by decide)
  (hcd:(x == ("__classdict__":Str))=false:=by decide) (hf:fr=.d∨fr=.l:=by first | exact .inl rfl | exact .inr rfl):DSt X fr (.Return (some (.Name x p0)) pos) (VZ i):=by
 refine ⟨_,oR (xu hN hv hd hcd),fun W0 G ρ σ W D D' a s h=>?_⟩
 obtain ⟨ds,e,q⟩:=h
 obtain ⟨b,xs,e1,e2,e3,e4,e5⟩:=a.rl.ow i ds e
 exact ⟨.ref b,e1,s.rf hf ds b xs W a.le e4 e2 e3 e5 q⟩
theorem md (h:DE X e te) (hs:swapsWith e none pos.line X.env=pure false:=by rfl):DSt X fr (.Expr e pos) (Ui te):=by
 obtain ⟨tt,p,l⟩:=h
 exact ⟨_,uZ p hs,fun W0 G ρ σ W D D' a s h=>l ρ σ W _ a.rl h _ fun d v W1 s1 i1 q1=>s.nx ρ σ W1 (a.step s1) q1⟩
theorem zm {i:Nat} {x:Str} {pos':Pos} (hN:X.N.Nodup) (hi:X.N[i]? = some x) (hx:Loc X.env.scope x) (h:DE X e te) (hs:swapsWith e (some (.Name x pos')) pos.line X.env=pure false:=by rfl) (hf:X.fn x=true∨X.env.scope.names.lookup x=some .local:=by first | exact .inl rfl | exact .inr rfl | assumption):
  DSt X fr (.Assign [.Name x pos'] e pos) (ce i te):=by
 obtain ⟨tt,p,l⟩:=h
 exact ⟨_,kD hN hi hx p hs hf,fun W0 G ρ σ W D D' a s h=>l ρ σ W _ a.rl h _ fun d v W1 s1 i1 q1=>s.nx _ _ W1 ((a.step s1).set i i1) q1⟩
theorem yj {i:Nat} {x:Str} {pos':Pos} (hN:X.N.Nodup) (hi:X.N[i]? = some x) (hx:Loc X.env.scope x) (h:DF X e te) (hs:swapsWith e (some (.Name x pos')) pos.line X.env=pure false:=by rfl) (hf:X.fn x=true∨X.env.scope.names.lookup x=some .local:=by first | exact .inl rfl | exact .inr rfl | assumption):
  DSt X fr (.Assign [.Name x pos'] e pos) (VX i te):=by
 obtain ⟨tt,p,l⟩:=h
 refine ⟨_,kD hN hi hx p hs hf,fun W0 G ρ σ W D D' a s h=>l ρ σ W _ a.rl h _ fun es q xs W1 s1 h0 h1 h2 i1 ⟨ds,ed,q1⟩=>?_⟩
 cases ed
 exact s.nx _ _ W1 (a.own s1 i h0 h1 h2 i1) q1
theorem zz {c:Expr} {a b:List Stmt} {tc:DTT} (hc:DT X c tc) (ha:DSs X fr a t) (hb:DSs X fr b u):DSt X fr (.If c a b pos) (Tk tc t u):=by
 obtain ⟨t0,p0,l0⟩:=hc
 obtain ⟨t1,p1,l1⟩:=ha
 obtain ⟨t2,p2,l2⟩:=hb
 refine ⟨_,Ws p0 p1 p2,fun W0 G ρ σ W D D' a s h=>l0 ρ σ W _ a.rl h _ fun k W1 s1 q1=>?_⟩
 cases k with
 | true=>exact l1 W0 G ρ σ W1 D D' (a.step s1) s q1
 | false=>exact l2 W0 G ρ σ W1 D D' (a.step s1) s q1
theorem yI:DSt X fr st XO:=⟨_,kF,fun _ _ _ _ _ _ _ _ _ h=>h.elim⟩
theorem j7 {i j:Nat} {x y:Str} {a b:Expr} {ta:DTA} {px py pt:Pos} {kt k2 pt2} (hc:X.calm=true) (hN:X.N.Nodup) (hi:X.N[i]? = some x) (hj:X.N[j]? = some y) (hij:i≠j)
  (hx:X.env.scope.names.lookup x=some .local) (hy:X.env.scope.names.lookup y=some .local) (ha:DA X [a,b] ta)
  (hw:swappedStores [.Tuple [.Name x px,.Name y py] kt pt] (.Tuple [a,b] k2 pt2) X.env=pure (some [x,y]))
  (hs:swapsWithSole [.Tuple [.Name x px,.Name y py] kt pt] (.Tuple [a,b] k2 pt2) pos.line X.env=pure false:=by rfl):
  DSt X fr (.Assign [.Tuple [.Name x px,.Name y py] kt pt] (.Tuple [a,b] k2 pt2) pos) (Tc i j ta):=by
 obtain ⟨tt,p,l⟩:=ha
 refine ⟨_,bx hc hN hi hj hij hx hy p hw hs,fun W0 G ρ σ W D D' at_ s h=>l ρ σ W _ at_.rl h _ fun ds vs W1 s1 i1 ⟨d1,d2,ed,q1⟩=>?_⟩
 subst ed
 obtain ⟨v1,v2,rfl,h1,h2⟩:=i1.two
 exact ⟨v1,v2,rfl,s.nx _ _ W1 (((at_.step s1).set i h1).set j h2) q1⟩
def InL (K:PySem.W.Frag) (Z:Hp) (W0 W1:Vw) (Pv:DS→Prop) (σ:St) (H:Hp):Prop:=∃ (ρ:DS) (W:Vw),W.h=H∧At K Z W0 W1.g W ρ σ∧Pv ρ
theorem yF {K:PySem.W.Frag} {W0 W1:Vw} {G:Hp} {D:vK} {D':wS} {Pv:DS→Prop} (s:Sim K Z fr W0 G D D') (hg:Same G W1.g):
  Sim K Z fr W0 W1.g { D with nx:=Pv,ct:=Pv,bk:=D.nx } { D' with nx:=InL K Z W0 W1 Pv,ct:=InL K Z W0 W1 Pv,bk:=D'.nx }:=
 ⟨fun ρ3 σ3 W3 a3 q3=>⟨ρ3,W3,rfl,a3,q3⟩,s.tl,fun ρ3 σ3 W3 a3 q3=>s.nx ρ3 σ3 W3 (a3.weak hg) q3,fun ρ3 σ3 W3 a3 q3=>⟨ρ3,W3,rfl,a3,q3⟩⟩
theorem At.now {K:PySem.W.Frag} {W0:Vw} {G:Hp} {W:Vw} {ρ:DS} {σ:St} (a:At K Z W0 G W ρ σ):At K Z W0 W.g W ρ σ:=⟨a.le,Same.refl _,a.rl⟩
theorem ur {j:Nat} {x:Str} {iter:Expr} {body:List Stmt} {tb:DTS} {px:Pos} (hc:X.calm=true) (hN:X.N.Nodup) (hi:X.N[j]? = some x) (hx:Loc X.env.scope x) (hp:PassesOwn (model X.prog X.w) X.A X.env X.xe)
  (h:DE X iter te) (hb:DSs X fr body tb) (hs:∀ x,foldedSetIterable iter X.env x=pure x:=by intro _; rfl)
  (hf:X.fn x=true∨X.env.scope.names.lookup x=some .local:=by first | exact .inl rfl | exact .inr rfl | assumption):DSt X fr (.For (.Name x px) iter body [] pos) (Uf j te tb):=by
 obtain ⟨tt,p,l⟩:=h
 obtain ⟨tbs,p2,l2⟩:=hb
 refine ⟨_,w_ hp hc (nR p) (yq hN hi hx hf) p2 hs,fun W0 G ρ σ W D D' at_ s h=>l ρ σ W _ at_.rl h _ fun d v W1 s1 i1 ⟨ds,Pv,el,h0,ht,hd⟩=>?_⟩
 have hg:Same G W1.g:=at_.gs.trans s1.g
 have hq:∃ a xs,v=.ref a∧(∀ W2:Vw,Same W1.g W2.g→SqL X.K W2.h a xs)∧AllIs X.K W1.g ds xs:=by
  cases d with
  | lst es=>
   obtain rfl:es=ds:=Option.some.inj el
   obtain ⟨a,xs,rfl,h1,h2⟩:=is_lst.mp i1
   exact ⟨a,xs,rfl,fun W2 s2=>.of (W2.sub _ _ (s2 _ _ h1)),h2⟩
  | scr ns=>
   obtain rfl:ns.map Dt.int=ds:=Option.some.inj el
   obtain ⟨a,rfl,h1⟩:=is_scr.mp i1
   exact ⟨a,_,rfl,fun W2 s2=>W2.sub.seq (s2.seq h1),AllIs.ints⟩
  | _=>cases el
 obtain ⟨a,xs,rfl,hq,ha⟩:=hq
 refine ⟨a,rfl,⟨xs,hq W1 (Same.refl _)⟩,jR (K:=X.K) (a:=a) (xs:=xs) (fun i=>InL X.K (Zx X) W0 W1 (Pv i)) ⟨ρ,W1,rfl,(at_.step s1).now,h0⟩ (fun i σ' H' _ ⟨_,W2,e2,a2,_⟩=>e2 ▸ hq W2 a2.gs) ?_ ?_⟩
 ·rintro i x σ' _ hi ⟨ρ',W2,rfl,a2,hp2⟩
  obtain ⟨e,he,ie⟩:=ha.get' hi
  exact l2 W0 W1.g _ _ W2 { D with nx:=Pv (i+1),ct:=Pv (i+1),bk:=D.nx } _ (a2.set j (Is.mono0 a2.gs ie)) (yF s hg) (ht i e ρ' he hp2)
 ·rintro σ' _ ⟨ρ',W2,rfl,a2,hp2⟩
  exact s.nx ρ' σ' W2 (a2.weak hg) (hd ρ' (by rw [ha.length]; exact hp2))
theorem qp {j:Nat} {x:Str} {a:Expr} {body:List Stmt} {tb:DTS} {px p0 pos1:Pos} (hc:X.calm=true) (hN:X.N.Nodup) (hi:X.N[j]? = some x) (hx:Loc X.env.scope x) (hp:PassesOwn (model X.prog X.w) X.A X.env X.xe)
  (hg:Gl X "range") (hm:X.mg "range"=none) (h:DE X a te) (hb:DSs X fr body tb) (hs:∀ x,foldedSetIterable (.Call (.Name "range" p0) [a] [] pos1) X.env x=pure x:=by intro _; rfl)
  (hst:starEach [a] X.env=[(false,eval a X.env)]:=by rfl) (hst2:starEach [a] X.env=(false,eval a X.env)::starEach [] X.env:=by rfl)
  (hf:X.fn x=true∨X.env.scope.names.lookup x=some .local:=by first | exact .inl rfl | exact .inr rfl | assumption):DSt X fr (.For (.Name x px) (.Call (.Name "range" p0) [a] [] pos1) body [] pos) (Ue j te tb):=by
 obtain ⟨tt,p,l⟩:=h
 obtain ⟨tbs,p2,l2⟩:=hb
 refine ⟨_,w_ hp hc (sT hg hm (zE p z6 hst2) hst) (yq hN hi hx hf) p2 hs,fun W0 G ρ σ W D D' at_ s h=>l ρ σ W _ at_.rl h _ fun d v W1 s1 i1 ⟨n,Pv,ed,n1,n2,h0,ht,hd⟩=>?_⟩
 subst ed
 have hg:Same G W1.g:=at_.gs.trans s1.g
 refine ⟨n,by rw [is_int.mp i1],n1,n2,sZ (lo:=0) (n:=n.toNat) (fun i=>InL X.K (Zx X) W0 W1 (Pv i)) ⟨ρ,W1,rfl,(at_.step s1).now,h0⟩ ?_ ?_⟩
 ·rintro i σ' _ hi ⟨ρ',W2,rfl,a2,hp2⟩
  have ez:(0:Int)+(i:Int)=(i:Int):=Int.zero_add _
  rw [ez]
  exact l2 W0 W1.g _ _ W2 { D with nx:=Pv (i+1),ct:=Pv (i+1),bk:=D.nx } _ (a2.set j (is_int.mpr rfl)) (yF s hg) (ht i ρ' hi hp2)
 ·rintro σ' _ ⟨ρ',W2,rfl,a2,hp2⟩
  exact s.nx ρ' σ' W2 (a2.weak hg) (hd ρ' hp2)
theorem vG {c:Expr} {body:List Stmt} {tc:DTT} {tb:DTS} (hp:PassesOwn (model X.prog X.w) X.A X.env X.xe) (hc:DT X c tc) (hb:DSs X fr body tb):DSt X fr (.While c body [] pos) (nC tc tb):=by
 obtain ⟨t0,p0,l0⟩:=hc
 obtain ⟨tbs,p2,l2⟩:=hb
 refine ⟨_,kC hp p0 p2,fun W0 G ρ σ W D D' at_ s h=>?_⟩
 obtain ⟨Pv,⟨m0,h0⟩,ht⟩:=h
 refine ⟨fun m=>InL X.K (Zx X) W0 W (Pv m),⟨m0,ρ,W,rfl,at_.now,h0⟩,?_⟩
 rintro m σ' _ ⟨ρ',W2,rfl,a2,hp2⟩
 refine l0 ρ' σ' W2 _ a2.rl (ht m ρ' hp2) _ fun b W3 s3 q3=>?_
 have a3:=a2.step s3
 cases b with
 | true=>
  refine ⟨InL X.K (Zx X) W0 W (fun ρ2=>∃ m',m'<m∧Pv m' ρ2),fun σ4 H4 ⟨ρ4,W4,e4,a4,m',hm,p4⟩=>⟨m',hm,ρ4,W4,e4,a4,p4⟩,?_⟩
  exact l2 W0 W.g _ _ W3 { D with nx:=fun ρ2=>∃ m',m'<m∧Pv m' ρ2,ct:=fun ρ2=>∃ m',m'<m∧Pv m' ρ2,bk:=D.nx } _ a3 (yF s at_.gs) q3
 | false=>exact s.nx ρ' σ' W3 (a3.weak at_.gs) q3
variable {i:Nat} {x:Str}
def Tn (i:Nat) (te:DTE):DTS:=fun D ρ=>∃ ds,ρ[i]? = some (.own ds)∧te ρ fun d=>ds.length≤100000∧D.nx (ρ.set i (.own (ds++[d])))
theorem wu (i:Nat) (h:DE X e te) (hN:X.N[i]? = some x:=by rfl) (hv:Vis X.env.scope x:=by first | exact Or.inl rfl | exact Or.inr (Or.inl rfl) | exact Or.inr (Or.inr rfl)) (hd:(x == ("__debug__":Str))=false:=by decide)
  (hcd:(x == ("__classdict__":Str))=false:=by decide) (hst:starEach [e] X.env=(false,eval e X.env)::starEach [] X.env:=by rfl) (hpl:(backTo p2 (starEach [] X.env)).any (·.1)=false:=by rfl)
  (hfew:((backTo p2 (starEach [e] X.env)).all (fun x=>!x.1) && (backToKw p2 (keywordEach [] X.env)).all (fun x=>x.1.isSome)
   && decide ([e].length+([]:List Keyword).length+(if ([]:List Keyword).isEmpty then 0 else 1)<30))=true:=by rfl)
  (hbase:attributeBase (.Name x p0) "append" X.env (eval (.Name x p0) X.env)=eval (.Name x p0) X.env:=by rfl) (hline:(p1.endLine == p2.line)=true:=by rfl)
  (hs:swapsWith (.Call (.Attribute (.Name x p0) "append" p1) [e] [] p2) none pos.line X.env=pure false:=by rfl):
  DSt X fr (.Expr (.Call (.Attribute (.Name x p0) "append" p1) [e] [] p2) pos) (Tn i te):=by
 obtain ⟨tt,p,l⟩:=h
 refine ⟨_,uZ (nV PySem.F.plainAttrs_list PySem.F.slot_list_append PySem.F.type_list_append sV (xu hN hv hd hcd) (zE p z6 hst) hbase hfew hline hst hpl) hs,fun W0 G ρ σ W D D' at_ s h=>?_⟩
 obtain ⟨ds,ei,h⟩:=h
 obtain ⟨b,xs,e1,e2,e3,e4,e5⟩:=at_.rl.ow i ds ei
 refine ⟨.ref b,e1,.inl ⟨rfl,xs,.of e2⟩,l ρ σ W _ at_.rl h _ fun d v W1 s1 i1 ⟨hl,q1⟩=>?_⟩
 have a1:=at_.step s1
 have hg1:W1.g b=none:=s1.n b (by rw [e2]; intro z; cases z) e3
 refine ⟨b,xs,v,rfl,rfl,s1.h _ _ e2,by rw [← e5.length]; exact Nat.lt_of_le_of_lt hl (by decide),?_⟩
 exact s.nx _ _ _ (a1.put ei e1 hg1 e4 ((e5.mono s1).append (allIs_cons.mpr ⟨v,[],rfl,i1,allIs_nil.mpr rfl⟩))) q1
theorem AllIs.dropLast {G:Hp} {ds:List Dt} {xs:List V} (h:AllIs K G ds xs):AllIs K G ds.dropLast xs.dropLast:=by
 rw [List.dropLast_eq_take,List.dropLast_eq_take,h.length]
 exact h.take _
theorem AllIs.reverse {G:Hp}:∀ {ds:List Dt} {xs:List V},AllIs K G ds xs→AllIs K G ds.reverse xs.reverse
 | [],_,h=>by rw [allIs_nil.mp h]; exact allIs_nil.mpr rfl
 | d::ds,_,h=>by
  obtain ⟨x,r,rfl,h1,h2⟩:=allIs_cons.mp h
  rw [List.reverse_cons,List.reverse_cons]
  exact (AllIs.reverse h2).append (allIs_cons.mpr ⟨x,[],rfl,h1,allIs_nil.mpr rfl⟩)
theorem AllIs.set {G:Hp}:∀ {ds:List Dt} {xs:List V} {d:Dt} {v:V} (j:Nat),AllIs K G ds xs→Is K G d v→AllIs K G (ds.set j d) (xs.set j v)
 | [],_,_,_,_,h,_=>by rw [allIs_nil.mp h]; exact allIs_nil.mpr rfl
 | d::ds,_,_,_,0,h,i=>by
  obtain ⟨x,r,rfl,h1,h2⟩:=allIs_cons.mp h
  exact allIs_cons.mpr ⟨_,_,rfl,i,h2⟩
 | d::ds,_,_,_,j+1,h,i=>by
  obtain ⟨x,r,rfl,h1,h2⟩:=allIs_cons.mp h
  exact allIs_cons.mpr ⟨_,_,rfl,h1,AllIs.set j h2 i⟩
def XN (i:Nat):DTS:=fun D ρ=>∃ ds,ρ[i]? = some (.own ds)∧ds.isEmpty=false∧D.nx (ρ.set i (.own ds.dropLast))
theorem j6 (i:Nat) (hN:X.N[i]? = some x:=by rfl) (hv:Vis X.env.scope x:=by first | exact Or.inl rfl | exact Or.inr (Or.inl rfl) | exact Or.inr (Or.inr rfl)) (hd:(x == ("__debug__":Str))=false:=by decide)
  (hcd:(x == ("__classdict__":Str))=false:=by decide)
  (hbase:attributeBase (.Name x p0) "pop" X.env (eval (.Name x p0) X.env)=eval (.Name x p0) X.env:=by rfl) (hline:(p1.endLine == p2.line)=true:=by rfl)
  (hs:swapsWith (.Call (.Attribute (.Name x p0) "pop" p1) [] [] p2) none pos.line X.env=pure false:=by rfl):
  DSt X fr (.Expr (.Call (.Attribute (.Name x p0) "pop" p1) [] [] p2) pos) (XN i):=by
 refine ⟨_,uZ (bK PySem.F.plainAttrs_list PySem.F.slot_list_pop PySem.F.type_list_pop Xm (xu hN hv hd hcd) hbase hline) hs,fun W0 G ρ σ W D D' at_ s h=>?_⟩
 obtain ⟨ds,ei,hne,q1⟩:=h
 obtain ⟨b,xs,e1,e2,e3,e4,e5⟩:=at_.rl.ow i ds ei
 have hx:xs≠[]:=fun z=>by
  have:=e5.length
  rw [z] at this
  rw [List.length_eq_zero_iff.mp this] at hne
  cases hne
 have hlt:xs.length - 1<xs.length:=by
  have:=List.length_pos_iff.mpr hx
  omega
 exact ⟨.ref b,e1,.inl ⟨rfl,xs,.of e2⟩,b,xs,xs[xs.length - 1],rfl,rfl,e2,List.getElem?_eq_getElem hlt,s.nx _ _ _ (at_.put ei e1 e3 e4 e5.dropLast) q1⟩
def Tb (i:Nat) (ti te:DTE):DTS:=fun D ρ=>∃ ds,ρ[i]? = some (.own ds)∧te ρ fun d=>ti ρ fun z=>∃ n j,z=.int n∧ixN ds.length n=some j∧D.nx (ρ.set i (.own (ds.set j d)))
theorem XC (i:Nat) {k:Expr} {ti:DTE} (hk:DE X k ti) (h:DE X e te) (hN:X.N[i]? = some x:=by rfl) (hv:Vis X.env.scope x:=by first | exact Or.inl rfl | exact Or.inr (Or.inl rfl) | exact Or.inr (Or.inr rfl)) (hd:(x == ("__debug__":Str))=false:=by decide)
  (hcd:(x == ("__classdict__":Str))=false:=by decide)
  (ha:∀ v,assign (.Subscript (.Name x p0) k p1) X.env v=(do
   let ov ← holding [v] (eval (.Name x p0) X.env)
   let iv ← holding [v,ov] (eval k X.env)
   standAt p1
   holding [v,ov,iv] (setItem ov iv v)
   release [v,ov,iv] []):=by intro _; rfl)
  (hs:swapsWithSole [.Subscript (.Name x p0) k p1] e pos.line X.env=pure false:=by rfl) (hw:swappedStores [.Subscript (.Name x p0) k p1] e X.env=pure none:=by rfl)
  (h1:(assignEach [.Subscript (.Name x p0) k p1] X.env).map (·.2)=[assign (.Subscript (.Name x p0) k p1) X.env]:=by rfl):
  DSt X fr (.Assign [.Subscript (.Name x p0) k p1] e pos) (Tb i ti te):=by
 obtain ⟨tt,p,l⟩:=h
 obtain ⟨tk,pk,lk⟩:=hk
 refine ⟨_,bz p (bC (xu hN hv hd hcd) pk ko ha) hs hw h1,fun W0 G ρ σ W D D' at_ s h=>?_⟩
 obtain ⟨ds,ei,h⟩:=h
 refine l ρ σ W _ at_.rl h _ fun d v W1 s1 i1 q1=>?_
 have a1:=at_.step s1
 obtain ⟨b,xs,e1,e2,e3,e4,e5⟩:=a1.rl.ow i ds ei
 refine ⟨.ref b,e1,lk ρ σ W1 _ a1.rl q1 _ fun z u W2 s2 i2 ⟨n,j,ez,ej,q2⟩=>?_⟩
 subst ez
 have a2:=a1.step s2
 have hg2:W2.g b=none:=s2.n b (by rw [e2]; intro z; cases z) e3
 refine ⟨b,xs,n,j,rfl,is_int.mp i2,s2.h _ _ e2,by rw [← e5.length]; exact ej,?_⟩
 exact s.nx _ _ _ (a2.put ei e1 hg2 e4 ((e5.mono s2).set j (i1.mono s2))) q2
end
section
variable {P:Program} {w:World} {K:PySem.W.Frag} {mg:Str→Option Value} {base:Heap}
theorem si {W:Vw} {N:List Str} {ds:List Dt} {vs:List V} (ia:AllIs K W.g ds vs) (hz:Z=W.h):At K Z W W.g W (xc N.length ds) (start N vs):=⟨Le.refl W,Same.refl _,Rl.start ia (hz ▸ Same.refl _)⟩
theorem okD {x qual:Str} {st:Stmt} {f:Addr} {fd:FuncData} {N ps:List Str} {k:Nat} {S:DSp} (F:Fun K x qual st f fd) (sc:zh N ps (defScope st)) (len:∀ ds Q,S ds Q→ds.length=ps.length)
  (hbody:∀ (cdv:Value) (A:Around) (outer:List Env) (s:Shared) (H:Hp) (E:XK),Room k (A.deeper (envOfC qual (defScope st) s.heap.objs.size f cdv))→∀ (ds:List Dt) (Q:Dt→Prop),S ds Q→
   ∃ t,DSs (yV CX0 P w K mg base N qual (defScope st) f cdv A outer s H E).nox .d (defBody st) t∧t { nx:=fun _=>Q .non,rt:=Q } (xc N.length ds)):FnOk P w K mg base CX0 (k+1) f fd ps (zo K S):=by
 refine F.ok sc (fun vs H Q E h=>?_) (fun cdv A outer s H vs Q E hr h=>?_)
 ·obtain ⟨W,ds,Qd,_,ia,hS,_⟩:=h
  rw [← ia.length]
  exact len ds Qd hS
 obtain ⟨W,ds,Qd,rfl,ia,hS,kk⟩:=h
 obtain ⟨t,⟨ts,p,l⟩,ht⟩:=hbody cdv A outer s W.h E hr ds Qd hS
 refine ⟨ts,p,l W W.g (xc N.length ds) (start N vs) W { nx:=fun _=>Qd .non,rt:=Qd } _ (si ia (ot (Nat.succ_ne_self _))) ⟨fun ρ σ W' a q=>kk .non .non W' a.le (is_non.mpr rfl) q,fun d v W' s' i' q=>kk d v W' s' i' q,fun _ _ _ _ q=>q.elim,fun _ _ _ _ q=>q.elim⟩ ht⟩
theorem okF {x qual:Str} {st:Stmt} {f:Addr} {fd:FuncData} {N ps:List Str} {k:Nat} {S:DSp} (F:Fun K x qual st f fd) (sc:zh N ps (defScope st)) (len:∀ ds Q,S ds Q→ds.length=ps.length)
  (hbody:∀ (cdv:Value) (A:Around) (outer:List Env) (s:Shared) (H:Hp) (E:XK),Room k (A.deeper (envOfC qual (defScope st) s.heap.objs.size f cdv))→∀ (ds:List Dt) (Q:Dt→Prop),S ds Q→
   ∃ t,DSs (yV CX0 P w K mg base N qual (defScope st) f cdv A outer s H E).nox .l (defBody st) t∧t { nx:=fun _=>False,rt:=Q } (xc N.length ds)):FnOk P w K mg base CX0 (k+1) f fd ps (z9 K S):=by
 refine F.ok sc (fun vs H Q E h=>?_) (fun cdv A outer s H vs Q E hr h=>?_)
 ·obtain ⟨W,ds,Qd,_,ia,hS,_⟩:=h
  rw [← ia.length]
  exact len ds Qd hS
 obtain ⟨W,ds,Qd,rfl,ia,hS,kk⟩:=h
 obtain ⟨t,⟨ts,p,l⟩,ht⟩:=hbody cdv A outer s W.h E hr ds Qd hS
 exact ⟨ts,p,l W W.g (xc N.length ds) (start N vs) W { nx:=fun _=>False,rt:=Qd } _ (si ia (ot (Nat.succ_ne_self _))) ⟨fun ρ σ W' a q=>q.elim,fun d v W' s' ⟨es,p,xs,e1,e2,e3,e4,e5,e6⟩ q=>by subst e1; subst e2; exact kk es p xs W' s' e3 e4 e5 e6 q,fun _ _ _ _ q=>q.elim,fun _ _ _ _ q=>q.elim⟩ ht⟩
theorem DOk.mk' {x qual:Str} {st:Stmt} {f:Addr} {fd:FuncData} {ps:List Str} {n:Nat} {S:DSp} (F:Fun K x qual st f fd) (hm:mg x=some (.ref f)) (hb:Binds K fd ps []) (h:FnOk P w K mg base CX0 n f fd ps (zo K S)):DOk P w K mg base n x S:=
 ⟨f,fd,ps,hm,F.kp,hb,h⟩
theorem FOk.mk' {x qual:Str} {st:Stmt} {f:Addr} {fd:FuncData} {ps:List Str} {n:Nat} {S:DSp} (F:Fun K x qual st f fd) (hm:mg x=some (.ref f)) (hb:Binds K fd ps []) (h:FnOk P w K mg base CX0 n f fd ps (z9 K S)):FOk P w K mg base n x S:=
 ⟨f,fd,ps,hm,F.kp,hb,h⟩
theorem DOk.mono {x:Str} {m n:Nat} {S:DSp} (h:DOk P w K mg base m x S) (hl:m≤n):DOk P w K mg base n x S:=
 let ⟨f,fd,ps,h1,h2,h3,h4⟩:=h.ex; ⟨f,fd,ps,h1,h2,h3,h4.mono hl⟩
theorem FOk.mono {x:Str} {m n:Nat} {S:DSp} (h:FOk P w K mg base m x S) (hl:m≤n):FOk P w K mg base n x S:=
 let ⟨f,fd,ps,h1,h2,h3,h4⟩:=h.ex; ⟨f,fd,ps,h1,h2,h3,h4.mono hl⟩
theorem MOk.mono {C:Addr} {x:Str} {m n:Nat} {S:DSp} (h:MOk P w K mg base m C x S) (hl:m≤n):MOk P w K mg base n C x S:=
 ⟨h.cl,let ⟨f,fd,ps,h1,h3,h4⟩:=h.ex; ⟨f,fd,ps,h1,h3,h4.mono hl⟩⟩
theorem FMOk.mono {C:Addr} {x:Str} {m n:Nat} {S:DSp} (h:FMOk P w K mg base m C x S) (hl:m≤n):FMOk P w K mg base n C x S:=
 ⟨h.cl,let ⟨f,fd,ps,h1,h3,h4⟩:=h.ex; ⟨f,fd,ps,h1,h3,h4.mono hl⟩⟩
theorem MOk.imp {C:Addr} {x:Str} {n:Nat} {S S':DSp} (h:MOk P w K mg base n C x S) (hi:∀ ds Q,S' ds Q→S ds Q):MOk P w K mg base n C x S':=
 ⟨h.cl,let ⟨f,fd,ps,h1,h3,h4⟩:=h.ex; ⟨f,fd,ps,h1,h3,h4.imp fun vs H Q E ⟨W,ds,Qd,a,b,c,d⟩=>⟨W,ds,Qd,a,b,hi _ _ c,d⟩⟩⟩
theorem FMOk.imp {C:Addr} {x:Str} {n:Nat} {S S':DSp} (h:FMOk P w K mg base n C x S) (hi:∀ ds Q,S' ds Q→S ds Q):FMOk P w K mg base n C x S':=
 ⟨h.cl,let ⟨f,fd,ps,h1,h3,h4⟩:=h.ex; ⟨f,fd,ps,h1,h3,h4.imp fun vs H Q E ⟨W,ds,Qd,a,b,c,d⟩=>⟨W,ds,Qd,a,b,hi _ _ c,d⟩⟩⟩
theorem DOk.imp {x:Str} {n:Nat} {S S':DSp} (h:DOk P w K mg base n x S) (hi:∀ ds Q,S' ds Q→S ds Q):DOk P w K mg base n x S':=
 let ⟨f,fd,ps,h1,h2,h3,h4⟩:=h.ex; ⟨f,fd,ps,h1,h2,h3,h4.imp fun vs H Q E ⟨W,ds,Qd,a,b,c,d⟩=>⟨W,ds,Qd,a,b,hi _ _ c,d⟩⟩
theorem wH {qual:Str} {st:Stmt} {g C:Addr} {fd:FuncData} {y f:Str} {k:Nat} {ok:Int→Prop} (F:Fun K "__init__" qual st g fd) (sc:zh ["self",y] ["self",y] (defScope st)) (cl:Cls K C) (na:NoAttr K C f)
  (hbody:∀ (cdv:Value) (A:Around) (outer:List Env) (s:Shared) (H:Hp) (E:XK),Room k (A.deeper (envOfC qual (defScope st) s.heap.objs.size g cdv))→
   ∃ te t,PSs (yV CX0 P w K mg base ["self",y] qual (defScope st) g cdv A outer s H E).nox (defBody st) (Wl K (iY 0) te f)∧LiE K (Zx (yV CX0 P w K mg base ["self",y] qual (defScope st) g cdv A outer s H E)) te t∧∀ i,ok i→t [.none,.some (.int i)] fun d=>d=.int i):
  FnOk P w K mg base CX0 (k+1) g fd ["self",y] (xj C f ok):=by
 refine F.ok sc (fun vs H Q E h=>?_) (fun cdv A outer s H vs Q E hr h=>?_)
 ·obtain ⟨p,dx,i,rfl,_⟩:=h
  rfl
 obtain ⟨p,dx,i,rfl,hp,hok,q⟩:=h
 obtain ⟨te,t,ps,l,ht⟩:=hbody cdv A outer s H E hr
 rw [lY] at l
 refine ⟨_,ps,l (F:=H) [.none,.some (.int i)] _ ⟨H,H,Same.refl H⟩ _ ⟨rfl,fun j d e=>?_,fun j ds e=>?_,fun j j' ds es _ e _=>?_,Same.refl H,Same.refl H,fun j a ds e=>?_⟩ (ht i hok) _ fun d v W1 s1 i1 ed=>?_⟩
 ·match j,e with
  | 0,e=>cases e
  | 1,e=>
   have e':Dt.int i=d:=by cases e; rfl
   subst e'
   exact ⟨.int i,rfl,is_int.mpr rfl⟩
  | j+2,e=>cases e
 ·match j,e with
  | 0,e=>cases e
  | 1,e=>cases e
  | j+2,e=>cases e
 ·match j,e with
  | 0,e=>cases e
  | 1,e=>cases e
  | j+2,e=>cases e
 ·match j,e with
  | 0,e=>cases e
  | 1,e=>cases e
  | j+2,e=>cases e
 ·subst ed
  obtain rfl:=is_int.mp i1
  refine ⟨.ref p,rfl,p,C,dx,[],rfl,s1.h _ _ hp,cl,na,(by show 0<1000; decide),?_⟩
  refine q _ zv fun b o hb hbp=>?_
  rw [zw hbp]
  exact s1.h _ _ hb
end
end OD
namespace OD
open PySem PySem.Spec PyProof.Rows L2
mutual
def eqD:Dt→Dt→Bool
 | .non,.non=>true
 | .bl a,.bl b=>a == b
 | .bl a,.int b=>(if a then (1:Int) else 0) == b
 | .int a,.bl b=>a == (if b then (1:Int) else 0)
 | .int a,.int b=>a == b
 | .str a,.str b=>a == b
 | .tup ds,.tup es=>xR ds es
 | .lst ds,.lst es=>xR ds es
 | _,_=>false
def xR:List Dt→List Dt→Bool
 | [],[]=>true
 | d::ds,e::es=>eqD d e && xR ds es
 | _,_=>false
end
def okE:Nat→Dt→Bool
 | _,.non=>true
 | _,.bl _=>true
 | _,.int _=>true
 | _,.str _=>true
 | n+1,.tup ds=>ds.all (okE n)
 | n+1,.lst ds=>ds.all (okE n)
 | _,_=>false
theorem yT (a b:Int):eqD (.int a) (.int b)=(a == b):=by unfold eqD; rfl
theorem jZ (a b:Bool):eqD (.bl a) (.bl b)=(a == b):=by unfold eqD; rfl
theorem n_ (a b:Str):eqD (.str a) (.str b)=(a == b):=by unfold eqD; rfl
theorem vB (ds es:List Dt):eqD (.tup ds) (.tup es)=xR ds es:=by rw [eqD]
theorem u7 (ds es:List Dt):eqD (.lst ds) (.lst es)=xR ds es:=by rw [eqD]
theorem vA:xR [] []=true:=by unfold xR; rfl
theorem xy (d e:Dt) (ds es:List Dt):xR (d::ds) (e::es)=(eqD d e && xR ds es):=by rw [xR]
theorem sO (e:Dt) (es:List Dt):xR [] (e::es)=false:=by unfold xR; rfl
theorem sP (e:Dt) (es:List Dt):xR (e::es) []=false:=by unfold xR; rfl
theorem xb:∀ ds es:List Dt,(((List.range (min ds.length es.length)).all fun j=>eqD (ds.getD j .non) (es.getD j .non)) && (ds.length == es.length))=xR ds es
 | [],[]=>by rw [vA]; rfl
 | [],e::es=>by
  rw [sO]
  have h:((([]:List Dt).length == (e::es).length))=false:=by simp
  rw [h,Bool.and_false]
 | d::ds,[]=>by
  rw [sP]
  have h:(((d::ds).length == ([]:List Dt).length))=false:=by simp
  rw [h,Bool.and_false]
 | d::ds,e::es=>by
  have ih:=xb ds es
  rw [xy,← ih]
  have hm:min (d::ds).length (e::es).length=min ds.length es.length+1:=by
   rw [List.length_cons,List.length_cons]; omega
  rw [hm,List.range_succ_eq_map,List.all_cons,List.all_map,Bool.and_assoc]
  have hl:((d::ds).length == (e::es).length)=(ds.length == es.length):=by
   rw [List.length_cons,List.length_cons]
   rw [Bool.eq_iff_iff,beq_iff_eq,beq_iff_eq]
   omega
  rw [hl]
  rfl
theorem s9 {ds es:List Dt} (h:ds.length≠es.length):xR ds es=false:=by
 rw [← xb ds es]
 have h:(ds.length == es.length)=false:=beq_eq_false_iff_ne.mpr h
 rw [h,Bool.and_false]
theorem pW {ds es:List Dt} (h:ds.length=es.length):((List.range ds.length).all fun j=>eqD (ds.getD j .non) (es.getD j .non))=xR ds es:=by
 rw [← xb ds es]
 have h':(ds.length == es.length)=true:=beq_iff_eq.mpr h
 rw [h',Bool.and_true,← h,Nat.min_self]
theorem um:∀ {ds:List Dt},(∀ d∈ds,eqD d d=true)→xR ds ds=true
 | [],_=>vA
 | d::ds,h=>by
  rw [xy,h d List.mem_cons_self,um fun e he=>h e (List.mem_cons_of_mem _ he)]
  rfl
theorem jY:∀ (n:Nat) {d:Dt},okE n d=true→eqD d d=true:=by
 intro n
 induction n with
 | zero=>
  intro d h
  cases d with
  | non=>unfold eqD; rfl
  | bl b=>rw [jZ]; exact beq_self_eq_true _
  | int b=>rw [yT]; exact beq_self_eq_true _
  | str b=>rw [n_]; exact beq_self_eq_true _
  | _=>simp [okE] at h
 | succ n ih=>
  intro d h
  cases d with
  | non=>unfold eqD; rfl
  | bl b=>rw [jZ]; exact beq_self_eq_true _
  | int b=>rw [yT]; exact beq_self_eq_true _
  | str b=>rw [n_]; exact beq_self_eq_true _
  | tup ds=>
   rw [vB]
   have h':∀ d∈ds,okE n d=true:=by simpa [okE] using h
   exact um fun d hd=>ih (h' d hd)
  | lst ds=>
   rw [u7]
   have h':∀ d∈ds,okE n d=true:=by simpa [okE] using h
   exact um fun d hd=>ih (h' d hd)
  | _=>simp [okE] at h
example:eqD (.int ((2:Nat):Int)) (.int 2)=true:=by rfl
section
variable {X:Cx} {pins:List (Addr × Obj)} {σ:St} {K:PySem.W.Frag} {H:Hp} {s:Shared}
theorem nu:∀ {ds es:List Dt} {xs:List V},(∀ d e v,d∈ds→e∈es→Is K H d v→Is K H e v→eqD d e=true)→AllIs K H ds xs→AllIs K H es xs→xR ds es=true
 | [],es,xs,ih,i1,i2=>by
  obtain rfl:=allIs_nil.mp i1
  cases es with
  | nil=>exact vA
  | cons e es=>obtain ⟨_,_,z,_⟩:=allIs_cons.mp i2; cases z
 | d::ds,es,xs,ih,i1,i2=>by
  obtain ⟨x,r,rfl,j1,j2⟩:=allIs_cons.mp i1
  cases es with
  | nil=>cases allIs_nil.mp i2
  | cons e es=>
   obtain ⟨y,r',z,k1,k2⟩:=allIs_cons.mp i2
   cases z
   rw [xy,ih d e x List.mem_cons_self List.mem_cons_self j1 k1,nu (fun d' e' v' hd he=>ih d' e' v' (List.mem_cons_of_mem _ hd) (List.mem_cons_of_mem _ he)) j2 k2]
   rfl
def wq:Dt→Bool
 | .non=>true
 | .bl _=>true
 | .int _=>true
 | .str _=>true
 | _=>false
def vD:Dt→V
 | .bl b=>.bl b
 | .int i=>.int i
 | .str x=>.str x
 | _=>.non
theorem zL {d:Dt} {v:V} (h:wq d=true) (i:Is K H d v):v=vD d:=by
 cases d <;> first | exact is_non.mp i | exact is_bl.mp i | exact is_int.mp i | exact is_str.mp i | cases h
theorem ul {d:Dt} (h:wq d=true):wn (vD d)=true:=by cases d <;> first | rfl | cases h
theorem vy {d:Dt} {a:Addr} (h:wq d=true) (e:vD d=.ref a):False:=by cases d <;> first | cases e | cases h
theorem pV {v:V} (h:wn v=true):eqV v v=true:=by cases v <;> first | rfl | exact beq_self_eq_true _ | cases h
theorem vC {d e:Dt} (h1:wq d=true) (h2:wq e=true):eqD d e=eqV (vD d) (vD e):=by cases d <;> first | exact absurd h1 Bool.false_ne_true | (cases e <;> first | exact absurd h2 Bool.false_ne_true | rfl)
theorem wr {d:Dt} {es:List Dt} (h:wq d=true):eqD d (.tup es)=false∧eqD (.tup es) d=false∧eqD d (.lst es)=false∧eqD (.lst es) d=false:=by
 cases d <;> first | exact ⟨rfl,rfl,rfl,rfl⟩ | cases h
theorem yY {n:Nat} {d:Dt} (h:okE n d=true):wq d=true∨∃ m ds,n=m+1∧(d=.tup ds∨d=.lst ds)∧∀ d∈ds,okE m d=true:=by
 cases d with
 | non=>exact .inl rfl
 | bl b=>exact .inl rfl
 | int b=>exact .inl rfl
 | str b=>exact .inl rfl
 | tup ds=>
  cases n with
  | zero=>simp [okE] at h
  | succ m=>exact .inr ⟨m,ds,rfl,.inl rfl,by simpa [okE] using h⟩
 | lst ds=>
  cases n with
  | zero=>simp [okE] at h
  | succ m=>exact .inr ⟨m,ds,rfl,.inr rfl,by simpa [okE] using h⟩
 | _=>cases n <;> simp [okE] at h
theorem n9:∀ (n:Nat) {d e:Dt} {v:V},okE n d=true→okE n e=true→Is K H d v→Is K H e v→eqD d e=true:=by
 intro n
 induction n with
 | zero=>
  intro d e v h1 h2 i1 i2
  rcases yY h1 with f1 | ⟨m,ds,z,_⟩
  ·rcases yY h2 with f2 | ⟨m,ds,z,_⟩
   ·rw [vC f1 f2,← zL f1 i1,← zL f2 i2]
    exact pV (by rw [zL f1 i1]; exact ul f1)
   ·cases z
  ·cases z
 | succ n ih=>
  intro d e v h1 h2 i1 i2
  rcases yY h1 with f1 | ⟨m,ds,z,hk,hd⟩
  ·rcases yY h2 with f2 | ⟨m,es,z,hk,he⟩
   ·rw [vC f1 f2,← zL f1 i1,← zL f2 i2]
    exact pV (by rw [zL f1 i1]; exact ul f1)
   ·obtain rfl:=zL f1 i1
    rcases hk with rfl | rfl
    ·obtain ⟨_,_,e,_⟩:=is_tup.mp i2; exact (vy f1 e).elim
    ·obtain ⟨_,_,e,_⟩:=is_lst.mp i2; exact (vy f1 e).elim
  ·cases z
   rcases yY h2 with f2 | ⟨m,es,z,hk2,he⟩
   ·obtain rfl:=zL f2 i2
    rcases hk with rfl | rfl
    ·obtain ⟨_,_,e,_⟩:=is_tup.mp i1; exact (vy f2 e).elim
    ·obtain ⟨_,_,e,_⟩:=is_lst.mp i1; exact (vy f2 e).elim
   ·cases z
    rcases hk with rfl | rfl
    ·obtain ⟨a,xs,rfl,hx,ha⟩:=is_tup.mp i1
     rcases hk2 with rfl | rfl
     ·obtain ⟨b,ys,eb,hy,hb⟩:=is_tup.mp i2
      cases eb
      rw [hx] at hy
      cases hy
      rw [vB]
      exact nu (fun d e v q1 q2=>ih (hd d q1) (he e q2)) ha hb
     ·obtain ⟨b,ys,eb,hy,hb⟩:=is_lst.mp i2
      cases eb
      rw [hx] at hy
      cases hy
    ·obtain ⟨a,xs,rfl,hx,ha⟩:=is_lst.mp i1
     rcases hk2 with rfl | rfl
     ·obtain ⟨b,ys,eb,hy,hb⟩:=is_tup.mp i2
      cases eb
      rw [hx] at hy
      cases hy
     ·obtain ⟨b,ys,eb,hy,hb⟩:=is_lst.mp i2
      cases eb
      rw [hx] at hy
      cases hy
      rw [u7]
      exact nu (fun d e v q1 q2=>ih (hd d q1) (he e q2)) ha hb
section
variable {A:Around}
open SeqAt
theorem wJ {d:Dt} {v:Value} {b:Addr} {its:Array Value} (f:wq d=true) (q:RelV (vD d) v) (t:s.heap.IsTuple b its) (hA:A.units<cLine):
  (EqAt A s v (.ref b) false∧EqAt A s (.ref b) v false)∧(RcAt A s v (.ref b) false∧RcNeAt A s v (.ref b) true)∧RcAt A s (.ref b) v false∧RcNeAt A s (.ref b) v true:=by
 cases d with
 | non=>cases q; exact ⟨⟨.none_tuple t hA,.tuple_none t hA⟩,⟨.none_tuple t hA,.none_tuple t hA⟩,.tuple_none t hA,.tuple_none t hA⟩
 | bl a=>cases q; exact ⟨⟨.bool_tuple a t hA,.tuple_bool a t hA⟩,⟨.bool_tuple a t hA,.bool_tuple a t hA⟩,.tuple_bool a t hA,.tuple_bool a t hA⟩
 | int a=>obtain ⟨u,rfl⟩:=q; exact ⟨⟨.int_tuple a u t hA,.tuple_int a u t hA⟩,⟨.int_tuple a u t hA,.int_tuple a u t hA⟩,.tuple_int a u t hA,.tuple_int a u t hA⟩
 | str a=>obtain ⟨u,rfl⟩:=q; exact ⟨⟨.str_tuple a u t hA,.tuple_str a u t hA⟩,⟨.str_tuple a u t hA,.str_tuple a u t hA⟩,.tuple_str a u t hA,.tuple_str a u t hA⟩
 | _=>cases f
theorem wK {d:Dt} {v:Value} {b:Addr} {its:Array Value} (f:wq d=true) (q:RelV (vD d) v) (t:s.heap.IsList b its) (hA:A.units<cLine):
  (EqAt A s v (.ref b) false∧EqAt A s (.ref b) v false)∧(RcAt A s v (.ref b) false∧RcNeAt A s v (.ref b) true)∧RcAt A s (.ref b) v false∧RcNeAt A s (.ref b) v true:=by
 cases d with
 | non=>cases q; exact ⟨⟨.none_list t hA,.list_none t hA⟩,⟨.none_list t hA,.none_list t hA⟩,.list_none t hA,.list_none t hA⟩
 | bl a=>cases q; exact ⟨⟨.bool_list a t hA,.list_bool a t hA⟩,⟨.bool_list a t hA,.bool_list a t hA⟩,.list_bool a t hA,.list_bool a t hA⟩
 | int a=>obtain ⟨u,rfl⟩:=q; exact ⟨⟨.int_list a u t hA,.list_int a u t hA⟩,⟨.int_list a u t hA,.int_list a u t hA⟩,.list_int a u t hA,.list_int a u t hA⟩
 | str a=>obtain ⟨u,rfl⟩:=q; exact ⟨⟨.str_list a u t hA,.list_str a u t hA⟩,⟨.str_list a u t hA,.str_list a u t hA⟩,.list_str a u t hA,.list_str a u t hA⟩
 | _=>cases f
theorem dR {d e:Dt} {v u:Value} (f1:wq d=true) (f2:wq e=true) (q1:RelV (vD d) v) (q2:RelV (vD e) u):RcAt A s v u (eqD d e)∧RcNeAt A s v u (!eqD d e):=by
 cases d with
 | non=>
  cases q1
  cases e with
  | non=>cases q2; exact ⟨.none_none,.none_none⟩
  | bl b=>cases q2; exact ⟨.none_bool b,.none_bool b⟩
  | int b=>obtain ⟨t,rfl⟩:=q2; exact ⟨.none_int b t,.none_int b t⟩
  | str b=>obtain ⟨t,rfl⟩:=q2; exact ⟨.none_str b t,.none_str b t⟩
  | _=>cases f2
 | bl a=>
  cases q1
  cases e with
  | non=>cases q2; exact ⟨.bool_none a,.bool_none a⟩
  | bl b=>cases q2; exact ⟨.bool_bool a b,.bool_bool a b⟩
  | int b=>obtain ⟨t,rfl⟩:=q2; exact ⟨.bool_int a b t,.bool_int a b t⟩
  | str b=>obtain ⟨t,rfl⟩:=q2; exact ⟨.bool_str a b t,.bool_str a b t⟩
  | _=>cases f2
 | int a=>
  obtain ⟨ta,rfl⟩:=q1
  cases e with
  | non=>cases q2; exact ⟨.int_none a ta,.int_none a ta⟩
  | bl b=>cases q2; exact ⟨.int_bool a ta b,.int_bool a ta b⟩
  | int b=>obtain ⟨t,rfl⟩:=q2; exact ⟨.int_int a ta b t,.int_int a ta b t⟩
  | str b=>obtain ⟨t,rfl⟩:=q2; exact ⟨.int_str a ta b t,.int_str a ta b t⟩
  | _=>cases f2
 | str a=>
  obtain ⟨ta,rfl⟩:=q1
  cases e with
  | non=>cases q2; exact ⟨.str_none a ta,.str_none a ta⟩
  | bl b=>cases q2; exact ⟨.str_bool a ta b,.str_bool a ta b⟩
  | int b=>obtain ⟨t,rfl⟩:=q2; exact ⟨.str_int a ta b t,.str_int a ta b t⟩
  | str b=>obtain ⟨t,rfl⟩:=q2; exact ⟨.str_str a ta b t,.str_str a ta b t⟩
  | _=>cases f2
 | _=>cases f1
end
theorem vx {n:Nat} {A:Around} {ds es:List Dt} {xs ys:List V} {its its2:List Value}
  (ih:∀ {d e:Dt} {x y:V} {v u:Value},okE n d=true→okE n e=true→Is K H d x→Is K H e y→RelV x v→RelV y u→SeqAt.EqAt A s v u (eqD d e))
  (hd:∀ d∈ds,okE n d=true) (he:∀ d∈es,okE n d=true) (a1:AllIs K H ds xs) (a2:AllIs K H es ys) (r1:Vals xs its) (r2:Vals ys its2):
  ∀ j (h1:j<its.toArray.size) (h2:j<its2.toArray.size),SeqAt.EqAt A s its.toArray[j] its2.toArray[j] (eqD (ds.getD j .non) (es.getD j .non)):=by
 intro j h1 h2
 have l1:=a1.length.trans r1.length
 have l2:=a2.length.trans r2.length
 rw [List.size_toArray] at h1 h2
 have g1:ds[j]? = some ds[j]:=List.getElem?_eq_getElem (by omega)
 have g2:es[j]? = some es[j]:=List.getElem?_eq_getElem (by omega)
 obtain ⟨x,e1,i1⟩:=a1.get g1
 obtain ⟨y,e2,i2⟩:=a2.get g2
 obtain ⟨v,e3,q1⟩:=r1.get e1
 obtain ⟨u,e4,q2⟩:=r2.get e2
 have f1:ds.getD j .non=ds[j]:=by rw [List.getD_eq_getElem?_getD,g1]; rfl
 have f2:es.getD j .non=es[j]:=by rw [List.getD_eq_getElem?_getD,g2]; rfl
 have f3:its.toArray[j]=v:=by
  have z:its[j]? = some its[j]:=List.getElem?_eq_getElem h1
  rw [z] at e3
  simpa using Option.some.inj e3
 have f4:its2.toArray[j]=u:=by
  have z:its2[j]? = some its2[j]:=List.getElem?_eq_getElem h2
  rw [z] at e4
  simpa using Option.some.inj e4
 rw [f1,f2,f3,f4]
 exact ih (hd _ (List.mem_of_getElem? g1)) (he _ (List.mem_of_getElem? g2)) i1 i2 q1 q2
theorem VU (I:Inv X pins σ H s):∀ (n:Nat) {A:Around} {d e:Dt} {x y:V} {v u:Value},A.units+n<cLine→okE n d=true→okE n e=true→Is X.K H d x→Is X.K H e y→RelV x v→RelV y u→SeqAt.EqAt A s v u (eqD d e):=by
 intro n
 induction n with
 | zero=>
  intro A d e x y v u hu h1 h2 i1 i2 q1 q2
  rcases yY h1 with f1 | ⟨m,ds,z,_⟩
  ·rcases yY h2 with f2 | ⟨m,ds,z,_⟩
   ·rw [vC f1 f2]
    rw [zL f1 i1] at q1
    rw [zL f2 i2] at q2
    exact nv q1 q2 (ul f1) (ul f2)
   ·cases z
  ·cases z
 | succ n ih=>
  intro A d e x y v u hu h1 h2 i1 i2 q1 q2
  have hA:A.units<cLine:=by omega
  have hu':A.in1.units+n<cLine:=by show A.units+1+n<cLine; omega
  rcases yY h1 with f1 | ⟨m,ds,z,hk,hd⟩
  ·rw [zL f1 i1] at q1
   rcases yY h2 with f2 | ⟨m,es,z,rfl | rfl,he⟩
   ·rw [vC f1 f2]
    rw [zL f2 i2] at q2
    exact nv q1 q2 (ul f1) (ul f2)
   ·obtain ⟨b,ys,rfl,hy,hb⟩:=is_tup.mp i2
    obtain ⟨its2,r2,t2,_⟩:=I.tuple (.of hy)
    cases q2
    rw [(wr f1).1]
    exact (wJ f1 q1 t2 hA).1.1
   ·obtain ⟨b,ys,rfl,hy,hb⟩:=is_lst.mp i2
    obtain ⟨its2,r2,t2,_⟩:=I.list (.of hy)
    cases q2
    rw [(wr f1).2.2.1]
    exact (wK f1 q1 t2.isList hA).1.1
  ·cases z
   rcases hk with rfl | rfl
   ·obtain ⟨a,xs,rfl,hx,ha⟩:=is_tup.mp i1
    obtain ⟨its,r1,t1,_⟩:=I.tuple (.of hx)
    cases q1
    rcases yY h2 with f2 | ⟨m,es,z,rfl | rfl,he⟩
    ·rw [zL f2 i2] at q2
     rw [(wr f2).2.1]
     exact (wJ f2 q2 t1 hA).1.2
    ·cases z
     have i2':=i2
     obtain ⟨b,ys,rfl,hy,hb⟩:=is_tup.mp i2
     obtain ⟨its2,r2,t2,_⟩:=I.tuple (.of hy)
     cases q2
     by_cases hab:a=b
     ·subst hab
      rw [n9 _ h1 h2 i1 i2']
      exact SeqAt.EqAt.same _
     ·have q:=SeqAt.RcAt.tuples t1 t2 hA (vx (fun {d e x y v u}=>ih (A:=A.in1) hu') hd he ha hb r1 r2)
      rw [List.size_toArray,List.size_toArray,← r1.length,← r2.length,← ha.length,← hb.length,xb] at q
      rw [vB]
      exact .of_refs hab q
    ·obtain ⟨b,ys,rfl,hy,hb⟩:=is_lst.mp i2
     obtain ⟨its2,r2,t2,_⟩:=I.list (.of hy)
     cases q2
     exact SeqAt.EqAt.tuple_list t1 t2.isList hA
   ·obtain ⟨a,xs,rfl,hx,ha⟩:=is_lst.mp i1
    obtain ⟨its,r1,t1,_⟩:=I.list (.of hx)
    cases q1
    rcases yY h2 with f2 | ⟨m,es,z,rfl | rfl,he⟩
    ·rw [zL f2 i2] at q2
     rw [(wr f2).2.2.2]
     exact (wK f2 q2 t1.isList hA).1.2
    ·obtain ⟨b,ys,rfl,hy,hb⟩:=is_tup.mp i2
     obtain ⟨its2,r2,t2,_⟩:=I.tuple (.of hy)
     cases q2
     exact SeqAt.EqAt.list_tuple t1.isList t2 hA
    ·cases z
     have i2':=i2
     obtain ⟨b,ys,rfl,hy,hb⟩:=is_lst.mp i2
     obtain ⟨its2,r2,t2,_⟩:=I.list (.of hy)
     cases q2
     by_cases hab:a=b
     ·subst hab
      rw [n9 _ h1 h2 i1 i2']
      exact SeqAt.EqAt.same _
     ·rw [u7]
      have l1:=ha.length.trans r1.length
      have l2:=hb.length.trans r2.length
      by_cases hl:ds.length=es.length
      ·have q:=SeqAt.RcAt.lists t1.isList t2.isList (by rw [List.size_toArray,List.size_toArray]; omega) hA (vx (fun {d e x y v u}=>ih (A:=A.in1) hu') hd he ha hb r1 r2)
       rw [List.size_toArray,← l1,pW hl] at q
       exact .of_refs hab q
      ·have q:=SeqAt.RcAt.lists_lengths t1.isList t2.isList (by rw [List.size_toArray,List.size_toArray,bne_iff_ne]; omega) hA
       rw [s9 hl]
       exact .of_refs hab q
theorem cD (I:Inv X pins σ H s) {n:Nat} {A:Around} {d e:Dt} {x y:V} {v u:Value} (hu:A.units+(n+1)<cLine) (h1:okE (n+1) d=true) (h2:okE (n+1) e=true) (i1:Is X.K H d x) (i2:Is X.K H e y) (q1:RelV x v) (q2:RelV y u):
  SeqAt.RcAt A s v u (eqD d e)∧SeqAt.RcNeAt A s v u (!eqD d e):=by
 have hA:A.units<cLine:=by omega
 have hu':A.in1.units+n<cLine:=by show A.units+1+n<cLine; omega
 have ih:=fun {d e:Dt} {x y:V} {v u:Value}=>VU I n (A:=A.in1) (d:=d) (e:=e) (x:=x) (y:=y) (v:=v) (u:=u) hu'
 rcases yY h1 with f1 | ⟨m,ds,z,hk,hd⟩
 ·rw [zL f1 i1] at q1
  rcases yY h2 with f2 | ⟨m,es,z,rfl | rfl,he⟩
  ·rw [zL f2 i2] at q2
   exact dR f1 f2 q1 q2
  ·obtain ⟨b,ys,rfl,hy,hb⟩:=is_tup.mp i2
   obtain ⟨its2,r2,t2,_⟩:=I.tuple (.of hy)
   cases q2
   rw [(wr f1).1]
   exact (wJ f1 q1 t2 hA).2.1
  ·obtain ⟨b,ys,rfl,hy,hb⟩:=is_lst.mp i2
   obtain ⟨its2,r2,t2,_⟩:=I.list (.of hy)
   cases q2
   rw [(wr f1).2.2.1]
   exact (wK f1 q1 t2.isList hA).2.1
 ·cases z
  rcases hk with rfl | rfl
  ·obtain ⟨a,xs,rfl,hx,ha⟩:=is_tup.mp i1
   obtain ⟨its,r1,t1,_⟩:=I.tuple (.of hx)
   cases q1
   rcases yY h2 with f2 | ⟨m,es,z,rfl | rfl,he⟩
   ·rw [zL f2 i2] at q2
    rw [(wr f2).2.1]
    exact (wJ f2 q2 t1 hA).2.2
   ·cases z
    obtain ⟨b,ys,rfl,hy,hb⟩:=is_tup.mp i2
    obtain ⟨its2,r2,t2,_⟩:=I.tuple (.of hy)
    cases q2
    have it:=vx (A:=A.in1) ih hd he ha hb r1 r2
    have q:=SeqAt.RcAt.tuples t1 t2 hA it
    have q':=SeqAt.RcNeAt.tuples t1 t2 hA it
    rw [List.size_toArray,List.size_toArray,← r1.length,← r2.length,← ha.length,← hb.length,xb] at q q'
    rw [vB]
    exact ⟨q,q'⟩
   ·obtain ⟨b,ys,rfl,hy,hb⟩:=is_lst.mp i2
    obtain ⟨its2,r2,t2,_⟩:=I.list (.of hy)
    cases q2
    exact ⟨SeqAt.RcAt.tuple_list t1 t2.isList hA,SeqAt.RcNeAt.tuple_list t1 t2.isList hA⟩
  ·obtain ⟨a,xs,rfl,hx,ha⟩:=is_lst.mp i1
   obtain ⟨its,r1,t1,_⟩:=I.list (.of hx)
   cases q1
   rcases yY h2 with f2 | ⟨m,es,z,rfl | rfl,he⟩
   ·rw [zL f2 i2] at q2
    rw [(wr f2).2.2.2]
    exact (wK f2 q2 t1.isList hA).2.2
   ·obtain ⟨b,ys,rfl,hy,hb⟩:=is_tup.mp i2
    obtain ⟨its2,r2,t2,_⟩:=I.tuple (.of hy)
    cases q2
    exact ⟨SeqAt.RcAt.list_tuple t1.isList t2 hA,SeqAt.RcNeAt.list_tuple t1.isList t2 hA⟩
   ·cases z
    obtain ⟨b,ys,rfl,hy,hb⟩:=is_lst.mp i2
    obtain ⟨its2,r2,t2,_⟩:=I.list (.of hy)
    cases q2
    rw [u7]
    have l1:=ha.length.trans r1.length
    have l2:=hb.length.trans r2.length
    by_cases hl:ds.length=es.length
    ·have it:=vx (A:=A.in1) ih hd he ha hb r1 r2
     have q:=SeqAt.RcAt.lists t1.isList t2.isList (by rw [List.size_toArray,List.size_toArray]; omega) hA it
     have q':=SeqAt.RcNeAt.lists t1.isList t2.isList (by rw [List.size_toArray,List.size_toArray]; omega) hA it
     rw [List.size_toArray,← l1,pW hl] at q q'
     exact ⟨q,q'⟩
    ·have q:=SeqAt.RcAt.lists_lengths t1.isList t2.isList (by rw [List.size_toArray,List.size_toArray,bne_iff_ne]; omega) hA
     have q':=SeqAt.RcNeAt.lists_lengths t1.isList t2.isList (by rw [List.size_toArray,List.size_toArray,bne_iff_ne]; omega) hA
     rw [s9 hl]
     exact ⟨q,q'⟩
def gEq:Dt→Dt→(Dt→Prop)→Prop:=fun d e Q=>okE 40 d=true∧okE 40 e=true∧Q (.bl (eqD d e))
def gNe:Dt→Dt→(Dt→Prop)→Prop:=fun d e Q=>okE 40 d=true∧okE 40 e=true∧Q (.bl (!eqD d e))
theorem vc {k:Nat} (hr:Room k X.A):DOp X (compareOp .Eq) gEq:=by
 refine ⟨fun x y H Q=>∃ d e,Is X.K H d x∧Is X.K H e y∧okE 40 d=true∧okE 40 e=true∧Q (.bl (eqD d e)) H,fun pins s σ H x y v u Q I rx ry h=>?_,fun H x y d e Q i1 i2 q R k=>⟨d,e,Is.mono0 H.sub i1,Is.mono0 H.sub i2,q.1,q.2.1,k _ _ H (Le.refl H) (is_bl.mpr rfl) q.2.2⟩⟩
 obtain ⟨d,e,i1,i2,h1,h2,q⟩:=h
 have hu:=hr.units
 exact (cD (n:=39) I (A:=X.A) (by omega) h1 h2 i1 i2 rx ry).1 _ _ _ _ ⟨.bl _,H,I,rfl,q⟩
theorem pL {k:Nat} (hr:Room k X.A):DOp X (compareOp .NotEq) gNe:=by
 refine ⟨fun x y H Q=>∃ d e,Is X.K H d x∧Is X.K H e y∧okE 40 d=true∧okE 40 e=true∧Q (.bl (!eqD d e)) H,fun pins s σ H x y v u Q I rx ry h=>?_,fun H x y d e Q i1 i2 q R k=>⟨d,e,Is.mono0 H.sub i1,Is.mono0 H.sub i2,q.1,q.2.1,k _ _ H (Le.refl H) (is_bl.mpr rfl) q.2.2⟩⟩
 obtain ⟨d,e,i1,i2,h1,h2,q⟩:=h
 have hu:=hr.units
 exact (cD (n:=39) I (A:=X.A) (by omega) h1 h2 i1 i2 rx ry).2 _ _ _ _ ⟨.bl _,H,I,rfl,q⟩
end
end OD
namespace OD
open PySem PySem.Spec PyProof.Rows L2
section
variable {X:Cx} {pins:List (Addr × Obj)} {σ:St} {H:Hp} {s:Shared} {scope:Scope} {x:Str} {fp:List Addr}
end
end OD
namespace OD
variable {Z:Hp}
open PySem PySem.Spec PyProof.Rows L2
section
variable {X:Cx} {pins:List (Addr × Obj)} {σ:St} {H:Hp} {s:Shared} {h':Heap}
theorem cJ {ch:List Addr} (hn:∀ b∈ch,wR X pins H b):∀ b∈ch,(b∈X.ex∨X.s₀.heap.objs.size≤b)∧b≠X.env.locals∧(∀ x c,X.env.cells.lookup x=some c→c≠b)∧∀ p∈X.pn++pins,p.1≠b:=fun b hb=>by
 obtain ⟨_,h2,_,h4,h5,h6⟩:=hn b hb
 exact ⟨h4,h2,h5,h6⟩
theorem tV {ch:List Addr} {t':Nat} (I:Inv X pins σ H s) (hn:∀ b∈ch,wR X pins H b) (k:∀ b o,b∉ch→s.heap.get? b=some o→h'.get? b=some o):Inv X pins σ H { s with heap:=h',toks:=t' }:=by
 have nit:∀ b u,H b=some u→b∉ch:=fun b u e z=>by rw [(hn b z).1] at e; cases e
 refine I.step (g':=s.gens) (d':=s.drawn) (ch:=ch) (cJ hn) (fun b o _ _ hc e _=>k b o hc e) (fun b o _ _ hc e _=>⟨o.slots,k b o hc e⟩) (fun _ _ _ _ n=>n)
  (fun b o hc e=>⟨o,k b o hc e⟩) (fun _ _ e=>e) (fun _ _ _ e=>e) (fun b ps e=>⟨#[],by rw [e]; simp⟩) (fun m hm=>?_) (fun b u e=>?_) I.bare
 ·obtain ⟨o,es,ep,ho,r⟩:=hm
  exact ⟨o,es,ep,k _ o (fun z=>(hn _ z).2.1 rfl) ho,r⟩
 ·refine (I.hok b u e).stay (fun c v hc q=>k c v ?_ q) (fun _ q=>q) fun _ _ q=>q
  rcases hc with z | z
  ·rw [z]; exact nit b u e
  ·exact nit c _ z
theorem uC {ch:List Addr} {t':Nat} {T:Addr} {xs:List V} (I:Inv X pins σ H s) (hn:∀ b∈ch,wR X pins H b) (k:∀ b o,b∉ch→s.heap.get? b=some o→h'.get? b=some o) (hT:s.heap.objs.size≤T)
  (new:ObjOk X.prog X.w (upd H T (.tup xs)) h' T (.tup xs)):Inv X pins σ (upd H T (.tup xs)) { s with heap:=h',toks:=t' }:=by
 have nit:∀ b u,H b=some u→b∉ch:=fun b u e z=>by rw [(hn b z).1] at e; cases e
 have fT:H T=none:=I.hok.fresh hT
 have old:∀ b o,s.heap.get? b=some o→b≠T:=fun b o e=>Nat.ne_of_lt (Nat.lt_of_lt_of_le (Heap.lt_size e) hT)
 have up:∀ b u,H b=some u→upd H T (.tup xs) b=some u:=fun b u e=>(zw (zQ e fT)).trans e
 refine I.step (g':=s.gens) (d':=s.drawn) (ch:=ch) (cJ hn) (fun b o _ _ hc e _=>k b o hc e) (fun b o _ _ hc e _=>⟨o.slots,k b o hc e⟩) (fun b o _ e n=>(zw (old b o e)).trans n)
  (fun b o hc e=>⟨o,k b o hc e⟩) (fun b xs e=>up b _ e) (fun b o u e=>up b _ e) (fun b ps e=>⟨#[],by rw [up b _ e]; simp⟩) (fun m hm=>?_) (fun b u e=>?_) I.bare
 ·obtain ⟨o,es,ep,ho,r⟩:=hm
  exact ⟨o,es,ep,k _ o (fun z=>(hn _ z).2.1 rfl) ho,r⟩
 ·by_cases hb:b=T
  ·subst hb
   rw [zv] at e
   cases e
   exact new
  ·rw [zw hb] at e
   refine (I.hok b u e).stay (fun c v hc q=>k c v ?_ q) (fun c q=>up c _ q) fun c ys q=>up c _ q
   rcases hc with z | z
   ·rw [z]; exact nit b u e
   ·exact nit c _ z
end
def Itz (K:PySem.W.Frag) (l1 l2:Addr):It:=
 ⟨fun i H=>∃ xs ys x y,SqL K H l1 xs∧SqL K H l2 ys∧xs[i]? = some x∧ys[i]? = some y,
  fun i H v H'=>∃ T x y,v=.ref T∧H T=none∧H'=upd H T (.tup [x,y])∧(∀ xs,SqL K H l1 xs→xs[i]? = some x)∧∀ ys,SqL K H l2 ys→ys[i]? = some y,
  fun i H=>∃ xs ys,SqL K H l1 xs∧SqL K H l2 ys∧(xs.length≤i∨ys.length≤i)⟩
def X7 (l1 l2 z TI TO i1 i2:Addr) (i:Nat) (h:Heap):Prop:=IsZip h z TI TO .none∧IsPair h TI (.ref i1) (.ref i2)∧(∃ a b,IsPair h TO a b)∧h.IsListIter i1 l1 i∧h.IsListIter i2 l2 i
theorem kd {P:Program} {w:World} {K:PySem.W.Frag} {elts:List Expr} {x1} {tpos:Pos} (l1 l2 z TI TO i1 i2:Addr) (D:ZipApart z TI TO i1 i2 l1 l2):
  qE P w K (.Tuple elts x1 tpos) (Itz K l1 l2) [z,TI,TO,i1,i2] z (X7 l1 l2 z TI TO i1 i2) where
 mem:=by simp
 obj:=fun i h ⟨h1,h2,⟨a,b,h3⟩,⟨o4,e4,c4,d4⟩,⟨o5,e5,c5,d5⟩⟩ b hb=>by
  simp only [List.mem_cons,List.not_mem_nil,or_false] at hb
  rcases hb with rfl | rfl | rfl | rfl | rfl
  ·exact ⟨_,h1,fun v z=>by cases z⟩
  ·exact ⟨_,h2,fun v z=>by cases z⟩
  ·exact ⟨_,h3,fun v z=>by cases z⟩
  ·exact ⟨_,e4,fun v z=>by rw [d4] at z; cases z⟩
  ·exact ⟨_,e5,fun v z=>by rw [d5] at z; cases z⟩
 keep:=fun i h h' ⟨h1,h2,⟨a,b,h3⟩,⟨o4,e4,c4⟩,⟨o5,e5,c5⟩⟩ k=>
  ⟨k z (by simp) _ h1,k TI (by simp) _ h2,⟨a,b,k TO (by simp) _ h3⟩,⟨o4,k i1 (by simp) _ e4,c4⟩,⟨o5,k i2 (by simp) _ e5,c5⟩⟩
 item:=fun X hP hw hK hc i pins s σ H E I hfp ⟨h1,h2,⟨a,b,h3⟩,h4,h5⟩ ⟨xs,ys,x,y,q1,q2,e1,e2⟩=>by
  subst hP hw hK
  obtain ⟨its1,r1,p1,z1⟩:=I.list q1
  obtain ⟨its2,r2,p2,z2⟩:=I.list q2
  obtain ⟨u,eu,ru⟩:=r1.get e1
  obtain ⟨v,ev,rv⟩:=r2.get e2
  refine wpAny_pyNext_zip_item D h1 h2 h3 h4 h5 p1.isList p2.isList (x:=u) (y:=v) (by simpa using eu) (by simpa using ev) fun h' a1 a2 a3 a4 a5 a6 a7=>?_
  refine ⟨_,rfl,wpAny_letOwnedTupleGo_zip a1 fun h'' b1 b2=>?_⟩
  have ne:∀ b∈[z,TI,TO,i1,i2],b≠s.heap.objs.size:=fun b hb=>by
   simp only [List.mem_cons,List.not_mem_nil,or_false] at hb
   obtain ⟨o4,e4,_⟩:=id h4
   obtain ⟨o5,e5,_⟩:=id h5
   rcases hb with rfl | rfl | rfl | rfl | rfl
   ·exact Nat.ne_of_lt (Heap.lt_size h1)
   ·exact Nat.ne_of_lt (Heap.lt_size h2)
   ·exact Nat.ne_of_lt (Heap.lt_size h3)
   ·exact Nat.ne_of_lt (Heap.lt_size e4)
   ·exact Nat.ne_of_lt (Heap.lt_size e5)
  have zn:z≠s.heap.objs.size:=ne z (by simp)
  have aT:IsPair h'' s.heap.objs.size u v:=b2.extBut _ _ (Ne.symm zn) a5
  have I':Inv X pins σ (upd H s.heap.objs.size (.tup [x,y])) { s with heap:=h'' }:=uC (ch:=[z,TI,TO,i1,i2]) (t':=s.toks) I hfp (fun b o hb e=>by
    simp only [List.mem_cons,List.not_mem_nil,or_false,not_or] at hb
    exact b2.extBut b o hb.1 (a7 b o hb.1 hb.2.2.1 hb.2.2.2.1 hb.2.2.2.2 e)) (Nat.le_refl _) ⟨by show 2≤sizeLine; rw [sizeLine_eq]; decide,[u,v],.cons ru (.cons rv .nil),_,aT,rfl,_,rfl⟩
  refine ⟨.ref s.heap.objs.size,_,I',rfl,⟨_,x,y,rfl,I.fresh,rfl,fun xs' q=>?_,fun ys' q=>?_⟩,⟨b1,b2.extBut _ _ D.TIz (a7 TI _ D.TIz D.TITO D.TIi1 D.TIi2 h2),⟨u,v,b2.extBut _ _ D.TOz a2⟩,a3.extBut b2.extBut D.i1z,a4.extBut b2.extBut D.i2z⟩,fun b hb=>?_⟩
  ·rw [I.list_inj q q1]; exact e1
  ·rw [I.list_inj q q2]; exact e2
  ·exact (zw (ne b hb)).trans (hfp b hb).1
 done:=fun X hP hw hK hc i pins s σ H E I hfp ⟨h1,h2,⟨a,b,h3⟩,h4,h5⟩ ⟨xs,ys,q1,q2,e⟩=>by
  subst hP hw hK
  obtain ⟨its1,r1,p1,z1⟩:=I.list q1
  obtain ⟨its2,r2,p2,z2⟩:=I.list q2
  refine wpAny_pyNext_zip_end (I.ok.hd hc) D h1 h2 h3 h4 h5 p1.isList p2.isList (e.imp (fun e=>?_) fun e=>?_) fun h' hk=>⟨rfl,?_⟩
  ·have:=r1.length
   simp; omega
  ·have:=r2.length
   simp; omega
  ·exact tV (ch:=[z,TI,TO,i1,i2]) (t':=s.toks) I hfp fun b o hb e=>by
    simp only [List.mem_cons,List.not_mem_nil,or_false,not_or] at hb
    exact hk b o hb.1 hb.2.2.1 hb.2.2.2.1 hb.2.2.2.2 e
 self:=fun A i s Q E ⟨h1,_⟩ q=>wpAny_pyIter_zip h1 q
def UZ (K:PySem.W.Frag) (ta:TA):TI:=fun σ H R=>ta σ H fun vs H1=>∃ l1 l2 xs ys,vs=[.ref l1,.ref l2]∧SqL K H1 l1 xs∧SqL K H1 l2 ys∧R (Itz K l1 l2) H1
theorem mL {n l1 l2:Nat} (h1:l1<n) (h2:l2<n):ZipApart (n+4) (n+2) (n+3) n (n+1) l1 l2:=by
 constructor <;> (show (_:Nat)≠_; omega)
theorem iH:bootBuiltins "zip"=some (.type "zip"):=by decide +kernel
section
variable {X:Cx}
theorem bA {a b:Expr} {ta:TA} {p pos:Pos} {elts:List Expr} {x1} {tpos:Pos} (hg:Gl X "zip") (hm:X.mg "zip"=none) (ha:PA X [a,b] ta) (hs:starEach [a,b] X.env=(false,eval a X.env)::starEach [b] X.env:=by rfl)
  (hpl:(backTo pos (starEach [b] X.env)).any (·.1)=false:=by rfl):PI X (.Tuple elts x1 tpos) (.Call (.Name "zip" p) [a,b] [] pos) (UZ X.K ta):=by
 intro pins s σ H R I h
 refine Call_ (xQ I hg hm iH (PyProof.Rows.callWith_type1 (thn (ha pos pins s σ H _ I h) fun us s1 ⟨vs,H1,I1,r1,q1⟩=>?_) hs hpl))
 obtain ⟨l1,l2,xs,ys,e,q1,q2,q⟩:=q1
 subst e
 obtain ⟨u,v,rfl,ru,rv⟩:=r1.two
 cases ru
 cases rv
 obtain ⟨its1,r1,p1,z1⟩:=I1.list q1
 obtain ⟨its2,r2,p2,z2⟩:=I1.list q2
 have lt1:l1<s1.heap.objs.size:=by obtain ⟨o,e,_⟩:=id p1.isList; exact Heap.lt_size e
 have lt2:l2<s1.heap.objs.size:=by obtain ⟨o,e,_⟩:=id p2.isList; exact Heap.lt_size e
 refine call_zip_2 p1.isList p2.isList fun h' b1 b2 b3 b4 b5 b6 b7=>?_
 have I2:Inv X pins σ H1 { s1 with heap:=h' }:=I1.kept (t':=s1.toks) b7
 refine wpAny_pyIter_zip b1 ⟨s1.heap.objs.size+4,[s1.heap.objs.size+4,s1.heap.objs.size+2,s1.heap.objs.size+3,s1.heap.objs.size,s1.heap.objs.size+1],_,_,H1,rfl,I2,
  kd l1 l2 (s1.heap.objs.size+4) (s1.heap.objs.size+2) (s1.heap.objs.size+3) s1.heap.objs.size (s1.heap.objs.size+1) (mL lt1 lt2),
  ⟨b1,b2,⟨_,_,b3⟩,b4,b5⟩,fun b hb=>?_,q⟩
 have hb':s1.heap.objs.size≤b:=by
  simp only [List.mem_cons,List.not_mem_nil,or_false] at hb
  rcases hb with rfl | rfl | rfl | rfl | rfl
  ·exact Nat.le_add_right _ _
  ·exact Nat.le_add_right _ _
  ·exact Nat.le_add_right _ _
  ·exact Nat.le_refl _
  ·exact Nat.le_add_right _ _
 have f:=I1.fpOk hb' (I1.hok.fresh hb')
 exact f
theorem dP {K:PySem.W.Frag} {l1 l2:Addr} {xs ys:List V} {g:TG} {tb:TS} {D:wS} {σ:St} {H:Hp} (Pv:Nat→St→Hp→Prop) (h0:Pv 0 σ H) (hl:∀ i σ H,Pv i σ H→SqL K H l1 xs∧SqL K H l2 ys)
  (hs:∀ i x y T σ H,xs[i]? = some x→ys[i]? = some y→H T=none→Pv i σ H→g (.ref T) σ (upd H T (.tup [x,y])) fun σ2 H2=>tb { D with nx:=Pv (i+1),ct:=Pv (i+1),bk:=D.nx } σ2 H2) (hd:∀ σ H,Pv (min xs.length ys.length) σ H→D.nx σ H):
  ∃ W:Nat→Nat→St→Hp→Prop,(∃ m,W 0 m σ H)∧∀ i m σ H,W i m σ H→
   ((Itz K l1 l2).stop i H∧D.nx σ H)∨((Itz K l1 l2).go i H∧∃ N:St→Hp→Prop,(∀ σ' H',N σ' H'→∃ m',m'<m∧W (i+1) m' σ' H')∧∀ x H',(Itz K l1 l2).yld i H x H'→g x σ H' fun σ2 H2=>tb { D with nx:=N,ct:=N,bk:=D.nx } σ2 H2):=by
 refine ⟨fun i m σ H=>m=min xs.length ys.length - i∧i≤min xs.length ys.length∧Pv i σ H,⟨_,rfl,Nat.zero_le _,h0⟩,?_⟩
 rintro i m σ H ⟨rfl,hi,p⟩
 obtain ⟨q1,q2⟩:=hl i σ H p
 by_cases hlt:i<min xs.length ys.length
 ·have g1:xs[i]? = some xs[i]:=List.getElem?_eq_getElem (by omega)
  have g2:ys[i]? = some ys[i]:=List.getElem?_eq_getElem (by omega)
  refine .inr ⟨⟨xs,ys,xs[i],ys[i],q1,q2,g1,g2⟩,Pv (i+1),fun σ' H' p'=>⟨min xs.length ys.length - (i+1),by omega,rfl,hlt,p'⟩,fun v H' y=>?_⟩
  obtain ⟨T,x,y,rfl,hT,rfl,e1,e2⟩:=y
  exact hs i x y T σ H (e1 xs q1) (e2 ys q2) hT p
 ·have e:i=min xs.length ys.length:=by omega
  subst e
  exact .inl ⟨⟨xs,ys,q1,q2,by omega⟩,hd σ H p⟩
end
section
variable {X:Cx} {fr:Fr} {ta:DTA} {tb:DTS} {pos:Pos}
theorem qg {K:PySem.W.Frag} {W1:Vw} {d:Dt} {v:V} {ds:List Dt} (i1:Is K W1.g d v) (el:y_ d=some ds):∃ a xs,v=.ref a∧(∀ W2:Vw,Same W1.g W2.g→SqL K W2.h a xs)∧AllIs K W1.g ds xs:=by
 cases d with
 | lst es=>
  obtain rfl:es=ds:=Option.some.inj el
  obtain ⟨a,xs,rfl,h1,h2⟩:=is_lst.mp i1
  exact ⟨a,xs,rfl,fun W2 s2=>.of (W2.sub _ _ (s2 _ _ h1)),h2⟩
 | scr ns=>
  obtain rfl:ns.map Dt.int=ds:=Option.some.inj el
  obtain ⟨a,rfl,h1⟩:=is_scr.mp i1
  exact ⟨a,_,rfl,fun W2 s2=>W2.sub.seq (s2.seq h1),AllIs.ints⟩
 | _=>cases el
def Uc (i j:Nat) (ta:DTA) (tb:DTS):DTS:=fun D ρ=>ta ρ fun ds=>∃ (d e:Dt) (xs ys:List Dt) (Pv:Nat→DS→Prop),ds=[d,e]∧y_ d=some xs∧y_ e=some ys∧Pv 0 ρ∧
 (∀ n x y ρ',xs[n]? = some x→ys[n]? = some y→Pv n ρ'→tb { D with nx:=Pv (n+1),ct:=Pv (n+1),bk:=D.nx } ((ρ'.set i (.some x)).set j (.some y)))∧∀ ρ',Pv (min xs.length ys.length) ρ'→D.nx ρ'
theorem nA {i j:Nat} {x y:Str} {a b:Expr} {body:List Stmt} {px py pt p0 pos1:Pos} {kt:Nat} (hc:X.calm=true) (hN:X.N.Nodup) (hi:X.N[i]? = some x) (hj:X.N[j]? = some y) (hx:Loc X.env.scope x) (hy:Loc X.env.scope y) (hp:PassesOwn (model X.prog X.w) X.A X.env X.xe)
  (hg:Gl X "zip") (hm:X.mg "zip"=none) (ha:DA X [a,b] ta) (hb:DSs X fr body tb) (hs:∀ z,foldedSetIterable (.Call (.Name "zip" p0) [a,b] [] pos1) X.env z=pure z:=by intro _; rfl)
  (hst:starEach [a,b] X.env=(false,eval a X.env)::starEach [b] X.env:=by rfl) (hpl:(backTo pos1 (starEach [b] X.env)).any (·.1)=false:=by rfl)
  (hf:X.fn x=true∨X.env.scope.names.lookup x=some .local:=by first | exact .inl rfl | exact .inr rfl | assumption) (hf2:X.fn y=true∨X.env.scope.names.lookup y=some .local:=by first | exact .inl rfl | exact .inr rfl | assumption):
  DSt X fr (.For (.Tuple [.Name x px,.Name y py] kt pt) (.Call (.Name "zip" p0) [a,b] [] pos1) body [] pos) (Uc i j ta tb):=by
 obtain ⟨tt,p,l⟩:=ha
 obtain ⟨tbs,p2,l2⟩:=hb
 refine ⟨_,w_ hp hc (bA hg hm p hst hpl) (kG hc (vo (yq hN hi hx hf) (vo (yq hN hj hy hf2) nS))) p2 hs,fun W0 G ρ σ W D D' at_ s h=>l ρ σ W _ at_.rl h _ fun ds vs W1 s1 i1 ⟨d,e,xs,ys,Pv,ed,el1,el2,h0,ht,hd⟩=>?_⟩
 subst ed
 obtain ⟨v1,v2,rfl,j1,j2⟩:=i1.two
 have hg1:Same G W1.g:=at_.gs.trans s1.g
 obtain ⟨l1,us,rfl,hq1,ha1⟩:=qg j1 el1
 obtain ⟨l2',ws,rfl,hq2,ha2⟩:=qg j2 el2
 refine ⟨l1,l2',us,ws,rfl,hq1 W1 (Same.refl _),hq2 W1 (Same.refl _),dP (K:=X.K) (xs:=us) (ys:=ws) (fun n=>InL X.K (Zx X) W0 W1 (Pv n)) ⟨ρ,W1,rfl,(at_.step s1).now,h0⟩ (fun n σ' H' ⟨_,W2,e2,a2,_⟩=>e2 ▸ ⟨hq1 W2 a2.gs,hq2 W2 a2.gs⟩) ?_ ?_⟩
 ·rintro n u w T σ' _ hu hw hT ⟨ρ',W2,rfl,a2,hp2⟩
  obtain ⟨x',ex,ix⟩:=ha1.get' hu
  obtain ⟨y',ey,iy⟩:=ha2.get' hw
  have s3:=tS hT (.tup [u,w])
  have a3:=a2.step s3
  refine ⟨T,_,rfl,.of zv,rfl,u,[w],rfl,w,[],rfl,rfl,?_⟩
  exact l2 W0 W1.g _ _ (W2.new T (.tup [u,w])) { D with nx:=Pv (n+1),ct:=Pv (n+1),bk:=D.nx } _ ((a3.set i (Is.mono0 a3.gs ix)).set j (Is.mono0 a3.gs iy)) (yF s hg1) (ht n x' y' ρ' ex ey hp2)
 ·rintro σ' _ ⟨ρ',W2,rfl,a2,hp2⟩
  exact s.nx ρ' σ' W2 (a2.weak hg1) (hd ρ' (by rw [ha1.length,ha2.length]; exact hp2))
def jK (K:PySem.W.Frag) (t:DTE):TE:=fun σ H R=>∃ (F:Hp) (ρ:DS) (W:Vw) (Q:Dt→Prop),W.h=H∧Rl K (fun _=>none) F W ρ σ∧t ρ Q∧∀ d v W',Le W W'→Is K W'.g d v→Q d→R v W'.h
theorem DE.up {e:Expr} {t:DTE} (h:DE X e t) (hz:X.stack.length=X.outer.length:=by rfl):PE X e (jK X.K t):=by
 obtain ⟨te,p,l⟩:=h
 intro pins s σ H R I q
 obtain ⟨F,ρ,W,Q,rfl,r,h,k⟩:=q
 have r':Rl X.K (Zx X) F W ρ σ:=by unfold Zx; rw [if_pos (Or.inl hz)]; exact r
 exact p pins s σ W.h R I (l ρ σ W Q r' h R k)
theorem nZ {K:PySem.W.Frag} {t:DTE}:LiE K (fun _=>none) (jK K t) t:=fun ρ σ H Q r h R k=>⟨_,ρ,H,Q,rfl,r,h,k⟩
theorem LiF.le {K:PySem.W.Frag} {te:TE} {t:DTE} (l:LiF K Z te t):LiE K Z te t:=fun ρ σ H Q r h R k=>l ρ σ H Q r h R fun es q xs H' s h0 h1 h2 i z=>k (.lst es) (.ref q) (H'.frz q _ h1) (ui s h0 h1 h2) (is_lst.mpr ⟨q,xs,rfl,zv,AllIs.mono0 (zF h2 _) i⟩) z
variable {scope:Scope} {x:Str} {elt iter:Expr} {px:Pos} {tl te:DTE}
end
end OD
namespace OD
variable {Z:Hp}
open PySem PySem.Spec PyProof.Rows L2
def Ite (K:PySem.W.Frag) (l:Addr):It:=
 ⟨fun i H=>∃ xs x,SqL K H l xs∧xs[i]? = some x,
  fun i H v H'=>∃ T x,v=.ref T∧H T=none∧H'=upd H T (.tup [.int i,x])∧∀ xs,SqL K H l xs→xs[i]? = some x,
  fun i H=>∃ xs,SqL K H l xs∧xs.length≤i⟩
def ba (l e it:Addr) (i:Nat) (h:Heap):Prop:=(∃ old,IsEnum h e it (i:Int) old)∧h.IsListIter it l i
theorem mR {P:Program} {w:World} {K:PySem.W.Frag} {elts:List Expr} {x1} {tpos:Pos} (l e it:Addr) (hne:e≠it):qE P w K (.Tuple elts x1 tpos) (Ite K l) [e,it] e (ba l e it) where
 mem:=by simp
 obj:=fun i h ⟨⟨old,h1⟩,⟨o4,e4,c4,d4⟩⟩ b hb=>by
  simp only [List.mem_cons,List.not_mem_nil,or_false] at hb
  rcases hb with rfl | rfl
  ·exact ⟨_,h1,fun v z=>by cases z⟩
  ·exact ⟨_,e4,fun v z=>by rw [d4] at z; cases z⟩
 keep:=fun i h h' ⟨⟨old,h1⟩,⟨o4,e4,c4⟩⟩ k=>⟨⟨old,k e (by simp) _ h1⟩,⟨o4,k it (by simp) _ e4,c4⟩⟩
 item:=fun X hP hw hK hc i pins s σ H E I hfp ⟨⟨old,h1⟩,h4⟩ ⟨xs,x,q1,e1⟩=>by
  subst hP hw hK
  obtain ⟨its1,r1,p1,z1⟩:=I.list q1
  obtain ⟨u,eu,ru⟩:=r1.get e1
  refine wpAny_pyNext_enum_item h1 h4 p1.isList (x:=u) (by simpa using eu) hne fun h' a1 a2 a3 a4 a5=>?_
  refine ⟨_,rfl,wpAny_letOwnedTupleGo_enum a1 fun h'' b1 b2=>?_⟩
  have ne:∀ b∈[e,it],b≠s.heap.objs.size:=fun b hb=>by
   simp only [List.mem_cons,List.not_mem_nil,or_false] at hb
   obtain ⟨o4,e4,_⟩:=id h4
   rcases hb with rfl | rfl
   ·exact Nat.ne_of_lt (Heap.lt_size h1)
   ·exact Nat.ne_of_lt (Heap.lt_size e4)
  have en:e≠s.heap.objs.size:=ne e (by simp)
  have aT:=b2.extBut _ _ (Ne.symm en) a3
  have I':Inv X pins σ (upd H s.heap.objs.size (.tup [.int i,x])) { s with heap:=h'',toks:=s.toks+1 }:=uC (ch:=[e,it]) (t':=s.toks+1) I hfp (fun b o hb q=>by
    simp only [List.mem_cons,List.not_mem_nil,or_false,not_or] at hb
    exact b2.extBut b o hb.1 (a5 b o hb.1 hb.2 q)) (Nat.le_refl _) ⟨by show 2≤sizeLine; rw [sizeLine_eq]; decide,[.int i s.toks,u],.cons ⟨_,rfl⟩ (.cons ru .nil),_,aT,rfl,_,rfl⟩
  refine ⟨.ref s.heap.objs.size,_,I',rfl,⟨_,x,rfl,I.fresh,rfl,fun xs' q=>?_⟩,⟨⟨u,?_⟩,a2.extBut b2.extBut (Ne.symm hne)⟩,fun b hb=>?_⟩
  ·rw [I.list_inj q q1]; exact e1
  ·have:((i+1:Nat):Int)=(i:Int)+1:=by omega
   show IsEnum h'' e it ((i+1:Nat):Int) u
   rw [this]
   exact b1
  ·exact (zw (ne b hb)).trans (hfp b hb).1
 done:=fun X hP hw hK hc i pins s σ H E I hfp ⟨⟨old,h1⟩,h4⟩ ⟨xs,q1,e1⟩=>by
  subst hP hw hK
  obtain ⟨its1,r1,p1,z1⟩:=I.list q1
  refine wpAny_pyNext_enum_end (I.ok.hd hc) h1 h4 p1.isList ?_ fun h' hk=>⟨rfl,?_⟩
  ·have:=r1.length
   simp; omega
  ·exact tV (ch:=[e,it]) (t':=s.toks) I hfp fun b o hb q=>by
    simp only [List.mem_cons,List.not_mem_nil,or_false,not_or] at hb
    exact hk b o hb.2 q
 self:=fun A i s Q E ⟨⟨old,h1⟩,_⟩ q=>wpAny_pyIter_enum h1 q
def VQ (K:PySem.W.Frag) (ta:TA):TI:=fun σ H R=>ta σ H fun vs H1=>∃ l xs,vs=[.ref l]∧SqL K H1 l xs∧R (Ite K l) H1
section
variable {X:Cx}
theorem lW:bootBuiltins "enumerate"=some (.type "enumerate"):=by decide +kernel
theorem gh {a:Expr} {ta:TA} {p pos:Pos} {elts:List Expr} {x1} {tpos:Pos} (hg:Gl X "enumerate") (hm:X.mg "enumerate"=none) (ha:PA X [a] ta) (hs:starEach [a] X.env=(false,eval a X.env)::starEach [] X.env:=by rfl)
  (hpl:(backTo pos (starEach [] X.env)).any (·.1)=false:=by rfl):PI X (.Tuple elts x1 tpos) (.Call (.Name "enumerate" p) [a] [] pos) (VQ X.K ta):=by
 intro pins s σ H R I h
 refine Call_ (xQ I hg hm lW (PyProof.Rows.callWith_type1 (thn (ha pos pins s σ H _ I h) fun us s1 ⟨vs,H1,I1,r1,q1⟩=>?_) hs hpl))
 obtain ⟨l,xs,e,q1,q⟩:=q1
 subst e
 obtain ⟨u,rfl,ru⟩:=r1.one
 cases ru
 obtain ⟨its1,r1,p1,z1⟩:=I1.list q1
 refine call_enumerate_list p1.isList fun h' b1 b2 b3 b4=>?_
 have I2:Inv X pins σ H1 { s1 with heap:=h' }:=I1.kept (t':=s1.toks) b4
 refine wpAny_pyIter_enum b1 ⟨s1.heap.objs.size+1,[s1.heap.objs.size+1,s1.heap.objs.size],_,_,H1,rfl,I2,mR l (s1.heap.objs.size+1) s1.heap.objs.size (Nat.succ_ne_self _),⟨⟨_,b1⟩,b2⟩,fun b hb=>?_,q⟩
 have hb':s1.heap.objs.size≤b:=by
  simp only [List.mem_cons,List.not_mem_nil,or_false] at hb
  rcases hb with rfl | rfl
  ·exact Nat.le_add_right _ _
  ·exact Nat.le_refl _
 have f:=I1.fpOk hb' (I1.hok.fresh hb')
 exact f
theorem jS {K:PySem.W.Frag} {l:Addr} {xs:List V} {g:TG} {tb:TS} {D:wS} {σ:St} {H:Hp} (Pv:Nat→St→Hp→Prop) (h0:Pv 0 σ H) (hl:∀ i σ H,Pv i σ H→SqL K H l xs)
  (hs:∀ (i:Nat) x T σ H,xs[i]? = some x→H T=none→Pv i σ H→g (.ref T) σ (upd H T (.tup [.int i,x])) fun σ2 H2=>tb { D with nx:=Pv (i+1),ct:=Pv (i+1),bk:=D.nx } σ2 H2) (hd:∀ σ H,Pv xs.length σ H→D.nx σ H):
  ∃ W:Nat→Nat→St→Hp→Prop,(∃ m,W 0 m σ H)∧∀ i m σ H,W i m σ H→
   ((Ite K l).stop i H∧D.nx σ H)∨((Ite K l).go i H∧∃ N:St→Hp→Prop,(∀ σ' H',N σ' H'→∃ m',m'<m∧W (i+1) m' σ' H')∧∀ x H',(Ite K l).yld i H x H'→g x σ H' fun σ2 H2=>tb { D with nx:=N,ct:=N,bk:=D.nx } σ2 H2):=by
 refine ⟨fun i m σ H=>m=xs.length - i∧i≤xs.length∧Pv i σ H,⟨_,rfl,Nat.zero_le _,h0⟩,?_⟩
 rintro i m σ H ⟨rfl,hi,p⟩
 have q1:=hl i σ H p
 by_cases hlt:i<xs.length
 ·have g1:xs[i]? = some xs[i]:=List.getElem?_eq_getElem hlt
  refine .inr ⟨⟨xs,xs[i],q1,g1⟩,Pv (i+1),fun σ' H' p'=>⟨xs.length - (i+1),by omega,rfl,hlt,p'⟩,fun v H' y=>?_⟩
  obtain ⟨T,x,rfl,hT,rfl,e1⟩:=y
  exact hs i x T σ H (e1 xs q1) hT p
 ·have e:i=xs.length:=by omega
  subst e
  exact .inl ⟨⟨xs,q1,Nat.le_refl _⟩,hd σ H p⟩
end
section
variable {X:Cx} {fr:Fr} {ta:DTA} {tb:DTS} {pos p0 p1 p2:Pos}
def Ug (i j:Nat) (ta:DTA) (tb:DTS):DTS:=fun D ρ=>ta ρ fun ds=>∃ (d:Dt) (xs:List Dt) (Pv:Nat→DS→Prop),ds=[d]∧y_ d=some xs∧Pv 0 ρ∧
 (∀ (n:Nat) x ρ',xs[n]? = some x→Pv n ρ'→tb { D with nx:=Pv (n+1),ct:=Pv (n+1),bk:=D.nx } ((ρ'.set i (.some (.int n))).set j (.some x)))∧∀ ρ',Pv xs.length ρ'→D.nx ρ'
theorem uq {i j:Nat} {x y:Str} {a:Expr} {body:List Stmt} {px py pt p0 pos1:Pos} {kt:Nat} (hc:X.calm=true) (hN:X.N.Nodup) (hi:X.N[i]? = some x) (hj:X.N[j]? = some y) (hx:Loc X.env.scope x) (hy:Loc X.env.scope y) (hp:PassesOwn (model X.prog X.w) X.A X.env X.xe)
  (hg:Gl X "enumerate") (hm:X.mg "enumerate"=none) (ha:DA X [a] ta) (hb:DSs X fr body tb) (hs:∀ z,foldedSetIterable (.Call (.Name "enumerate" p0) [a] [] pos1) X.env z=pure z:=by intro _; rfl)
  (hst:starEach [a] X.env=(false,eval a X.env)::starEach [] X.env:=by rfl) (hpl:(backTo pos1 (starEach [] X.env)).any (·.1)=false:=by rfl)
  (hf:X.fn x=true∨X.env.scope.names.lookup x=some .local:=by first | exact .inl rfl | exact .inr rfl | assumption) (hf2:X.fn y=true∨X.env.scope.names.lookup y=some .local:=by first | exact .inl rfl | exact .inr rfl | assumption):
  DSt X fr (.For (.Tuple [.Name x px,.Name y py] kt pt) (.Call (.Name "enumerate" p0) [a] [] pos1) body [] pos) (Ug i j ta tb):=by
 obtain ⟨tt,p,l⟩:=ha
 obtain ⟨tbs,p2,l2⟩:=hb
 refine ⟨_,w_ hp hc (gh hg hm p hst hpl) (kG hc (vo (yq hN hi hx hf) (vo (yq hN hj hy hf2) nS))) p2 hs,fun W0 G ρ σ W D D' at_ s h=>l ρ σ W _ at_.rl h _ fun ds vs W1 s1 i1 ⟨d,xs,Pv,ed,el1,h0,ht,hd⟩=>?_⟩
 subst ed
 obtain ⟨v1,rfl,j1⟩:=i1.one
 have hg1:Same G W1.g:=at_.gs.trans s1.g
 obtain ⟨l1,us,rfl,hq1,ha1⟩:=qg j1 el1
 refine ⟨l1,us,rfl,hq1 W1 (Same.refl _),jS (K:=X.K) (xs:=us) (fun n=>InL X.K (Zx X) W0 W1 (Pv n)) ⟨ρ,W1,rfl,(at_.step s1).now,h0⟩ (fun n σ' H' ⟨_,W2,e2,a2,_⟩=>e2 ▸ hq1 W2 a2.gs) ?_ ?_⟩
 ·rintro n u T σ' _ hu hT ⟨ρ',W2,rfl,a2,hp2⟩
  obtain ⟨x',ex,ix⟩:=ha1.get' hu
  have s3:=tS hT (.tup [.int n,u])
  have a3:=a2.step s3
  refine ⟨T,_,rfl,.of zv,rfl,.int n,[u],rfl,u,[],rfl,rfl,?_⟩
  exact l2 W0 W1.g _ _ (W2.new T (.tup [.int n,u])) { D with nx:=Pv (n+1),ct:=Pv (n+1),bk:=D.nx } _ ((a3.set i (is_int.mpr rfl)).set j (Is.mono0 a3.gs ix)) (yF s hg1) (ht n x' ρ' ex hp2)
 ·rintro σ' _ ⟨ρ',W2,rfl,a2,hp2⟩
  exact s.nx ρ' σ' W2 (a2.weak hg1) (hd ρ' (by rw [ha1.length]; exact hp2))
theorem j8 {j:Nat} {x:Str} {a b:Expr} {body:List Stmt} {px p0 pos1:Pos} (hc:X.calm=true) (hN:X.N.Nodup) (hi:X.N[j]? = some x) (hx:Loc X.env.scope x) (hp:PassesOwn (model X.prog X.w) X.A X.env X.xe)
  (hg:Gl X "range") (hm:X.mg "range"=none) (h:DA X [a,b] ta) (hb:DSs X fr body tb) (hs:∀ x,foldedSetIterable (.Call (.Name "range" p0) [a,b] [] pos1) X.env x=pure x:=by intro _; rfl)
  (hst:starEach [a,b] X.env=[(false,eval a X.env),(false,eval b X.env)]:=by rfl) (hst2:starEach [b] X.env=[(false,eval b X.env)]:=by rfl)
  (hf:X.fn x=true∨X.env.scope.names.lookup x=some .local:=by first | exact .inl rfl | exact .inr rfl | assumption):DSt X fr (.For (.Name x px) (.Call (.Name "range" p0) [a,b] [] pos1) body [] pos) (XU j ta tb):=by
 obtain ⟨tt,p,l⟩:=h
 obtain ⟨tbs,p2,l2⟩:=hb
 refine ⟨_,w_ hp hc (ld hg hm p hst hst2) (yq hN hi hx hf) p2 hs,fun W0 G ρ σ W D D' at_ s h=>l ρ σ W _ at_.rl h _ fun ds vs W1 s1 i1 ⟨m,n,Pv,ed,m1,m2,n1,n2,h0,ht,hd⟩=>?_⟩
 subst ed
 obtain ⟨v1,v2,rfl,j1,j2⟩:=i1.two
 have hg1:Same G W1.g:=at_.gs.trans s1.g
 refine ⟨m,n,by rw [is_int.mp j1,is_int.mp j2],⟨m1,m2,n1,n2⟩,sZ (lo:=m) (n:=(n - m).toNat) (fun i=>InL X.K (Zx X) W0 W1 (Pv i)) ⟨ρ,W1,rfl,(at_.step s1).now,h0⟩ ?_ ?_⟩
 ·rintro i σ' _ hi ⟨ρ',W2,rfl,a2,hp2⟩
  exact l2 W0 W1.g _ _ W2 { D with nx:=Pv (i+1),ct:=Pv (i+1),bk:=D.nx } _ (a2.set j (is_int.mpr rfl)) (yF s hg1) (ht i ρ' hi hp2)
 ·rintro σ' _ ⟨ρ',W2,rfl,a2,hp2⟩
  exact s.nx ρ' σ' W2 (a2.weak hg1) (hd ρ' hp2)
structure uH (K:PySem.W.Frag) (C:Addr):Prop where
 cl:Cls K C
 ha:PySem.W.findIn K (.ref C) "__class__"=some (some (.builtin "object.__class__"))
 hn:PySem.W.specialIn K (.builtin "object.__class__") "__get__"=some (some (.builtin "getset_descriptor.__get__"))
 htk:PySem.W.takesIn K (.builtin "object.__class__")=some true
 hm:PySem.W.mroIn K C (.type "object")=some true
theorem lV:CallR X (.builtin "isinstance") (fun xs H Q=>∃ v D tv b,xs=[v,.ref D]∧vg X.K H v tv∧PySem.W.kitOne X.K tv (.ref D)=some b∧Q (.bl b) H):=by
 intro pins s σ H xs us Q I r h
 obtain ⟨v,D,tv,b,rfl,hty,hk,q⟩:=h
 cases r with
 | cons r1 r2=>
  cases r2 with
  | cons r3 r4=>
   cases r4
   cases r3
   exact sW I r1 hty hk fun tk=>⟨.bl b,H,I.tok _,rfl,q⟩
def V_ (K:PySem.W.Frag) (D:Addr) (ta:DTE):DTE:=fun ρ Q=>ta ρ fun d=>∃ C f n b,d=.way C f n∧uH K C∧PySem.W.kitOne K (.ref C) (.ref D)=some b∧Q (.bl b)
theorem wM {a:Expr} {t:DTE} {y:Str} {p':Pos} {D:Addr} (hm:X.mg "isinstance"=none) (hmc:X.mg y=some (.ref D)) (ha:DE X a t)
  (hg:Gl X "isinstance":=by rfl) (hgc:Gl X y:=by rfl) (hdy:(y == ("__debug__":Str))=false:=by decide)
  (hs:starEach [a,.Name y p'] X.env=(false,eval a X.env)::starEach [.Name y p'] X.env:=by rfl) (hs2:starEach [.Name y p'] X.env=(false,eval (.Name y p') X.env)::starEach [] X.env:=by rfl)
  (hpl:(backTo pos (starEach [.Name y p'] X.env)).any (·.1)=false:=by rfl):
  DE X (.Call (.Name "isinstance" p0) [a,.Name y p'] [] pos) (V_ X.K D t):=by
 obtain ⟨te,p1,l1⟩:=ha
 have pc:PE X (.Name y p') (tC (.ref D)):=nU hgc hmc rfl hdy
 refine ⟨_,y7 lV hg hm boot_isinstance (zE p1 (zE pc z6 hs2) hs) (by decide) (by decide) hs hpl,fun ρ σ H Q r h R k=>l1 ρ σ H _ r h _ fun d v H1 s1 i1 ⟨C,f,n,b,ed,ok,e,q⟩=>?_⟩
 subst ed
 obtain ⟨p,dx,rfl,hp⟩:=is_way.mp i1
 exact ⟨_,D,_,b,rfl,.ins (H1.sub _ _ hp) ok.cl ok.ha ok.hn ok.htk ok.hm,e,k _ _ H1 s1 (is_bl.mpr rfl) q⟩
def h_:V→List V→Hp→VK→Prop:=fun x vs H Q=>∃ l xs y i,x=.ref l∧vs=[.int i,y]∧H l=some (.lst xs)∧0≤i∧i≤xs.length∧xs.length<sizeLine∧Q .non (upd H l (.lst (xs.take i.toNat++y::xs.drop i.toNat)))
theorem lv:MtM X "list.insert" h_:=by
 intro pins s σ H x vs v us Q I rx rv h
 obtain ⟨l,xs,y,i,rfl,rfl,hH,hi0,hi1,hz,q⟩:=h
 cases rx
 obtain ⟨u,w,rfl,⟨t,rfl⟩,rw_⟩:=rv.two
 obtain ⟨z,its,n,r,hl,e⟩:=I.lstM hH
 have hs:(sizeLine:Nat)<2 ^ 63:=wl
 refine call_meets F.slot_list_insert ⟨_,e,rfl⟩ F.entry_list_insert (F.args_list_insert_3 _ _ _) (AutoListH.list_insert_list_int_val_1 l its.toArray n i t w (by
  unfold Builtin.List.listFitsIndex
  simp
  omega) (by rw [List.size_toArray]; omega)) ⟨e,?_⟩
 refine ⟨.non,_,I.lset (its':=its.take i.toNat++w::its.drop i.toNat) hH e ?_ ((r.take _).append (.cons rw_ (r.drop _))) ?_,rfl,q⟩
 ·have h1:¬ i<0:=by omega
  have h2:min i.toNat its.length=i.toNat:=by omega
  dsimp only
  rw [if_neg h1,List.size_toArray,h2]
  apply Array.toList_inj.mp
  simp
  rw [List.take_of_length_le (by rw [List.length_drop]; omega)]
 ·rw [List.length_append,List.length_cons,List.length_take,List.length_drop]
  omega
theorem AllIs.ins {K:PySem.W.Frag} {G:Hp} {ds:List Dt} {xs:List V} {d:Dt} {v:V} (k:Nat) (h:AllIs K G ds xs) (i:Is K G d v):AllIs K G (ds.take k++d::ds.drop k) (xs.take k++v::xs.drop k):=
 (h.take k).append (allIs_cons.mpr ⟨v,_,rfl,i,h.drop k⟩)
def Tj (i:Nat) (ti te:DTE):DTS:=fun D ρ=>∃ ds,ρ[i]? = some (.own ds)∧ti ρ fun z=>te ρ fun d=>∃ n:Int,z=.int n∧0≤n∧n≤ds.length∧ds.length≤100000∧D.nx (ρ.set i (.own (ds.take n.toNat++d::ds.drop n.toNat)))
theorem XD (i:Nat) {x:Str} {k e:Expr} {ti te:DTE} (hk:DE X k ti) (h:DE X e te) (hN:X.N[i]? = some x:=by rfl) (hv:Vis X.env.scope x:=by first | exact Or.inl rfl | exact Or.inr (Or.inl rfl) | exact Or.inr (Or.inr rfl)) (hd:(x == ("__debug__":Str))=false:=by decide)
  (hcd:(x == ("__classdict__":Str))=false:=by decide) (hst:starEach [k,e] X.env=(false,eval k X.env)::starEach [e] X.env:=by rfl) (hst2:starEach [e] X.env=(false,eval e X.env)::starEach [] X.env:=by rfl) (hpl:(backTo p2 (starEach [e] X.env)).any (·.1)=false:=by rfl)
  (hfew:((backTo p2 (starEach [k,e] X.env)).all (fun x=>!x.1) && (backToKw p2 (keywordEach [] X.env)).all (fun x=>x.1.isSome)
   && decide ([k,e].length+([]:List Keyword).length+(if ([]:List Keyword).isEmpty then 0 else 1)<30))=true:=by rfl)
  (hbase:attributeBase (.Name x p0) "insert" X.env (eval (.Name x p0) X.env)=eval (.Name x p0) X.env:=by rfl) (hline:(p1.endLine == p2.line)=true:=by rfl)
  (hs:swapsWith (.Call (.Attribute (.Name x p0) "insert" p1) [k,e] [] p2) none pos.line X.env=pure false:=by rfl):
  DSt X fr (.Expr (.Call (.Attribute (.Name x p0) "insert" p1) [k,e] [] p2) pos) (Tj i ti te):=by
 obtain ⟨tt,p,l⟩:=h
 obtain ⟨tk,pk,lk⟩:=hk
 refine ⟨_,uZ (nV PySem.F.plainAttrs_list PySem.F.slot_list_insert PySem.F.type_list_insert lv (xu hN hv hd hcd) (zE pk (zE p z6 hst2) hst) hbase hfew hline hst hpl) hs,fun W0 G ρ σ W D D' at_ s h=>?_⟩
 obtain ⟨ds,ei,h⟩:=h
 obtain ⟨b,xs,e1,e2,e3,e4,e5⟩:=at_.rl.ow i ds ei
 refine ⟨.ref b,e1,.inl ⟨rfl,xs,.of e2⟩,lk ρ σ W _ at_.rl h _ fun z u W1 s1 i1 q1=>l ρ σ W1 _ (at_.rl.mono s1) q1 _ fun d v W2 s2 i2 ⟨n,ez,n0,n1,hl,q2⟩=>?_⟩
 subst ez
 have s:=s
 have s12:=s1.trans s2
 have a2:=at_.step s12
 have hg2:W2.g b=none:=s12.n b (by rw [e2]; intro z; cases z) e3
 refine ⟨b,xs,v,n,rfl,by rw [is_int.mp i1],s12.h _ _ e2,n0,by rw [← e5.length]; exact n1,by rw [← e5.length]; exact Nat.lt_of_le_of_lt hl (by decide),?_⟩
 exact s.nx _ _ _ (a2.put ei e1 hg2 e4 ((e5.mono s12).ins n.toNat i2)) q2
end
end OD
namespace OD
variable {Z:Hp}
open PySem PySem.Spec PyProof.Rows L2
def Itd (lo:Int) (n:Nat):It:=⟨fun i _=>i<n,fun i H x H'=>H'=H∧x=.int (lo - i),fun i _=>n≤i⟩
theorem mS {P:Program} {w:World} {K:PySem.W.Frag} {tg:Expr} (it:Addr) (lo:Int) (n:Nat):qE P w K tg (Itd lo n) [it] it (fun i h=>IsRangeIter h it (lo+(i:Nat)*(-1)) ((n:Int) - (i:Nat)) (-1)) where
 mem:=by simp
 obj:=fun i h st b hb=>by
  have e:b=it:=by simpa using hb
  subst e
  exact ⟨_,st,fun v z=>by
   have z':Data.fields _=Data.cell v:=z
   cases z'⟩
 keep:=fun i h h' st k=>k it (by simp) _ st
 item:=by
  intro X hP hw hK hc i pins s σ H E I hf st hg
  subst hP hw hK
  obtain ⟨f0,f1,f2,f3,f4,f5⟩:=hf it (by simp)
  have W:=Walks.range (prog:=X.prog) (w:=X.w) (I.ok.hd hc) it lo (-1) n
  refine W.item i s _ _ hg st fun v h' tk hv st' kk=>?_
  obtain ⟨t,rfl⟩:=hv
  have I1:Inv X pins σ H { s with heap:=h',toks:=tk }:=I.turned (fun b o hb e=>kk b o (by simpa using hb) e) f0 f1 f3 f4 f5
  refine ⟨_,rfl,n6 (s:={ s with heap:=h',toks:=tk }) (n:="range_iterator") st' rfl rfl (by decide) ⟨.int (lo - i),H,I1,⟨t,?_⟩,⟨rfl,rfl⟩,st',fun b hb=>(hf b hb).1⟩⟩
  rw [show lo+(i:Int)*(-1)=lo - i by omega]
 done:=by
  intro X hP hw hK hc i pins s σ H E I hf st hg
  subst hP hw hK
  obtain ⟨f0,f1,f2,f3,f4,f5⟩:=hf it (by simp)
  exact wpAny_pyNext_range_end (I.ok.hd hc) st (by have:n≤i:=hg; omega) fun h' eb=>⟨rfl,I.turned (t':=s.toks) (fun b o hb e=>eb b o hb e) f0 f1 f3 f4 f5⟩
 self:=fun _ _ _ _ _ st h=>wpAny_pyIter_rangeiter st h
theorem wj (a b:Int):Builtin.Range.rangeSize a b (-1)=if b<a then a - b else 0:=by
 unfold Builtin.Range.rangeSize
 rw [if_neg (by decide)]
 split
 ·rename_i h
  have:(a - b - 1) / (- -1)=a - b - 1:=by rw [show (- -1:Int)=1 by decide,Int.ediv_one]
  omega
 ·rfl
theorem oB {a b:Int} (ha:-(2 ^ 62)≤a) (ha':a<2 ^ 62) (hb:-(2 ^ 62)≤b) (hb':b<2 ^ 62):Builtin.Range.small a b (-1)=true:=by
 unfold Builtin.Range.small
 rw [wj]
 simp only [Builtin.Range.rangeFitsLong,Bool.and_eq_true,Bool.or_eq_true,decide_eq_true_eq,beq_iff_eq,show ¬ (-1:Int)>0 by decide,if_false]
 split <;> omega
section
variable {X:Cx} {tg:Expr}
def VR (ta:TA):TI:=fun σ H R=>ta σ H fun vs H1=>∃ i j:Int,vs=[.int i,.int j,.int (-1)]∧(-(2 ^ 30)≤i∧i<2 ^ 30∧-(2 ^ 30)≤j∧j<2 ^ 30)∧R (Itd i (i - j).toNat) H1
theorem gi {a b c:Expr} {ta:TA} {p pos:Pos} (hg:Gl X "range") (hm:X.mg "range"=none) (ha:PA X [a,b,c] ta) (hs:starEach [a,b,c] X.env=(false,eval a X.env)::starEach [b,c] X.env:=by rfl)
  (hpl:(backTo pos (starEach [b,c] X.env)).any (·.1)=false:=by rfl):PI X tg (.Call (.Name "range" p) [a,b,c] [] pos) (VR ta):=by
 intro pins s σ H R I h
 refine Call_ (xQ I hg hm boot_range (PyProof.Rows.callWith_type1 (thn (ha pos pins s σ H _ I h) fun us s1 ⟨vs,H1,I1,r1,q1⟩=>?_) hs hpl))
 obtain ⟨i,j,e,⟨q1,q2,q3,q4⟩,q⟩:=q1
 subst e
 cases r1 with
 | cons r rr=>
 cases rr with
 | cons r' rr=>
 cases rr with
 | cons r'' rr=>
  cases rr
  obtain ⟨t,rfl⟩:=r
  obtain ⟨t',rfl⟩:=r'
  obtain ⟨t'',rfl⟩:=r''
  refine call_range_3 (by decide) ?_ (Or.inl (PyProof.noPylong_small (by omega)))
  refine wpAny_pyIter_range (IsRange.new ..) (oB (by omega) (by omega) (by omega) (by omega)) ?_
  have I2:Inv X pins σ H1 { s1 with heap:=s1.heap.push { cls:=.type "range",data:=.fields #[.int i t,.int j t',.int (-1) t''] },toks:=s1.toks }:=I1.kept fun b o e=>Heap.get?_push_of_some _ e
  refine ⟨(s1.heap.push { cls:=.type "range",data:=.fields #[.int i t,.int j t',.int (-1) t''] }).objs.size,[(s1.heap.push { cls:=.type "range",data:=.fields #[.int i t,.int j t',.int (-1) t''] }).objs.size],_,_,H1,rfl,
   I2.kept (t':=s1.toks) fun b o e=>Heap.get?_push_of_some _ e,mS _ i (i - j).toNat,?_,fun b hb=>?_,q⟩
  ·have e1:i+((0:Nat):Int)*(-1)=i:=by simp
   have e2:(((i - j).toNat:Nat):Int) - ((0:Nat):Int)=Builtin.Range.rangeSize i j (-1):=by rw [wj]; split <;> omega
   show IsRangeIter _ _ (i+((0:Nat):Int)*(-1)) ((((i - j).toNat:Nat):Int) - ((0:Nat):Int)) (-1)
   rw [e1,e2]
   exact Heap.get?_push_size _ rfl
  ·have e:b=(s1.heap.push { cls:=.type "range",data:=.fields #[.int i t,.int j t',.int (-1) t''] }).objs.size:=by simpa using hb
   subst e
   exact I2.fpOk (Nat.le_refl _) (I2.hok.fresh (Nat.le_refl _))
theorem jT {lo:Int} {n:Nat} {g:TG} {tb:TS} {D:wS} {σ:St} {H:Hp} (Pv:Nat→St→Hp→Prop) (h0:Pv 0 σ H)
  (hs:∀ i σ H,i<n→Pv i σ H→g (.int (lo - i)) σ H fun σ2 H2=>tb { D with nx:=Pv (i+1),ct:=Pv (i+1),bk:=D.nx } σ2 H2) (hd:∀ σ H,Pv n σ H→D.nx σ H):
  ∃ W:Nat→Nat→St→Hp→Prop,(∃ m,W 0 m σ H)∧∀ i m σ H,W i m σ H→
   ((Itd lo n).stop i H∧D.nx σ H)∨((Itd lo n).go i H∧∃ N:St→Hp→Prop,(∀ σ' H',N σ' H'→∃ m',m'<m∧W (i+1) m' σ' H')∧∀ x H',(Itd lo n).yld i H x H'→g x σ H' fun σ2 H2=>tb { D with nx:=N,ct:=N,bk:=D.nx } σ2 H2):=by
 refine ⟨fun i m σ H=>m=n - i∧i≤n∧Pv i σ H,⟨n,by simp,Nat.zero_le _,h0⟩,?_⟩
 rintro i m σ H ⟨rfl,hi,p⟩
 by_cases hlt:i<n
 ·refine .inr ⟨hlt,Pv (i+1),fun σ' H' p'=>⟨n - (i+1),by omega,rfl,hlt,p'⟩,fun x H' y=>?_⟩
  obtain ⟨e,y⟩:=y
  subst e y
  exact hs i σ _ hlt p
 ·have e:i=n:=by omega
  subst e
  exact .inl ⟨Nat.le_refl _,hd σ H p⟩
variable {fr:Fr} {ta:DTA} {tb:DTS} {te:DTE} {pos p0 p1 p2:Pos}
def Uh (j:Nat) (ta:DTA) (tb:DTS):DTS:=fun D ρ=>ta ρ fun ds=>∃ (m n:Int) (Pv:Nat→DS→Prop),ds=[.int m,.int n,.int (-1)]∧-(2 ^ 30)≤m∧m<2 ^ 30∧-(2 ^ 30)≤n∧n<2 ^ 30∧Pv 0 ρ∧
 (∀ (i:Nat) ρ',i<(m - n).toNat→Pv i ρ'→tb { D with nx:=Pv (i+1),ct:=Pv (i+1),bk:=D.nx } (ρ'.set j (.some (.int (m - i)))))∧∀ ρ',Pv (m - n).toNat ρ'→D.nx ρ'
theorem AllIs.three {K:PySem.W.Frag} {H:Hp} {d e f:Dt} {xs:List V} (h:AllIs K H [d,e,f] xs):∃ v u w,xs=[v,u,w]∧Is K H d v∧Is K H e u∧Is K H f w:=by
 obtain ⟨x,r,rfl,h1,h2⟩:=allIs_cons.mp h
 obtain ⟨u,w,rfl,h3,h4⟩:=h2.two
 exact ⟨x,u,w,rfl,h1,h3,h4⟩
theorem ma {j:Nat} {x:Str} {a b c:Expr} {body:List Stmt} {px p0 pos1:Pos} (hc:X.calm=true) (hN:X.N.Nodup) (hi:X.N[j]? = some x) (hx:Loc X.env.scope x) (hp:PassesOwn (model X.prog X.w) X.A X.env X.xe)
  (hg:Gl X "range") (hm:X.mg "range"=none) (h:DA X [a,b,c] ta) (hb:DSs X fr body tb) (hs:∀ x,foldedSetIterable (.Call (.Name "range" p0) [a,b,c] [] pos1) X.env x=pure x:=by intro _; rfl)
  (hst:starEach [a,b,c] X.env=(false,eval a X.env)::starEach [b,c] X.env:=by rfl) (hpl:(backTo pos1 (starEach [b,c] X.env)).any (·.1)=false:=by rfl)
  (hf:X.fn x=true∨X.env.scope.names.lookup x=some .local:=by first | exact .inl rfl | exact .inr rfl | assumption):DSt X fr (.For (.Name x px) (.Call (.Name "range" p0) [a,b,c] [] pos1) body [] pos) (Uh j ta tb):=by
 obtain ⟨tt,p,l⟩:=h
 obtain ⟨tbs,p2,l2⟩:=hb
 refine ⟨_,w_ hp hc (gi hg hm p hst hpl) (yq hN hi hx hf) p2 hs,fun W0 G ρ σ W D D' at_ s h=>l ρ σ W _ at_.rl h _ fun ds vs W1 s1 i1 ⟨m,n,Pv,ed,m1,m2,n1,n2,h0,ht,hd⟩=>?_⟩
 subst ed
 obtain ⟨v1,v2,v3,rfl,j1,j2,j3⟩:=i1.three
 have hg1:Same G W1.g:=at_.gs.trans s1.g
 refine ⟨m,n,by rw [is_int.mp j1,is_int.mp j2,is_int.mp j3],⟨m1,m2,n1,n2⟩,jT (lo:=m) (n:=(m - n).toNat) (fun i=>InL X.K (Zx X) W0 W1 (Pv i)) ⟨ρ,W1,rfl,(at_.step s1).now,h0⟩ ?_ ?_⟩
 ·rintro i σ' _ hi ⟨ρ',W2,rfl,a2,hp2⟩
  exact l2 W0 W1.g _ _ W2 { D with nx:=Pv (i+1),ct:=Pv (i+1),bk:=D.nx } _ (a2.set j (is_int.mpr rfl)) (yF s hg1) (ht i ρ' hi hp2)
 ·rintro σ' _ ⟨ρ',W2,rfl,a2,hp2⟩
  exact s.nx ρ' σ' W2 (a2.weak hg1) (hd ρ' hp2)
def Tf (ta:DTA):DTE:=fun ρ Q=>ta ρ fun ds=>∃ i j,ds=[.int i,.int j]∧Q (.int (if j>i then j else i))
theorem ip {a b:Expr} (hc:X.calm=true) (hg:Gl X "max") (hm:X.mg "max"=none) (ha:DA X [a,b] ta) (hs:starEach [a,b] X.env=(false,eval a X.env)::starEach [b] X.env:=by rfl) (hpl:(backTo pos (starEach [b] X.env)).any (·.1)=false:=by rfl):
  DE X (.Call (.Name "max" p0) [a,b] [] pos) (Tf ta):=by
 obtain ⟨te,p1,l1⟩:=ha
 refine ⟨_,y7 (lT hc) hg hm (by decide +kernel) p1 (by decide) (by decide) hs hpl,fun ρ σ H Q r h R k=>l1 ρ σ H _ r h _ fun ds vs H1 s1 i1 ⟨i,j,ed,q⟩=>?_⟩
 subst ed
 obtain ⟨v1,v2,rfl,j1,j2⟩:=i1.two
 exact ⟨i,j,by rw [is_int.mp j1,is_int.mp j2],k _ _ H1 s1 (is_int.mpr rfl) q⟩
def jM:Dt→Bool
 | .non=>true
 | _=>false
theorem lB {K:PySem.W.Frag} {H:Hp} {d:Dt} {v:V} (h:Is K H d v):decide (v=.non)=jM d:=by
 cases d with
 | non=>rw [is_non.mp h]; rfl
 | bl b=>rw [is_bl.mp h]; rfl
 | int b=>rw [is_int.mp h]; rfl
 | str b=>rw [is_str.mp h]; rfl
 | tup b=>obtain ⟨a,xs,rfl,_⟩:=is_tup.mp h; rfl
 | lst b=>obtain ⟨a,xs,rfl,_⟩:=is_lst.mp h; rfl
 | scr b=>obtain ⟨a,rfl,_⟩:=is_scr.mp h; rfl
 | way b _ _=>obtain ⟨a,xs,rfl,_⟩:=is_way.mp h; rfl
 | exc b=>obtain ⟨a,rfl,_⟩:=is_exc.mp h; rfl
def cR (ta:DTE):DTE:=fun ρ Q=>ta ρ fun d=>Q (.bl (jM d))
theorem XB {a:Expr} {j pos'} (ha:DE X a te):DT X (.Compare a [.Is] [.Constant .none j pos'] pos) (uE (cR te)):=by
 obtain ⟨t1,p1,l1⟩:=ha
 refine ⟨_,bw (bN p1),qh (te:=We t1) (t:=cR te) fun ρ σ H Q r h R k=>l1 ρ σ H _ r h _ fun d v H1 s1 i1 q=>k (.bl (jM d)) (.bl (decide (v=.non))) H1 s1 (is_bl.mpr (by rw [lB i1])) q⟩
end
end OD
namespace OD
variable {Z:Hp}
open PySem PySem.Spec PyProof.Rows L2
section
variable {X:Cx} {a:Expr} {te:TE} {tl th ts:TO} {lo hi:Option Expr} {st:Expr} {pos p2:Pos} {ta:DTE} {dl dh dt:DTO}
variable {fr:Fr} {tA:DTA} {tb:DTS} {p0 p1:Pos}
def VY (t u:DTS):DTS:=fun D ρ=>∃ P:DS→Prop,t { D with nx:=P } ρ∧∀ ρ',P ρ'→u D ρ'
theorem yg {sst:Stmt} {yk:List Stmt} {t u:DTS} (h1:DSt X fr sst t) (h2:DSs X fr yk u):DSs X fr (sst::yk) (VY t u):=by
 obtain ⟨ts,p1,l1⟩:=h1
 obtain ⟨us,p2,l2⟩:=h2
 refine ⟨_,ph p1 p2,fun W0 G ρ σ W D D' a s h=>?_⟩
 obtain ⟨P,h,k⟩:=h
 exact l1 W0 G ρ σ W { D with nx:=P } { D' with nx:=us D' } a ⟨fun ρ' σ' W' a' q=>l2 W0 G ρ' σ' W' D D' a' s (k ρ' q),s.tl,s.bk,s.ct⟩ h
end
end OD
namespace OD
open PySem PySem.Spec PyProof.Rows L2
section
variable {X:Cx} {ta:DTE} {pos p0:Pos}
end
end OD
namespace OD
variable {Z:Hp}
open PySem PySem.Spec PyProof.Rows L2
section
variable {X:Cx} {K:PySem.W.Frag} {H:Hp}
def gS (f:Str→Str→Dt):Dt→Dt→(Dt→Prop)→Prop:=fun d e Q=>∃ x y,d=.str x∧e=.str y∧Q (f x y)
theorem pY {x y:Str}:decide (V.str x=V.str y)=(x == y):=by
 rw [Bool.eq_iff_iff]
 simp
theorem yt:DOp X (compareOp .Eq) (gS fun x y=>.bl (x == y)):=by
 refine ⟨_,WC,fun H x y d e Q i1 i2 ⟨a,b,ed,ee,q⟩ R k=>?_⟩
 subst ed
 subst ee
 obtain rfl:=is_str.mp i1
 obtain rfl:=is_str.mp i2
 refine ⟨rfl,?_⟩
 rw [pY]
 exact k _ _ H (Le.refl H) (is_bl.mpr rfl) q
theorem WE:DOp X (compareOp .NotEq) (gS fun x y=>.bl (!(x == y))):=by
 refine ⟨_,Wx,fun H x y d e Q i1 i2 ⟨a,b,ed,ee,q⟩ R k=>?_⟩
 subst ed
 subst ee
 obtain rfl:=is_str.mp i1
 obtain rfl:=is_str.mp i2
 refine ⟨rfl,?_⟩
 rw [pY]
 exact k _ _ H (Le.refl H) (is_bl.mpr rfl) q
def u_:List Dt→Option (List Str)
 | []=>some []
 | .str i::r=>(u_ r).map (i::·)
 | _=>none
theorem sk:∀ {ds:List Dt} {ns:List Str} {xs:List V},u_ ds=some ns→AllIs K H ds xs→xs=ns.map V.str
 | [],ns,xs,e,h=>by
  cases e
  exact allIs_nil.mp h
 | d::ds,ns,xs,e,h=>by
  cases d with
  | str i=>
   obtain ⟨ms,e1,e2⟩:=Option.map_eq_some_iff.mp (show (u_ ds).map (i::·)=some ns from e)
   obtain ⟨x,r,rfl,h1,h2⟩:=allIs_cons.mp h
   rw [sk e1 h2,is_str.mp h1,← e2]
   rfl
  | _=>cases e
theorem pR (i:Str):∀ ns:List Str,inV (.str i) (ns.map V.str)=ns.any fun a=>a == i
 | []=>rfl
 | n::ns=>by
  have ih:=pR i ns
  unfold inV at ih ⊢
  rw [List.map_cons,List.any_cons,List.any_cons,ih]
  rfl
theorem s8:∀ ns:List Str,(ns.map V.str).all wn=true
 | []=>rfl
 | n::ns=>by rw [List.map_cons,List.all_cons,s8 ns]; rfl
theorem WG:DOp X (compareOp .In) (fun d e Q=>∃ i ds ns,d=.str i∧qW e=some ds∧u_ ds=some ns∧Q (.bl (ns.any fun a=>a == i))):=by
 refine ⟨_,lj,fun H x y d e Q i1 i2 q R k=>?_⟩
 obtain ⟨i,ds,ns,rfl,e1,e2,q⟩:=q
 obtain ⟨p,xs,rfl,h1,h2⟩:=rD i2 e1
 obtain rfl:=sk e2 h2
 obtain rfl:=is_str.mp i1
 refine ⟨p,_,rfl,h1,rfl,s8 ns,?_⟩
 show R (.bl (inV (.str i) (ns.map V.str))) H.h
 rw [pR]
 exact k _ _ H (Le.refl H) (is_bl.mpr rfl) q
end
section
variable {X:Cx} {fr:Fr} {te:DTE} {tb:DTS} {pos p0 p1 p2:Pos}
end
end OD
namespace OD
variable {Z:Hp}
open PySem PySem.Spec PyProof.Rows L2
def ut (σ:St) (js:List Nat):St:=js.map fun j=>(σ[j]?).getD none
section
variable {X:Cx} {pins:List (Addr × Obj)} {σ:St} {H:Hp} {s:Shared} {scope:Scope} {cl:List (Str × Addr)} {x:Str} {caps:List Str} {js:List Nat} {fp:List Addr}
end
def x6 (cells:List (Str × Addr)) (names:List (Str × NameKind)):List (Str × Addr):=(names.filterMap fun y=>if y.2 == .free then (cells.lookup y.1).map (y.1,·) else none).reverse
theorem tQ {α:Type} {y:Str} {c:α}:∀ {l:List (Str × α)},(y,c)∈l→∃ c',l.lookup y=some c'
 | [],h=>nomatch h
 | (z,d)::r,h=>by
  rw [List.lookup_cons]
  cases q:y == z with
  | true=>exact ⟨d,rfl⟩
  | false=>
   rcases List.mem_cons.mp h with e | e
   ·cases e
    rw [beq_self_eq_true] at q
    cases q
   ·exact tQ e
theorem mem_clOf {cells:List (Str × Addr)} {names:List (Str × NameKind)} {y:Str} {c:Addr}:(y,c)∈x6 cells names↔(y,NameKind.free)∈names∧cells.lookup y=some c:=by
 unfold x6
 rw [List.mem_reverse,List.mem_filterMap]
 constructor
 ·rintro ⟨⟨z,k⟩,hz,e⟩
  split at e
  ·rename_i hk
   obtain rfl:=eq_of_beq hk
   obtain ⟨d,hd,e⟩:=Option.map_eq_some_iff.mp e
   cases e
   exact ⟨hz,hd⟩
  ·cases e
 ·rintro ⟨h1,h2⟩
  exact ⟨(y,.free),h1,by show Option.map _ (List.lookup y cells)=_; rw [h2]; rfl⟩
theorem ci {scope:Scope} {env:Env} (h:∀ y,(y,NameKind.free)∈scope.names→∃ c,env.cells.lookup y=some c):closureFor scope env=pure (x6 env.cells scope.names):=by
 have key:∀ (names:List (Str × NameKind)) (acc:List (Str × Addr)),(∀ y,(y,NameKind.free)∈names→∃ c,env.cells.lookup y=some c)→
   (forIn names acc fun x r=>(if x.2 == NameKind.free then do let c ← cellOf env x.1; pure (ForInStep.yield ((x.1,c)::r)) else pure (ForInStep.yield r):Sem (ForInStep (List (Str × Addr)))))=(pure (x6 env.cells names++acc):Sem (List (Str × Addr))):=by
  intro names
  induction names with
  | nil=>intro acc _; rfl
  | cons a r ih=>
   intro acc ha
   obtain ⟨n,k⟩:=a
   rw [List.forIn_cons]
   cases hk:k == NameKind.free with
   | true=>
    obtain rfl:=eq_of_beq hk
    obtain ⟨c,hc⟩:=ha n List.mem_cons_self
    have e1:cellOf env n=pure c:=by unfold cellOf; rw [hc]
    have e2:x6 env.cells ((n,NameKind.free)::r)=x6 env.cells r++[(n,c)]:=by
     unfold x6
     rw [List.filterMap_cons_some (b:=(n,c)) (by show Option.map _ (List.lookup n env.cells)=_; rw [hc]; rfl),List.reverse_cons]
    show (do let c ← cellOf env n; pure (ForInStep.yield ((n,c)::acc)):Sem _) >>= _=_
    rw [e1,pure_bind,pure_bind,e2,List.append_assoc]
    exact ih ((n,c)::acc) fun y hy=>ha y (List.mem_cons_of_mem _ hy)
   | false=>
    have e2:x6 env.cells ((n,k)::r)=x6 env.cells r:=by
     unfold x6
     rw [List.filterMap_cons_none (by show (if (k == NameKind.free)=true then _ else none)=none; rw [hk]; rfl)]
    show (pure (ForInStep.yield acc):Sem _) >>= _=_
    rw [pure_bind,e2]
    exact ih acc fun y hy=>ha y (List.mem_cons_of_mem _ hy)
 have:=key scope.names [] h
 rw [List.append_nil] at this
 unfold closureFor
 rw [← this]
 exact (bind_pure _).trans rfl
theorem yN {env:Env} (hk:env.scope.kind=.function):∀ {names:List (Str × NameKind)} {x:Str},names.lookup x=some .free→env.scope.names.lookup x=some .cell→
  (names.map fun (n,k)=>if (k == NameKind.free && env.scope.kind == .function && env.kindOf n == some .cell) then (n,NameKind.cell) else (n,k)).lookup x=some .cell
 | [],_,h,_=>by simp at h
 | (n,k)::r,x,h,he=>by
  have ih:=@yN env hk r x
  show List.lookup x ((if (k == NameKind.free && env.scope.kind == .function && env.kindOf n == some .cell)=true then (n,NameKind.cell) else (n,k))::_)=_
  cases hx:x == n with
  | true=>
   obtain rfl:=eq_of_beq hx
   simp only [List.lookup_cons,hx] at h
   cases h
   have e:env.kindOf x=some .cell:=he
   rw [hk,e]
   simp [List.lookup_cons]
  | false=>
   simp only [List.lookup_cons,hx] at h
   by_cases hc:(k == NameKind.free && env.scope.kind == .function && env.kindOf n == some .cell)=true
   ·rw [if_pos hc]; simp only [List.lookup_cons,hx]; exact ih h he
   ·rw [if_neg hc]; simp only [List.lookup_cons,hx]; exact ih h he
def uu (ρ:DS) (js:List Nat):DS:=js.map fun j=>match (ρ[j]?:Option Sl) with
 | Option.some (Sl.some d)=>Sl.some d
 | _=>Sl.none
def iz (js:List Nat) (ta te:DTE):DTE:=fun ρ Q=>ta ρ fun d=>∃ (m:Int) (Pv:Nat→List Dt→Prop),d=.int m∧-(2 ^ 62)≤m∧m≤100000∧Pv 0 []∧
 (∀ (i:Nat) es,i<m.toNat→Pv i es→te (.some (.int i)::uu ρ js) fun y=>Pv (i+1) (es++[y]))∧∀ es,Pv m.toNat es→Q (.lst es)
def VM (t:TE):TI:=fun σ H R=>t σ H fun v H1=>∃ j:Int,v=.int j∧-(2 ^ 62)≤j∧j<2 ^ 62∧R (Itr 0 j.toNat) H1
section
variable {X:Cx} {fr:Fr} {osc scope:Scope} {x:Str} {caps:List Str} {js:List Nat} {N0:List Str} {L:Addr} {a elt:Expr} {ta te:DTE} {px p0 pos pos1:Pos}
theorem la {t:TE} {tg:Expr} (hg:Gl X "range") (hm:X.mg "range"=none) (p:PE X a t) (hst:starEach [a] X.env=[(false,eval a X.env)]) (hst2:starEach [a] X.env=(false,eval a X.env)::starEach [] X.env):PI X tg (.Call (.Name "range" p0) [a] [] pos1) (VM t):=by
 intro pins s σ H R I h
 refine sT hg hm (zE p z6 hst2) hst pins s σ H R I ?_
 refine (?_:t σ H fun v H1=>∃ j:Int,[v]=[V.int j]∧-(2 ^ 62)≤j∧j<2 ^ 62∧R (Itr 0 j.toNat) H1)
 have e:(fun (v:V) (H1:Hp)=>∃ j:Int,v=V.int j∧-(2 ^ 62)≤j∧j<2 ^ 62∧R (Itr 0 j.toNat) H1)=fun v H1=>∃ j:Int,[v]=[V.int j]∧-(2 ^ 62)≤j∧j<2 ^ 62∧R (Itr 0 j.toNat) H1:=by
  funext v H1
  refine propext ⟨fun ⟨j,q,z⟩=>⟨j,by rw [q],z⟩,fun ⟨j,q,z⟩=>⟨j,(List.cons.inj q).1,z⟩⟩
 rw [← e]
 exact h
end
section
variable {X:Cx} {a:Expr} {p0 pos:Pos}
theorem rb:bootBuiltins "int"=some (.type "int"):=by decide +kernel
def Wf (ta:TA):TE:=fun σ H Q=>ta σ H fun vs H1=>∃ b:Bool,vs=[.bl b]∧Q (.int (if b then 1 else 0)) H1
theorem gk {ta:TA} (hg:Gl X "int") (hm:X.mg "int"=none) (ha:PA X [a] ta) (hs:starEach [a] X.env=(false,eval a X.env)::starEach [] X.env:=by rfl) (hpl:(backTo pos (starEach [] X.env)).any (·.1)=false:=by rfl):
  PE X (.Call (.Name "int" p0) [a] [] pos) (Wf ta):=by
 intro pins s σ H Q I h
 refine Call_ (xQ I hg hm rb (PyProof.Rows.callWith_type1 (thn (ha pos pins s σ H _ I h) fun us s1 ⟨vs,H1,I1,r1,q1⟩=>?_) hs hpl))
 obtain ⟨b,e,q⟩:=q1
 subst e
 obtain ⟨u,rfl,ru⟩:=r1.one
 cases ru
 exact call_int_bool ⟨.int _,H1,I1.tok _,⟨_,rfl⟩,q⟩
def Ub (ta:DTE):DTE:=fun ρ Q=>ta ρ fun d=>∃ b:Bool,d=.bl b∧Q (.int (if b then 1 else 0))
theorem qw {ta:DTE} (hg:Gl X "int") (hm:X.mg "int"=none) (ha:DE X a ta) (hs:starEach [a] X.env=(false,eval a X.env)::starEach [] X.env:=by rfl) (hpl:(backTo pos (starEach [] X.env)).any (·.1)=false:=by rfl):
  DE X (.Call (.Name "int" p0) [a] [] pos) (Ub ta):=by
 obtain ⟨te,p1,l1⟩:=ha
 refine ⟨_,gk hg hm (zE p1 z6 hs) hs hpl,fun ρ σ H Q r h R k=>l1 ρ σ H _ r h _ fun d v H1 s1 i1 ⟨b,ed,q⟩=>?_⟩
 subst ed
 exact ⟨b,by rw [is_bl.mp i1],k _ _ H1 s1 (is_int.mpr rfl) q⟩
end
end OD
namespace OD
variable {Z:Hp}
open PySem PySem.Spec PyProof.Rows L2
def mm (js:List Nat) (ta te:DTE):DTE:=fun ρ Q=>ta ρ fun d=>∃ (ds:List Dt) (Pv:Nat→List Dt→Prop),y_ d=some ds∧ds.length≤100000∧Pv 0 []∧
 (∀ (i:Nat) e es,ds[i]? = some e→Pv i es→te (.some e::uu ρ js) fun y=>Pv (i+1) (es++[y]))∧∀ es,Pv ds.length es→Q (.lst es)
section
variable {X:Cx} {fr:Fr} {osc scope:Scope} {x:Str} {caps:List Str} {js:List Nat} {N0:List Str} {L:Addr} {iter elt:Expr} {ta te:DTE} {px pos:Pos}
end
end OD
namespace L2
open PySem PySem.Spec PyProof.Rows
section
variable {P:Program} {w:World} {H H':Hp} {h B:Heap}
theorem HOk.part (x:HOk P w H h) (k:∀ b u,H b≠none→h.get? b=some u→B.get? b=some u):HOk P w H B:=fun a o e=>
 (x a o e).stay (fun b u hb q=>k b u (fun z=>by rcases hb with rfl | y; (rw [e] at z; cases z); (rw [y] at z; cases z)) q) (fun _ q=>q) fun _ _ q=>q
theorem ObjOk.there {a:Addr} {o:HO} (x:ObjOk P w H h a o):∃ u,h.get? a=some u:=by
 cases o with
 | lst xs=>obtain ⟨_,_,_,_,e⟩:=x; exact ⟨_,e⟩
 | tup xs=>obtain ⟨_,_,_,o,e,_⟩:=x; exact ⟨_,e⟩
 | dK kvs=>obtain ⟨_,_,_,_,o,_,_,e,_⟩:=x; exact ⟨_,e⟩
 | dT kvs=>obtain ⟨_,_,_,_,o,_,_,e,_⟩:=x; exact ⟨_,e⟩
 | set S n=>obtain ⟨o,_,_,_,e,_⟩:=x; exact ⟨_,e⟩
 | ins C dx fs=>obtain ⟨_,_,_,e,_⟩:=x; exact ⟨_,e⟩
 | own y=>exact x
 | xd fs=>obtain ⟨_,⟨_,_,_,e,_⟩,_⟩:=x; exact ⟨_,e⟩
 | rng lo hi=>obtain ⟨_,_,_,e⟩:=x; exact ⟨_,e⟩
 | frz ob u=>obtain ⟨e,_⟩:=x; exact ⟨_,e⟩
 | tbl ps=>exact ⟨_,(show h.get? a=some _ from x)⟩
 | met f y=>exact ⟨_,(show h.get? a=some _ from x)⟩
 | ext φ=>obtain ⟨_,e,_⟩:=x; exact e
end
structure Flies (P:Program) (w:World) (stack:List Env) (H:Hp) (h0:Heap) (H':Hp) (e:Addr) (cls:Value) (h:Heap):Prop where
 ex:∃ B a0,Heap.FlyingW B stack e cls a0 h∧(∀ b o,h0.get? b=some o→H b=none→b∉frs stack→B.get? b=some o)∧(∀ b o,h0.get? b=some o→b∉frs stack→∃ o',B.get? b=some o')∧HOk P w H' B
 slot:∀ b o,h0.get? b=some o→b∈frs stack→∃ sl,h.get? b=some { o with slots:=sl }
 free:∀ b o,h0.get? b=some o→H b=none→H' b=none
 tups:∀ b xs,H b=some (.tup xs)→H' b=some (.tup xs)
 frzs:∀ b o u,H b=some (.frz o u)→H' b=some (.frz o u)
 tbls:∀ b ps,H b=some (.tbl ps)→∃ more,H' b=some (.tbl (ps++more))
 new:h0.get? e=none
section
variable {P:Program} {w:World} {stack:List Env} {H H':Hp} {h0 h:Heap} {e:Addr} {cls:Value}
theorem Flies.un (f:Flies P w stack H h0 H' e cls h):Un (frs stack) [] H H' h0 h:=by
 obtain ⟨B,a0,⟨st,_,_,_⟩,k1,k2,_⟩:=f.ex
 refine ⟨fun b o q n hb _=>st b o (k1 b o q n hb),fun b o q _ hb _=>f.slot b o q hb,fun b o q n _=>f.free b o q n,fun b o q _=>?_,f.tups,f.frzs,f.tbls⟩
 by_cases hb:b∈frs stack
 ·obtain ⟨sl,z⟩:=f.slot b o q hb
  exact ⟨_,z⟩
 ·obtain ⟨o',z⟩:=k2 b o q hb
  exact ⟨o',st b o' z⟩
theorem Flies.hok (f:Flies P w stack H h0 H' e cls h):HOk P w H' h:=by
 obtain ⟨B,a0,⟨st,_,_,_⟩,_,_,k3⟩:=f.ex
 exact k3.kept st
theorem Flies.go (f:Flies P w stack H h0 H' e cls h):∃ B a0,Heap.FlyingW B stack e cls a0 h∧∀ h',Heap.FlyingW B stack e cls a0 h'→h.UpToSlots h'→Flies P w stack H h0 H' e cls h':=by
 obtain ⟨B,a0,fl,k1,k2,k3⟩:=f.ex
 refine ⟨B,a0,fl,fun h' fl' up=>⟨⟨B,a0,fl',k1,k2,k3⟩,fun b o q hb=>?_,f.free,f.tups,f.frzs,f.tbls,f.new⟩⟩
 obtain ⟨sl,z⟩:=f.slot b o q hb
 obtain ⟨_,ob,ho,hd⟩:=fl.2.2.1.mem hb
 rw [z] at ho
 cases ho
 obtain ⟨sl',z'⟩:=up b _ z hd
 exact ⟨sl',z'⟩
end
section
variable {X:Cx} {pins:List (Addr × Obj)} {σ:St} {H H':Hp} {s s':Shared} {M:Model} {E:Value→Shared→Prop} {e:Addr} {cls:Value}
theorem Inv.neL (I:Inv X pins σ H s) {b:Addr} {o:Obj} (q:X.s₀.heap.get? b=some o):b≠X.env.locals:=Nat.ne_of_lt (Nat.lt_of_lt_of_le (Heap.lt_size q) I.ok.above)
theorem jU {vs:List Value} {h1:Heap} {Q:Unit→Shared→Prop} (I:Inv X pins σ H s) (hstk:X.stack=X.env::X.outer) (hf:X.env.frame=some X.env.locals) (hex:X.ex=[]) (hx:Heap.MadeExcOf s.heap h1 e cls vs)
  (hQ:∀ h',Flies X.prog X.w X.outer X.H₀ X.s₀.heap H e cls h'→Q () { s with heap:=h' }):wpAny M X.A (leaving X.env (.ref e)) Q E { s with heap:=h1 }:=by
 have hfr:X.A.frames=some (X.env::X.outer):=by rw [← hstk]; exact I.ok.frames
 have hfs:frs X.stack=X.env.locals::frs X.outer:=by rw [hstk]; unfold frs; rw [List.filterMap_cons,hf]
 have hl:s.heap.FunFrames (PySem.W.hideAll s.heap (frs X.stack)) (X.env::X.outer):=by
  have z:=I.stack
  rw [hstk] at z
  refine PySem.W.funFrames_hide z fun env he a ha=>?_
  rw [hstk]
  exact List.mem_filterMap.mpr ⟨env,he,ha⟩
 have nx:∀ b,b∉X.ex:=fun b z=>by rw [hex] at z; cases z
 have nst:∀ b o,X.s₀.heap.get? b=some o→b∉frs X.outer→b∉frs X.stack:=fun b o q nb z=>by
  rw [hfs] at z
  rcases List.mem_cons.mp z with z | z
  ·exact I.neL q z
  ·exact nb z
 refine PySem.wpAny_leaves_madeW (s:={ s with heap:=h1 }) (h:=s.heap) (base:=PySem.W.hideAll s.heap (frs X.stack)) hfr hf (fun b o q=>PySem.W.of_hideAll _ q) hl hx fun h' t x1 x2 x3 x4=>hQ h' ⟨⟨_,_,x1,fun b o q n nb=>?_,fun b o q nb=>?_,?_⟩,fun b o q hb=>?_,fun b o q n=>I.base.free b o q n (nx b),I.base.tups,I.base.frzs,I.base.tbls,?_⟩
 ·exact PySem.W.hideAll_get _ (I.base.keep b o q n nb (nx b)) (nst b o q nb)
 ·obtain ⟨o',z⟩:=I.base.there b o q (nx b)
  exact ⟨o',PySem.W.hideAll_get _ z (nst b o q nb)⟩
 ·exact I.hok.part fun b u hb q=>PySem.W.hideAll_get _ q fun z=>hb (I.stkFree b z)
 ·obtain ⟨sl,z⟩:=I.base.slot b o q (I.ok.frf b hb) hb (nx b)
  obtain ⟨_,ob,ho,hd⟩:=I.funs.mem hb
  rw [z] at ho
  cases ho
  obtain ⟨sl',z'⟩:=x4 b _ (hx.keeps b _ z) hd
  exact ⟨sl',z'⟩
 ·cases q:X.s₀.heap.get? e with
  | none=>rfl
  | some o=>
   obtain ⟨o',z⟩:=I.base.there e o q (nx e)
   rw [hx.new] at z; cases z
theorem Xw {Q:Unit→Shared→Prop} (I:Inv X pins σ H s) (hstk:X.stack=X.env::X.outer) (hf:X.env.frame=some X.env.locals) (hex:X.ex=[]) (f:Flies X.prog X.w X.stack H s.heap H' e cls s'.heap)
  (hQ:∀ h',Flies X.prog X.w X.outer X.H₀ X.s₀.heap H' e cls h'→Q () { s' with heap:=h' }):wpAny M X.A (leaving X.env (.ref e)) Q E s':=by
 have hfr:X.A.frames=some (X.env::X.outer):=by rw [← hstk]; exact I.ok.frames
 have hfs:frs X.stack=X.env.locals::frs X.outer:=by rw [hstk]; unfold frs; rw [List.filterMap_cons,hf]
 have nx:∀ b,b∉X.ex:=fun b z=>by rw [hex] at z; cases z
 have nst:∀ b o,X.s₀.heap.get? b=some o→b∉frs X.outer→b∉frs X.stack:=fun b o q nb z=>by
  rw [hfs] at z
  rcases List.mem_cons.mp z with z | z
  ·exact I.neL q z
  ·exact nb z
 obtain ⟨B,a0,fl,k1,k2,k3⟩:=f.ex
 have fl':=fl
 rw [hstk] at fl'
 refine PySem.wpAny_leaves_onW hfr hf fl' fun h' x1 x2=>hQ h' ⟨⟨B,a0,x1,fun b o q n nb=>?_,fun b o q nb=>?_,k3⟩,fun b o q hb=>?_,fun b o q n=>?_,fun b xs q=>f.tups b xs (I.base.tups b xs q),fun b o u q=>f.frzs b o u (I.base.frzs b o u q),fun b ps q=>?_,?_⟩
 ·exact k1 b o (I.base.keep b o q n nb (nx b)) (I.base.free b o q n (nx b)) (nst b o q nb)
 ·obtain ⟨o',z⟩:=I.base.there b o q (nx b)
  exact k2 b o' z (nst b o q nb)
 ·obtain ⟨sl,z⟩:=I.base.slot b o q (I.ok.frf b hb) hb (nx b)
  have hb':b∈frs X.stack:=by rw [hfs]; exact List.mem_cons_of_mem _ hb
  obtain ⟨sl',z'⟩:=f.slot b _ z hb'
  obtain ⟨_,ob,ho,hd⟩:=fl.2.2.1.mem hb'
  rw [z'] at ho
  cases ho
  obtain ⟨sl2,z2⟩:=x2 b _ z' hd
  exact ⟨sl2,z2⟩
 ·obtain ⟨o',z⟩:=I.base.there b o q (nx b)
  exact f.free b o' z (I.base.free b o q n (nx b))
 ·obtain ⟨m1,e1⟩:=I.base.tbls b ps q
  obtain ⟨m2,e2⟩:=f.tbls b _ e1
  exact ⟨m1++m2,by rw [e2,Array.append_assoc]⟩
 ·cases q:X.s₀.heap.get? e with
  | none=>rfl
  | some o=>
   obtain ⟨o',z⟩:=I.base.there e o q (nx e)
   rw [f.new] at z; cases z
end
def ExcK (K:PySem.W.Frag) (C:Addr):Prop:=PySem.W.excIn K C [.type "ValueError",.type "Exception",.type "BaseException",.type "object"] "ValueError.__new__"=true
theorem dW {K:PySem.W.Frag} {h:Heap} {C:Addr} (X:K.In h) (q:ExcK K C):∃ bm N nm qn bs hdct sn sub ab col dd k0 k1 k2 k3 k5 mN,h.get? C=some (excClassObj nm qn C N bs bm hdct sn sub ab col dd k0 k1 k2 k3 k5 "ValueError.__new__")∧h.Ns N mN∧mN "__init__"=none∧OwnTail h [.type "ValueError",.type "Exception",.type "BaseException",.type "object"] bm:=by
 unfold ExcK PySem.W.excIn at q
 split at q
 ·rename_i d1 cl s1 look
  split at q
  ·rename_i C1 tl w0 w1 w2 w3 nid w5 em es
   simp only [Bool.and_eq_true,Bool.not_eq_true',beq_iff_eq] at q
   obtain ⟨⟨⟨⟨⟨rfl,rfl⟩,q1⟩,q2⟩,q3⟩,q4⟩:=q
   obtain ⟨a1,a2,a3,a4,a5,a6,a7,a8,a9,b1,b2⟩:=cl
   dsimp only at em q1 q3 q4
   subst em q1
   obtain rfl:s1=#[w0,w1,w2,w3,some (.builtin "ValueError.__new__"),w5]:=by
    obtain ⟨l⟩:=s1
    simp only at es; rw [es]
   exact ⟨tl,a4,a1,a5,a2,a6,a7,a8,a9,b1,d1,w0,w1,w2,w3,w5,_,X _ _ look,.of_isNs (PySem.W.isNs_of_in X q3),PySem.W.nsMap_none_of_in X q3 q4,PySem.W.tail_of_in X q2⟩
  ·cases q
 ·cases q
def XOk (X:Cx) (C:Addr) (H:Hp):Prop:=∀ (pins:List (Addr × Obj)) (σ:St) (s:Shared) (h1:Heap) (e:Addr) (vs:List Value),Inv X pins σ H s→Heap.MadeExcOf s.heap h1 e (.ref C) vs→X.xe (.ref e) { s with heap:=h1 }
def bj (X:Cx) (C:Addr) (te:TE):TS:=fun _ σ H=>te σ H fun _ H1=>XOk X C H1
theorem kE {X:Cx} {C:Addr} {x:Str} {a:Expr} {te:TE} {np cpos pos:Pos} (hc:X.calm=true) (hg:Gl X x) (hm:X.mg x=some (.ref C)) (hC:ExcK X.K C) (ha:PE X a te)
  (hdb:(x == ("__debug__":Str))=false:=by decide) (he:starEach [a] X.env=(false,eval a X.env)::starEach [] X.env:=by rfl):PS X (.Raise (some (.Call (.Name x np) [a] [] cpos)) none pos) (bj X C te):=by
 intro pins s σ H D I h
 obtain ⟨bm,N,nm,qn,bs,hdct,sn,sub,ab,col,dd,k0,k1,k2,k3,k5,mN,hO,hN,hni,T⟩:=dW I.ok.mod.kin hC
 refine PySem.wpAny_Raise_call_subU (C:=C) (nm:=nm) (q:=qn) (N:=N) (bs:=bs) (bm:=bm) (hdct:=hdct) (sn:=sn) (sub:=sub) (ab:=ab) (col:=col) (dd:=dd) (k0:=k0) (k1:=k1) (k2:=k2) (k3:=k3) (k5:=k5)
  PySem.F.excBase_ValueError (by decide) PySem.F.excBase_ValueError (mN:=mN) (T.hasType PySem.F.excBase_ValueError.hasBase) (I.ok.hd hc) (by rw [he]; rfl) hni (u5 I hg hm ⟨rfl,?_⟩ hdb)
 have z:=zE ha z6 he cpos pins s σ H (fun us H1=>us.length=1∧XOk X C H1) I (show te σ H (fun x H1=>[x].length=1∧XOk X C H1) from by
  have h:te σ H (fun _ H1=>XOk X C H1):=h
  simpa using h)
 rw [he] at z ⊢
 refine Calls.evalArgs_plain (thn z fun vs s1 ⟨us,H1,I1,r,hl,q⟩=>⟨rfl,?_,I1.bk _ _ hO,hN.keeps I1.bk,T.keeps I1.bk,fun h' e hx=>q pins σ s1 h' e vs I1 hx⟩)
 show vs.length≤_
 rw [← r.length,hl]
 decide
def CX1 (P:Program) (w:World):CXT:=fun outer H s E e s'=>∃ a C H',e=.ref a∧s'.os=s.os∧AllBare s'.gens∧Flies P w outer H s.heap H' a (.ref C) s'.heap∧E (.ref C) none H'
section
variable {P:Program} {w:World} {K:PySem.W.Frag} {mg:Str→Option Value} {base:Heap} {N:List Str} {qual:Str} {scope:Scope} {f C:Addr} {cd:Value} {A:Around} {outer:List Env} {s:Shared} {H H1:Hp} {E:XK}
theorem c3 (h:E (.ref C) none H1):XOk (yV (CX1 P w) P w K mg base N qual scope f cd A outer s H E) C H1:=fun pins σ s' h1 e vs I hx=>
 jU (X:=yV (CX1 P w) P w K mg base N qual scope f cd A outer s H E) I rfl rfl rfl hx fun h' fl=>⟨e,C,H1,rfl,I.os,I.bare,fl,h⟩
end
section
variable {X:Cx} {CX:CXT} {k:Nat} {f C:Addr} {fd:FuncData} {ps:List Str} {sp:Sp} {dvs:List V} {ds:List Value} {x y:Str} {p pos:Pos} {e:Expr} {es:List Expr} {t:TA}
end
abbrev TB:=(St→Hp→Prop)→XK→St→Hp→Prop
section
variable {X:Cx} {pins:List (Addr × Obj)} {σ:St} {H:Hp} {s:Shared} {a:Addr}
end
section
variable {X:Cx} {t:TB} {th:TS} {y:Str} {c:Value} {py hpos pos:Pos} {body:List Stmt} {b₀:Stmt} {suite:List Stmt}
end
section
variable {X:Cx} {pins:List (Addr × Obj)} {σ:St} {H:Hp} {s:Shared}
end
section
variable {X:Cx} {t:TB} {th:TS} {y n:Str} {j:Nat} {c:Value} {py hpos pos:Pos} {body:List Stmt} {b₀:Stmt} {suite:List Stmt}
end
end L2
namespace L2
open PySem PySem.Spec PyProof.Rows PySem.W PySem.Builtin PySem.Builtin.ObjectAttr PySem.Builtin.Getset_descriptor
structure cY (K:PySem.W.Frag) (C:Addr):Prop where
 ga:PySem.W.findIn K (.ref C) "__getattribute__"=some (some (.builtin "BaseException.__getattribute__"))
 gn:PySem.W.findIn K (.ref C) "__getattr__"=some none
 ha:PySem.W.findIn K (.ref C) "__class__"=some (some (.builtin "object.__class__"))
 hn:PySem.W.specialIn K (.builtin "object.__class__") "__get__"=some (some (.builtin "getset_descriptor.__get__"))
 htk:PySem.W.takesIn K (.builtin "object.__class__")=some true
 hm:PySem.W.mroIn K C (.type "object")=some true
 hb:PySem.W.mroIn K C (.type "BaseException")=some true
section
variable {prog:Program} {w:World} {A:Around} {E:Value→Shared→Prop} {s:Shared} {K:PySem.W.Frag} {a C:Addr} {oa:Obj}
end
end L2
namespace OD
open PySem PySem.Spec PyProof.Rows L2
variable {Z:Hp}
def XOn (X:Cx) (C:Addr) (H':Hp):Prop:=∀ (pins:List (Addr × Obj)) (σ:L2.St) (H:Hp) (s:Shared) (a:Addr) (s':Shared),Inv X pins σ H s→s'.os=s.os→AllBare s'.gens→Flies X.prog X.w X.stack H s.heap H' a (.ref C) s'.heap→X.xe (.ref a) s'
def Tt (X:Cx):XK:=fun cls _ H'=>∃ C,cls=.ref C∧XOn X C H'
theorem kK {X:Cx}:uw (CX1 X.prog X.w) X (Tt X):=fun pins σ H s e s' I ⟨a,C,H',ee,os,bare,fl,C',ec,h⟩=>by
 cases ec
 subst ee
 exact h pins σ H s a s' I os bare fl
def Rz (X:Cx) (C:Addr):Prop:=∀ H',Same (Zx X) H'→XOk X C H'∧XOn X C H'
section
variable {P:Program} {w:World} {K:PySem.W.Frag} {mg:Str→Option Value} {base:Heap} {N:List Str} {qual:Str} {scope:Scope} {f C:Addr} {cd:Value} {A:Around} {outer:List Env} {s:Shared} {H H1:Hp} {E:XK}
theorem Wm (h:∀ H',Same H H'→E (.ref C) none H'):Rz (yV (CX1 P w) P w K mg base N qual scope f cd A outer s H E) C:=fun H' z=>by
 rw [lY] at z
 refine ⟨c3 (h H' z),fun pins σ H2 s2 a s' I os bare fl=>?_⟩
 exact Xw (X:=yV (CX1 P w) P w K mg base N qual scope f cd A outer s H E) I rfl rfl rfl fl fun h' fl'=>⟨a,C,H',rfl,os.trans I.os,bare,fl',h H' z⟩
end
abbrev xh:=List Dt→(Dt→Prop)→(Addr→Prop)→Prop
def vJ (K:PySem.W.Frag) (S:xh):Sp:=fun vs H Q E=>∃ (W:Vw) (ds:List Dt) (Qd:Dt→Prop) (Ed:Addr→Prop),W.h=H∧AllIs K W.g ds vs∧S ds Qd Ed∧(∀ d v W',Le W W'→Is K W'.g d v→Qd d→Q v W'.h)∧∀ C H',Same W.h H'→Ed C→E (.ref C) none H'
def oq (K:PySem.W.Frag) (S:xh):Sp:=fun vs H Q E=>∃ (W:Vw) (ds:List Dt) (Qd:Dt→Prop) (Ed:Addr→Prop),W.h=H∧AllIs K W.g ds vs∧S ds Qd Ed∧
 (∀ es p xs W',Le W W'→W.h p=none→W'.h p=some (.lst xs)→W'.g p=none→AllIs K W'.g es xs→Qd (.lst es)→Q (.ref p) W'.h)∧∀ C H',Same W.h H'→Ed C→E (.ref C) none H'
structure DOkX (P:Program) (w:World) (K:PySem.W.Frag) (mg:Str→Option Value) (base:Heap) (n:Nat) (x:Str) (S:xh):Prop where
 ex:∃ f fd ps,mg x=some (.ref f)∧PySem.W.keepIn K (.ref f)=true∧Binds K fd ps []∧FnOk P w K mg base (CX1 P w) n f fd ps (vJ K S)
structure FOkX (P:Program) (w:World) (K:PySem.W.Frag) (mg:Str→Option Value) (base:Heap) (n:Nat) (x:Str) (S:xh):Prop where
 ex:∃ f fd ps,mg x=some (.ref f)∧PySem.W.keepIn K (.ref f)=true∧Binds K fd ps []∧FnOk P w K mg base (CX1 P w) n f fd ps (oq K S)
section
variable {P:Program} {w:World} {K:PySem.W.Frag} {mg:Str→Option Value} {base:Heap}
theorem Fun.okX {CX:CXT} {x qual:Str} {st:Stmt} {f:Addr} {fd:FuncData} {N ps:List Str} {k:Nat} {sp:Sp} (F:Fun K x qual st f fd) (S:zh N ps (defScope st)) (len:∀ vs H Q E,sp vs H Q E→vs.length=ps.length)
  (hbody:∀ (cdv:Value) (A:Around) (outer:List Env) (s:Shared) (H:Hp) (vs:List V) (Q:VK) (E:XK),Room k (A.deeper (envOfC qual (defScope st) s.heap.objs.size f cdv))→sp vs H Q E→
   ∃ t,PSs (yV CX P w K mg base N qual (defScope st) f cdv A outer s H E) (defBody st) t∧t { nx:=fun _ H'=>Q .non H',rt:=Q } (start N vs) H):FnOk P w K mg base CX (k+1) f fd ps sp:=by
 obtain ⟨oc,od,kV,doc,pm,an,cdv,ct,osl,rfl,lk,hcd⟩:=F.ex
 exact cK lk hcd S len fun A outer s H vs Q E hr h=>hbody cdv A outer s H vs Q E hr h
theorem UO {x qual:Str} {st:Stmt} {f:Addr} {fd:FuncData} {N ps:List Str} {k:Nat} {S:xh} (F:Fun K x qual st f fd) (sc:zh N ps (defScope st)) (len:∀ ds Q R,S ds Q R→ds.length=ps.length)
  (hbody:∀ (cdv:Value) (A:Around) (outer:List Env) (s:Shared) (H:Hp) (E:XK),Room k (A.deeper (envOfC qual (defScope st) s.heap.objs.size f cdv))→∀ (ds:List Dt) (Q:Dt→Prop) (R:Addr→Prop),S ds Q R→
   (∀ C,R C→Rz (yV (CX1 P w) P w K mg base N qual (defScope st) f cdv A outer s H E) C)→
   ∃ t,DSs (yV (CX1 P w) P w K mg base N qual (defScope st) f cdv A outer s H E) .d (defBody st) t∧t { nx:=fun _=>Q .non,rt:=Q } (xc N.length ds)):FnOk P w K mg base (CX1 P w) (k+1) f fd ps (vJ K S):=by
 refine Fun.okX F sc (fun vs H Q E h=>?_) (fun cdv A outer s H vs Q E hr h=>?_)
 ·obtain ⟨W,ds,Qd,Ed,_,ia,hS,_⟩:=h
  rw [← ia.length]
  exact len ds Qd Ed hS
 obtain ⟨W,ds,Qd,Ed,rfl,ia,hS,kk,ke⟩:=h
 obtain ⟨t,⟨ts,p,l⟩,ht⟩:=hbody cdv A outer s W.h E hr ds Qd Ed hS fun C hC=>Wm fun H' z=>ke C H' z hC
 refine ⟨ts,p,l W W.g (xc N.length ds) (start N vs) W { nx:=fun _=>Qd .non,rt:=Qd } _ (si ia (ot (Nat.succ_ne_self _))) ⟨fun ρ σ W' a q=>kk .non .non W' a.le (is_non.mpr rfl) q,fun d v W' s' i' q=>kk d v W' s' i' q,fun _ _ _ _ q=>q.elim,fun _ _ _ _ q=>q.elim⟩ ht⟩
theorem DOkX.mk' {x qual:Str} {st:Stmt} {f:Addr} {fd:FuncData} {ps:List Str} {n:Nat} {S:xh} (F:Fun K x qual st f fd) (hm:mg x=some (.ref f)) (hb:Binds K fd ps []) (h:FnOk P w K mg base (CX1 P w) n f fd ps (vJ K S)):DOkX P w K mg base n x S:=
 ⟨f,fd,ps,hm,F.kp,hb,h⟩
theorem FOkX.mk' {x qual:Str} {st:Stmt} {f:Addr} {fd:FuncData} {ps:List Str} {n:Nat} {S:xh} (F:Fun K x qual st f fd) (hm:mg x=some (.ref f)) (hb:Binds K fd ps []) (h:FnOk P w K mg base (CX1 P w) n f fd ps (oq K S)):FOkX P w K mg base n x S:=
 ⟨f,fd,ps,hm,F.kp,hb,h⟩
theorem DOkX.mono {x:Str} {m n:Nat} {S:xh} (h:DOkX P w K mg base m x S) (hl:m≤n):DOkX P w K mg base n x S:=
 let ⟨f,fd,ps,h1,h2,h3,h4⟩:=h.ex; ⟨f,fd,ps,h1,h2,h3,h4.mono hl⟩
theorem FOkX.mono {x:Str} {m n:Nat} {S:xh} (h:FOkX P w K mg base m x S) (hl:m≤n):FOkX P w K mg base n x S:=
 let ⟨f,fd,ps,h1,h2,h3,h4⟩:=h.ex; ⟨f,fd,ps,h1,h2,h3,h4.mono hl⟩
end
section
variable {X:Cx} {e a:Expr} {es:List Expr} {t:DTA} {ta:DTE} {n:Nat} {x y:Str} {S:xh} {p pos np cpos:Pos} {fr:Fr} {C:Addr}
theorem cC {F:Hp} {W:Vw} {ρ:DS} {σ:L2.St} {K:PySem.W.Frag} (r:Rl K Z F W ρ σ):Same Z W.h:=r.z.trans r.fr
def XV (X:Cx) (S:xh) (t:DTA):DTE:=fun ρ Q=>t ρ fun ds=>S ds Q (Rz X)
theorem iq (G:DOkX X.prog X.w X.K X.mg X.base n x S) (hr:Room n X.A) (hg:Gl X x) (ha:DA X (e::es) t) (hdb:(x == ("__debug__":Str))=false:=by decide)
  (he:starEach (e::es) X.env=(false,eval e X.env)::starEach es X.env:=by rfl) (hpl:(backTo pos (starEach es X.env)).any (·.1)=false:=by rfl):DE X (.Call (.Name x p) (e::es) [] pos) (XV X S t):=by
 obtain ⟨f,fd,ps,hm,hk,hb,F⟩:=G.ex
 obtain ⟨te,p1,l1⟩:=ha
 refine ⟨_,rO F hr hg hm hk hb .nil kK p1 hdb he hpl,fun ρ σ H Q r h R k=>l1 ρ σ H _ r h _ fun ds vs H1 s1 i1 q1=>?_⟩
 rw [List.append_nil]
 exact ⟨H1,ds,Q,Rz X,rfl,i1,q1,fun d v H2 s2 i2 q2=>k d v H2 (s1.trans s2) i2 q2,fun C H' s' hC=>⟨C,rfl,(hC H' (((cC r).trans s1.h).trans s')).2⟩⟩
def XM (X:Cx) (C:Addr) (ta:DTE):DTS:=fun _ ρ=>ta ρ fun _=>Rz X C
theorem pX (hc:X.calm=true) (hg:Gl X x) (hm:X.mg x=some (.ref C)) (hC:ExcK X.K C) (ha:DE X a ta) (hdb:(x == ("__debug__":Str))=false:=by decide)
  (he:starEach [a] X.env=(false,eval a X.env)::starEach [] X.env:=by rfl):DSt X fr (.Raise (some (.Call (.Name x np) [a] [] cpos)) none pos) (XM X C ta):=by
 obtain ⟨te,p1,l1⟩:=ha
 exact ⟨_,kE hc hg hm hC p1 hdb he,fun W0 G ρ σ W D D' at_ s h=>l1 ρ σ W _ at_.rl h _ fun d v W1 s1 i1 q1=>(q1 W1.h ((cC at_.rl).trans s1.h)).1⟩
def VH (K:PySem.W.Frag) (Z:Hp) (fr:Fr) (t:DTS):TS:=fun D' σ H=>∃ (W0:Vw) (G:Hp) (ρ:DS) (W:Vw) (D:vK),W.h=H∧At K Z W0 G W ρ σ∧Sim K Z fr W0 G D D'∧t D ρ
theorem DSs.up {sts:List Stmt} {t:DTS} (h:DSs X fr sts t):PSs X sts (VH X.K (Zx X) fr t):=by
 obtain ⟨ts,p,l⟩:=h
 intro pins s σ H D' I q
 obtain ⟨W0,G,ρ,W,D,rfl,a,sm,ht⟩:=q
 exact p pins s σ W.h D' I (l W0 G ρ σ W D D' a sm ht)
def Vw.at (W:Vw) (H':Hp) (s:Same W.h H'):Vw:=⟨W.g,H',W.sub.trans s⟩
variable {b₀:Stmt} {suite:List Stmt} {th:DTS} {c:Value} {py hpos epos tpos:Pos}
end
section
variable {X:Cx} {e:Expr} {es:List Expr} {t:DTA} {n:Nat} {x y m:Str} {i j:Nat} {S:xh} {p pos py hpos epos tpos:Pos} {fr:Fr} {b₀:Stmt} {suite:List Stmt} {th:DTS} {c:Value}
end
end OD
namespace OD
variable {Z:Hp}
open PySem PySem.Spec PyProof.Rows L2
def zx (X:Cx) (scope:Scope) (cl:List (Str × Addr)) (bs caps:List Str) (C:Addr) (s:Shared) (H:Hp) (fp:List Addr) (pins:List (Addr × Obj)):Cx where
 prog:=X.prog
 w:=X.w
 K:=X.K
 mg:=X.mg
 base:=X.base
 A:=X.A
 N:=bs++caps
 s₀:=s
 H₀:=H
 env:=compEnvC scope cl C X.env
 outer:=X.stack
 stack:=X.stack
 ex:=fp
 fn:=fun y=>bs.contains y
 calm:=X.calm
 pn:=X.pn++pins
 xe:=fun _ _=>False
structure vL (X:Cx) (scope:Scope) (cl:List (Str × Addr)) (bs caps:List Str) (js:List Nat):Prop where
 clos:closureFor scope X.env=pure cl
 sub:∀ y c,cl.lookup y=some c→X.env.cells.lookup y=some c
 has:∀ y,((relabel scope X.env).names.lookup y=some .cell∨(relabel scope X.env).names.lookup y=some .free)→∃ c,cl.lookup y=some c
 nox:∀ x∈bs,cl.lookup x=none
 cell:∀ y∈scope.names,y.2≠.cell
 kind:scope.kind=.function
 names:∀ y∈scope.names,y.2=.local→scope.names.lookup y.1=some .local
 loc:∀ x∈bs,scope.names.lookup x=some .local
 nd:(bs++caps).Nodup
 len:js.length=caps.length
 at_:∀ (k:Nat) y,caps[k]? = some y→∃ j,js[k]? = some j∧X.N[j]? = some y
 cap:∀ y∈caps,(relabel scope X.env).names.lookup y=some .cell∧X.env.scope.names.lookup y=some .cell
theorem wx {prog:Program} {w:World} {A:Around} {s:Shared} {elt target iter:Expr} {ifs:List Expr} {scope:Scope} {pos:Pos} {it acc:Value} {env:Env} {R:Result→Shared→Prop} (I:Nat→Shared→Prop)
  (turn:∀ n s,I n s→wpAny (model prog w) A (pyNext it) (fun r s₁=>match r with
   | none=>R (.ok .next) s₁
   | some v=>wpAny (model prog w) A (letOwnedTupleGo target it v) (fun _ s₁'=>wpAny (model prog w) A (assign target env v) (fun _ s₂=>
     wpAny (model prog w) A (forIn ifs true fun c r=>if r=true then do let ok ← isTrue c env (eval c env); pure (ForInStep.yield ok) else pure (ForInStep.yield r)) (fun ok s₃=>
      if ok=true then wpAny (model prog w) A (eval elt env) (fun x s₄=>
       wpAny (model prog w) A (call (.builtin "list.append") [acc,x]) (fun _ s₅=>∃ m,m<n∧I m s₅) (notedBy (model prog w) A env fun e s'=>R (.error e) s') s₄) (notedBy (model prog w) A env fun e s'=>R (.error e) s') s₃
      else ∃ m,m<n∧I m s₃) (notedBy (model prog w) A env fun e s'=>R (.error e) s') s₂)
     (notedBy (model prog w) A env fun e s'=>R (.error e) s') s₁') (notedBy (model prog w) A env fun e s'=>R (.error e) s') s₁) (notedBy (model prog w) A env fun e s'=>R (.error e) s') s)
  (n:Nat) (h:I n s):codeAny (model prog w) A (.compLoop (.ListComp elt [⟨target,iter,ifs,0⟩] scope pos) 0 it acc env) R s:=by
 refine codeAny_loop rfl I (fun n s hI=>?_) n h
 show wpAny _ A ((compTurn (.ListComp elt [⟨target,iter,ifs,0⟩] scope pos) 0 it acc env).onRaise (fun x=>do noteFrame x env; theTreesLotGoes x)) _ _ s
 refine wpAny_noted ?_
 rw [compTurn_list]
 refine wpAny_bind (wpAny_standAt (wpAny_bind (wpAny_mono (turn n s hI) (fun r s₁ h₁=>?_) fun _ _ h'=>h')))
 cases r with
 | none=>exact wpAny_pure h₁
 | some v=>
  refine wpAny_bind (wpAny_mono h₁ (fun _ s₁' h₁'=>?_) fun _ _ h'=>h')
  refine wpAny_bind (wpAny_mono h₁' (fun _ s₂ h₂=>wpAny_bind (wpAny_mono h₂ (fun ok s₃ h₃=>?_) fun _ _ h'=>h')) fun _ _ h'=>h')
  cases ok with
  | false=>exact wpAny_pure ⟨rfl,h₃⟩
  | true=>
   exact wpAny_bind (wpAny_bind (wpAny_mono h₃ (fun x s₄ h₄=>wpAny_bind (wpAny_mono h₄ (fun _ s₅ h₅=>wpAny_pure (wpAny_pure ⟨rfl,h₅⟩)) fun _ _ h'=>h')) fun _ _ h'=>h'))
def PC (X:Cx) (ifs:List Expr) (t:TT):Prop:=
 ∀ (pins:List (Addr × Obj)) (s:Shared) (σ:St) (H:Hp) (Q:Bool→Hp→Prop) (E:Value→Shared→Prop),(∀ v s,X.xe v s→E v s)→Inv X pins σ H s→t σ H Q→
  wpAny (model X.prog X.w) X.A (forIn ifs true fun c r=>if r=true then do let ok ← isTrue c X.env (eval c X.env); pure (ForInStep.yield ok) else pure (ForInStep.yield r)) (TP X pins σ Q) E s
theorem bM {X:Cx}:PC X [] (fun _ H Q=>Q true H):=fun _ _ _ H _ _ _ I h=>wpAny_tests_nil ⟨H,I,h⟩
section
variable {X:Cx} {pins:List (Addr × Obj)} {σ:St} {H:Hp} {s:Shared} {scope:Scope} {cl:List (Str × Addr)} {bs caps:List Str} {js:List Nat} {fp:List Addr}
theorem lD {h₁:Heap} {t:Nat} {m:Str→Option Value} (I:Inv X pins σ H s) (S:vL X scope cl bs caps js) (hfp:∀ b∈fp,wR X pins H b) (hob:∀ b∈fp,∃ o,s.heap.get? b=some o)
  (hn:h₁.Ns s.heap.objs.size m) (hk:∀ b o,s.heap.get? b=some o→h₁.get? b=some o):Inv (zx X scope cl bs caps s.heap.objs.size s H fp pins) [] (bs.map (fun _=>none)++ut σ js) H { s with heap:=h₁,toks:=t }:=by
 refine ⟨⟨I.ok.mod,S.kind,I.ok.glob,I.ok.blt,Nat.le_refl _,fun y z c h1 h2=>?_,fun y hy=>?_,fun y c hf h=>?_,I.ok.hd,I.ok.frames,.inl rfl,fun b hb=>⟨?_,fun y c h=>?_⟩,I.bs,Nat.le_trans I.ok.bsz I.sz,fun b o e hb=>?_,fun b hb z=>?_,I.stack,I.stkFree⟩,
  rfl,I.bare,Un.kept hk,⟨_,hn,fun i y v h1 h2 h3=>?_⟩,fun y c h=>?_,I.hok.fresh (Nat.le_refl _),fun y c h=>?_,fun p hp=>?_,I.hok.kept hk,?_⟩
 ·exact I.ok.inj y z c (S.sub y c h1) (S.sub z c h2)
 ·exact S.has y hy
 ·have hf:y∈bs:=List.contains_iff_mem.mp hf
  have h:cl.lookup y=some c:=h
  rw [S.nox y hf] at h
  cases h
 ·obtain ⟨o,e⟩:=hob b hb
  exact Nat.ne_of_lt (Heap.lt_size e)
 ·exact (hfp b hb).2.2.2.2.1 y c (S.sub y c h)
 ·obtain ⟨_,_,_,h4,_⟩:=hfp b hb
  rcases h4 with h4 | h4
  ·exact I.ok.noex b o e h4
  ·exact absurd (Nat.lt_of_lt_of_le (Heap.lt_size e) (Nat.le_trans I.ok.bsz h4)) (Nat.lt_irrefl _)
 ·obtain ⟨_,h2,h3,_⟩:=hfp b hb
  rcases List.mem_cons.mp (I.stkSub b z) with q | q
  ·exact h2 q
  ·exact h3 q
 ·by_cases hi:i<bs.length
  ·rw [List.getElem?_append_left (by rw [List.length_map]; exact hi),List.getElem?_map] at h2
   obtain ⟨_,_,e⟩:=Option.map_eq_some_iff.mp h2
   cases e
  ·have hi:bs.length≤i:=Nat.le_of_not_lt hi
   have h1:(bs++caps)[i]? = some y:=h1
   rw [List.getElem?_append_right hi] at h1
   rw [List.getElem?_append_right (by rw [List.length_map]; exact hi),List.length_map] at h2
   obtain ⟨j,hj,hN⟩:=S.at_ _ y h1
   have hv:σ[j]? = some (some v):=by
    unfold ut at h2
    rw [List.getElem?_map,hj] at h2
    have h2:(σ[j]?).getD none=some v:=Option.some.inj h2
    cases q:σ[j]? with
    | none=>rw [q] at h2; cases h2
    | some w=>rw [q] at h2; exact congrArg some h2
   obtain ⟨c1,c2⟩:=S.cap y (List.mem_of_getElem? h1)
   obtain ⟨m0,_,hl⟩:=I.loc
   obtain ⟨u,ru,lk⟩:=hl j y v hN hv (.inr (.inl c2))
   refine ⟨u,ru,.inr ⟨.inl c1,?_⟩⟩
   obtain ⟨c,hc⟩:=S.has y (.inl c1)
   rcases lk with ⟨lk,_⟩ | ⟨_,c',hc',hcell⟩
   ·have lk:X.env.scope.names.lookup y=some .local:=lk
    rw [c2] at lk
    cases lk
   ·have e:=S.sub y c hc
    rw [hc'] at e
    cases e
    obtain ⟨o,ho,hd⟩:=hcell
    exact ⟨_,hc,o,hk _ _ ho,hd⟩
 ·obtain ⟨v,o,ho,hd⟩:=I.cell y c (S.sub y c h)
  exact ⟨v,o,hk _ _ ho,hd⟩
 ·exact I.freeC y c (S.sub y c h)
 ·have hp:p∈X.pn++pins:=by
   rcases List.mem_append.mp hp with q | q
   ·exact q
   ·cases q
  obtain ⟨h1,h2,h3,h4,h5⟩:=I.pin p hp
  refine ⟨hk _ _ h1,h2,Nat.ne_of_lt (Heap.lt_size h1),fun z=>?_,h5⟩
  rcases List.mem_cons.mp (I.stkSub _ z) with q | q
  ·exact h3 q
  ·exact h4 q
 ·show (bs.map (fun _=>none)++ut σ js).length=(bs++caps).length
  unfold ut
  rw [List.length_append,List.length_append,List.length_map,List.length_map,S.len]
theorem lE {C:Addr} {σ':St} {H':Hp} {s':Shared} (I:Inv X pins σ H s) (hfp:∀ b∈fp,wR X pins H b) (I':Inv (zx X scope cl bs caps C s H fp pins) [] σ' H' s'):Inv X pins σ H' s':=
 I.call' (ch:=fp) I'.os I'.base I'.hok I'.bare fun b hb=>by
  obtain ⟨_,h2,_,h4,h5,h6⟩:=hfp b hb
  exact ⟨h4,h2,h5,h6⟩
def rM (gt:TG) (tt:TT) (te:TE) (k:Nat) (τ:St) (Q:V→Hp→Prop):It→Hp→Prop:=fun J H1=>∃ n:Nat,n<sizeLine∧∀ D,H1 D=none→∃ (Pv:Nat→List V→Hp→Prop) (Nx:Nat→V→List V→Hp→Prop),
 Pv 0 [] (upd H1 D (.lst []))∧(∀ i ys H2,i≤n→Pv i ys H2→H2 D=some (.lst ys)∧ys.length≤i)∧
 (∀ i ys H2,i<n→Pv i ys H2→J.go i H2∧∀ v H3,J.yld i H2 v H3→Nx i v ys H3)∧(∀ ys H2,Pv n ys H2→J.stop n H2)∧
 (∀ i v ys H2 (σ0:St),i<n→Nx i v ys H2→σ0.length=k→gt v (σ0++τ) H2 fun σ1 H3=>(∃ σ2:St,σ1=σ2++τ∧σ2.length=k)∧tt σ1 H3 fun b H4=>
  if b=true then te σ1 H4 fun y H5=>H5 D=some (.lst ys)∧Pv (i+1) (ys++[y]) (upd H5 D (.lst (ys++[y]))) else Pv (i+1) ys H4)∧∀ ys H2,Pv n ys H2→Q (.ref D) H2
def oA (wi:TI) (gt:TG) (tt:TT) (te:TE) (k:Nat) (js:List Nat):TE:=fun σ H Q=>wi σ H (rM gt tt te k (ut σ js) Q)
theorem p9 {elt tg iter:Expr} {ifs:List Expr} {pos:Pos} {it D:Addr} {n:Nat} {J:It} {Nx:Nat→V→List V→Hp→Prop} {τ:St} {tn:Nat→Heap→Prop} {gt:TG} {tt:TT} {te:TE} {R:Result→Shared→Prop} {s₄:Shared} {Pv:Nat→List V→Hp→Prop} {C:Addr} (hc:X.calm=true)
  (hg:PG (zx X scope cl bs caps C s H fp pins) tg gt) (ht':PC (zx X scope cl bs caps C s H fp pins) ifs tt)
  (he:PE (zx X scope cl bs caps C s H fp pins) elt te) {σ0:St} (hσ0:σ0.length=bs.length) (I:Inv (zx X scope cl bs caps C s H fp pins) [] (σ0++τ) H s₄) (T:qE X.prog X.w X.K tg J fp it tn) (t0:tn 0 s₄.heap)
  (hfp:∀ b∈fp,wR (zx X scope cl bs caps C s H fp pins) [] H b) (hn:n<sizeLine)
  (h0:Pv 0 [] H) (hl:∀ i ys H2,i≤n→Pv i ys H2→H2 D=some (.lst ys)∧ys.length≤i)
  (hgo:∀ i ys H2,i<n→Pv i ys H2→J.go i H2∧∀ v H3,J.yld i H2 v H3→Nx i v ys H3) (hst:∀ ys H2,Pv n ys H2→J.stop n H2)
  (ht:∀ i v ys H2 (σ0:St),i<n→Nx i v ys H2→σ0.length=bs.length→gt v (σ0++τ) H2 fun σ1 H3=>(∃ σ2:St,σ1=σ2++τ∧σ2.length=bs.length)∧tt σ1 H3 fun b H4=>
   if b=true then te σ1 H4 fun y H5=>H5 D=some (.lst ys)∧Pv (i+1) (ys++[y]) (upd H5 D (.lst (ys++[y]))) else Pv (i+1) ys H4)
  (hR:∀ σ' H' ys s',Inv (zx X scope cl bs caps C s H fp pins) [] σ' H' s'→Pv n ys H'→R (.ok .next) s'):
  codeAny (model X.prog X.w) X.A (.compStart (.ListComp elt [⟨tg,iter,ifs,0⟩] scope pos) 0 (.ref it) (.ref D) (compEnvC scope cl C X.env)) R s₄:=by
 have loop:codeAny (model X.prog X.w) X.A (.compLoop (.ListComp elt [⟨tg,iter,ifs,0⟩] scope pos) 0 (.ref it) (.ref D) (compEnvC scope cl C X.env)) R s₄:=by
  refine wx (fun k s'=>∃ i ys,∃ σ1:St,∃ H',k=n+1 - i∧i≤n∧σ1.length=bs.length∧Inv (zx X scope cl bs caps C s H fp pins) [] (σ1++τ) H' s'∧tn i s'.heap∧(∀ b∈fp,wR (zx X scope cl bs caps C s H fp pins) [] H' b)∧Pv i ys H') ?_ (n+1) ⟨0,[],σ0,H,rfl,Nat.zero_le _,hσ0,I,t0,hfp,h0⟩
  rintro k s' ⟨i,ys,σ1,H',rfl,hi,hσ1,I',tn',hfp',hp⟩
  obtain ⟨q2,q3⟩:=hl i ys H' hi hp
  by_cases hlt:i<n
  ·obtain ⟨g,gy⟩:=hgo i ys H' hlt hp
   refine wpAny_mono (T.item (zx X scope cl bs caps C s H fp pins) rfl rfl rfl hc i [] s' (σ1++τ) H' (notedBy (model X.prog X.w) X.A (compEnvC scope cl C X.env) fun e s'=>R (.error e) s') I' hfp' tn' g) (fun r s1 ⟨u,er,hq⟩=>?_) fun _ _ z=>z
   subst er
   refine wpAny_mono hq (fun _ s1' hq'=>?_) fun _ _ z=>z
   obtain ⟨v,H1,I1,rv,yv,tn1,fn1⟩:=hq'
   have hv:=gy v H1 yv
   have hfp1:∀ b∈fp,wR (zx X scope cl bs caps C s H fp pins) [] H1 b:=fun b hb=>⟨fn1 b hb,(hfp' b hb).2⟩
   have hpin:∀ b∈fp,∃ o,s1'.heap.get? b=some o∧∀ v,o.data≠.cell v:=T.obj (i+1) s1'.heap tn1
   have IP:Inv (zx X scope cl bs caps C s H fp pins) (xt fp s1'.heap) (σ1++τ) H1 s1':=by
    have:=I1.pinned hfp1 hpin
    rw [List.nil_append] at this
    exact this
   refine wpAny_mono (hg (xt fp s1'.heap) s1' (σ1++τ) H1 v u _ IP rv (ht i v ys H1 σ1 hlt hv hσ1)) (fun _ s2 h2=>?_) fun _ _ z=>z.elim
   obtain ⟨σ2',H2,I2,⟨σ2,e2,l2⟩,w2⟩:=h2
   subst e2
   refine wpAny_mono (ht' (xt fp s1'.heap) s2 (σ2++τ) H2 _ (fun _ _=>False) (fun _ _ z=>z) I2 w2) (fun b s3 h3=>?_) fun _ _ z=>z.elim
   obtain ⟨H3,I3,w3⟩:=h3
   have pinned:∀ {s4:Shared} {H4:Hp} {σ4:St},Inv (zx X scope cl bs caps C s H fp pins) (xt fp s1'.heap) σ4 H4 s4→∀ b∈fp,∀ o,s1'.heap.get? b=some o→s4.heap.get? b=some o∧H4 b=none:=fun I4 b hb o e=>
    have z:=I4.pin (b,o) (List.mem_append_right _ (vd hb e))
    ⟨z.1,z.2.1⟩
   cases b with
   | false=>
    have w3:Pv (i+1) ys H3:=w3
    show ∃ m,m<n+1 - i∧_
    refine ⟨n+1 - (i+1),by omega,i+1,ys,σ2,H3,rfl,hlt,l2,I3.pins_of (fun p z=>nomatch z),T.keep _ _ _ tn1 fun b hb o e=>(pinned I3 b hb o e).1,fun b hb=>⟨?_,(hfp' b hb).2⟩,w3⟩
    obtain ⟨o,e,_⟩:=hpin b hb
    exact (pinned I3 b hb o e).2
   | true=>
    show wpAny _ _ _ _ _ _
    refine wpAny_mono (he (xt fp s1'.heap) s3 (σ2++τ) H3 _ I3 w3) (fun y s4 h4=>?_) fun _ _ z=>z.elim
    obtain ⟨y',H4,I4,ry,hD,hp4⟩:=h4
    refine wpAny_mono (sV (X:=zx X scope cl bs caps C s H fp pins) (xt fp s1'.heap) s4 (σ2++τ) H4 (.ref D) [y'] (.ref D) [y] (fun _ H5=>H5=upd H4 D (.lst (ys++[y']))) I4 rfl (.cons ry .nil) ⟨D,ys,y',rfl,rfl,hD,by omega,rfl⟩) (fun _ s5 h5=>?_) fun _ _ z=>z.elim
    obtain ⟨_,H5,I5,_,e5⟩:=h5
    subst e5
    refine ⟨n+1 - (i+1),by omega,i+1,ys++[y'],σ2,_,rfl,hlt,l2,I5.pins_of (fun p z=>nomatch z),T.keep _ _ _ tn1 fun b hb o e=>(pinned I5 b hb o e).1,fun b hb=>⟨?_,(hfp' b hb).2⟩,hp4⟩
    obtain ⟨o,e,_⟩:=hpin b hb
    exact (pinned I5 b hb o e).2
  ·have e:i=n:=by omega
   subst e
   refine wpAny_mono (T.done (zx X scope cl bs caps C s H fp pins) rfl rfl rfl hc i [] s' (σ1++τ) H' (fun _ _=>False) I' hfp' tn' (hst ys H' hp)) (fun r s1 ⟨er,I1⟩=>?_) fun _ _ z=>z.elim
   subst er
   exact hR _ H' ys s1 I1 hp
 exact codeAny_compStart_list loop (T.self X.A 0 s₄ _ _ t0 loop)
theorem sd {elt tg iter:Expr} {ifs:List Expr} {pos:Pos} {gt:TG} {tt:TT} {te:TE} {Q:V→Hp→Prop} {s2:Shared} {it:Addr} {tn:Nat→Heap→Prop} {J:It} {H':Hp} {RR:Value→Addr→Result→Shared→Prop} {E:Value→Shared→Prop} (hc:X.calm=true) (S:vL X scope cl bs caps js)
  (hg:∀ C s H fp pins,PG (zx X scope cl bs caps C s H fp pins) tg gt) (ht':∀ C s H fp pins,PC (zx X scope cl bs caps C s H fp pins) ifs tt)
  (he:∀ C s H fp pins,PE (zx X scope cl bs caps C s H fp pins) elt te) (I2:Inv X pins σ H' s2) (T:qE X.prog X.w X.K tg J fp it tn) (t0:tn 0 s2.heap) (hfp:∀ b∈fp,wR X pins H' b) (hr:rM gt tt te bs.length (ut σ js) Q J H')
  (hRR:∀ D C H3 s',Inv X pins σ H3 s'→(∃ m,s'.heap.Ns C m)→H3 C=none→C≠X.env.locals→X.s₀.heap.objs.size≤C→(∀ y c,X.env.cells.lookup y=some c→c≠C)→(∀ p∈X.pn++pins,p.1≠C)→Q (.ref D) H3→
   RR (.ref D) C (.ok .next) s'):
  wpAny (model X.prog X.w) X.A (newList []) (fun acc s₃=>wpAny (model X.prog X.w) X.A (newFunctionEnv scope X.env.globals cl [] X.env.qual none .none (some X.env)) (fun cenv s₄=>
   codeAny (model X.prog X.w) X.A (.compStart (.ListComp elt [⟨tg,iter,ifs,0⟩] scope pos) 0 (.ref it) acc { cenv with scope:=relabel scope X.env }) (RR acc cenv.locals) s₄) E s₃) E s2:=by
 obtain ⟨n,hn,hD⟩:=hr
 obtain ⟨Pv,Nx,h0,hl,hgo,hst,ht,hd⟩:=hD s2.heap.objs.size I2.fresh
 refine wpAny_newObj_type (wpAny_newFunctionEnv S.cell (by intro y hy; simp at hy) (fun h₁ hns₁ hsb₁=>?_) S.kind)
 dsimp only at hns₁ hsb₁ ⊢
 have I3:Inv X pins σ (upd H' s2.heap.objs.size (.lst [])) { s2 with heap:=s2.heap.push { cls:=.type "list",data:=.seq ([]:List Value).toArray } }:=I2.lnew (its:=[]) (t':=s2.toks) .nil (by show 0≤sizeLine; omega)
 have hob:=T.obj 0 s2.heap t0
 have keep:∀ b o,(s2.heap.push { cls:=.type "list",data:=.seq ([]:List Value).toArray }).get? b=some o→h₁.get? b=some o:=fun b o e=>
  hsb₁.extBut b o (Nat.ne_of_lt (Heap.lt_size e)) (Heap.get?_push_of_some _ e)
 have fp3:∀ b∈fp,wR X pins (upd H' s2.heap.objs.size (.lst [])) b:=fun b hb=>by
  obtain ⟨o,e,_⟩:=hob b hb
  exact ⟨(zw (Nat.ne_of_lt (Heap.lt_size e))).trans (hfp b hb).1,(hfp b hb).2⟩
 have IY:=lD (t:=s2.toks+([]:List (Str × Value)).length) I3 S fp3 (fun b hb=>by
  obtain ⟨o,e,_⟩:=hob b hb
  exact ⟨o,Heap.get?_push_of_some _ e⟩) hns₁ keep
 refine p9 (D:=s2.heap.objs.size) (n:=n) (Nx:=Nx) (Pv:=Pv) hc (hg _ _ _ _ _) (ht' _ _ _ _ _) (he _ _ _ _ _) (List.length_map _) IY T (T.keep _ _ _ t0 fun b hb o e=>keep b o (Heap.get?_push_of_some _ e)) (fun b hb=>?_) hn h0 hl hgo hst ht (fun σ' H3 ys s' I' hp=>?_)
 ·obtain ⟨f1,f2,f3,f4,f5,f6⟩:=fp3 b hb
  obtain ⟨o,e,_⟩:=hob b hb
  refine ⟨f1,Nat.ne_of_lt (Heap.lt_size (Heap.get?_push_of_some _ e)),fun z=>?_,.inl hb,fun y c h=>f5 y c (S.sub y c h),fun p hp=>?_⟩
  ·rcases List.mem_cons.mp (I3.stkSub b z) with q | q
   ·exact f2 q
   ·exact f3 q
  ·rcases List.mem_append.mp hp with q | q
   ·exact f6 p q
   ·cases q
 ·obtain ⟨m,hn,_⟩:=I'.loc
  refine hRR _ _ H3 s' (lE I3 fp3 I') ⟨m,hn⟩ I'.free (Nat.ne_of_gt I3.lt) I3.sz (fun y c h z=>?_) (fun p hp z=>?_) (hd ys H3 hp)
  ·obtain ⟨v,q⟩:=I3.cell y c h
   exact absurd q.lt (by rw [z]; exact Nat.lt_irrefl _)
  ·exact absurd (Heap.lt_size (I3.pin p hp).1) (by rw [z]; exact Nat.lt_irrefl _)
theorem kJ {elt tg iter:Expr} {ifs:List Expr} {pos:Pos} {wi:TI} {gt:TG} {tt:TT} {te:TE} (hc:X.calm=true) (S:vL X scope cl bs caps js) (hl:PI X tg iter wi) (hg:∀ C s H fp pins,PG (zx X scope cl bs caps C s H fp pins) tg gt)
  (ht':∀ C s H fp pins,PC (zx X scope cl bs caps C s H fp pins) ifs tt) (he:∀ C s H fp pins,PE (zx X scope cl bs caps C s H fp pins) elt te)
  (hs:∀ y,foldedSetIterable iter X.env y=pure y:=by intro _; rfl):PE X (.ListComp elt [⟨tg,iter,ifs,0⟩] scope pos) (oA wi gt tt te bs.length js):=by
 intro pins s σ H Q I h
 rw [eval_ListComp]
 refine wpAny_comprehension_free (use:=none) rfl hs S.clos S.kind S.names (thn (hl pins s σ H (rM gt tt te bs.length (ut σ js) Q) I h) fun v s1 h1=>thn h1 fun itv s2 h2=>?_)
 obtain ⟨it,fp,tn,J,H',rfl,I2,T,t0,hfp,hr⟩:=h2
 refine sd (RR:=fun acc C=>compPost (model X.prog X.w) X.A X.xe none (EP X pins σ Q) acc C) hc S hg ht' he I2 T t0 hfp hr ?_
 intro D C H3 s' I' ⟨m,hn⟩ hC h1 h2 h3 h4 q
 exact ⟨m,hn,fun h' hs'=>⟨.ref D,H3,I'.turned (it:=C) (fun b o hb e=>hs'.extBut b o hb e) hC h1 (.inr h2) h3 h4,rfl,q⟩⟩
theorem pj {elt tg iter:Expr} {ifs:List Expr} {y:Str} {i:Nat} {py pos spos:Pos} {wi:TI} {gt:TG} {tt:TT} {te:TE} (hc:X.calm=true) (S:vL X scope cl bs caps js) (hN:X.N.Nodup) (hi:X.N[i]? = some y) (hy:Loc X.env.scope y) (hl:PI X tg iter wi) (hg:∀ C s H fp pins,PG (zx X scope cl bs caps C s H fp pins) tg gt)
  (ht':∀ C s H fp pins,PC (zx X scope cl bs caps C s H fp pins) ifs tt) (he:∀ C s H fp pins,PE (zx X scope cl bs caps C s H fp pins) elt te)
  (hsw:swapsWith (.ListComp elt [⟨tg,iter,ifs,0⟩] scope pos) (some (.Name y py)) spos.line X.env=pure true) (hs:∀ y,foldedSetIterable iter X.env y=pure y:=by intro _; rfl)
  (hf:X.fn y=true∨X.env.scope.names.lookup y=some .local:=by first | exact .inl rfl | exact .inr rfl | assumption):
  PS X (.Assign [.Name y py] (.ListComp elt [⟨tg,iter,ifs,0⟩] scope pos) spos) (bf (oA wi gt tt te bs.length js) (pT i)):=by
 intro pins s σ H D I h
 rw [exec_Assign_Name_used _ _ _ _ hsw]
 refine wpAny_bind (wpAny_standAt (wpAny_bind ?_))
 show wpAny _ X.A (do let _ ← comprehension (.ListComp elt [⟨tg,iter,ifs,0⟩] scope pos) scope X.env _ (newList []) false (eval iter X.env) (some (assign (.Name y py) X.env))) _ _ s
 refine wpAny_bind (wpAny_mono (wpAny_comprehension_free (use:=some (assign (.Name y py) X.env)) (Q:=fun _ s'=>SP X pins D .next s') rfl hs S.clos S.kind S.names (thn (hl pins s σ H (rM gt tt te bs.length (ut σ js) fun v H1=>pT i v σ H1 D.nx) I h) fun v s1 h1=>thn h1 fun itv s2 h2=>?_))
  (fun _ s' hq=>wpAny_pure (wpAny_pure hq)) fun _ _ e=>e)
 obtain ⟨it,fp,tn,J,H',rfl,I2,T,t0,hfp,hr⟩:=h2
 refine sd (RR:=fun acc C=>compPost (model X.prog X.w) X.A X.xe (some (assign (.Name y py) X.env)) (fun _ s'=>SP X pins D .next s') acc C) hc S hg ht' he I2 T t0 hfp hr ?_
 intro A C H3 s' I' ⟨m,hn⟩ hC h1 h2 h3 h4 q
 refine wpAny_assign_Name (sR I' hN hi hy (v:=.ref A) rfl (fun s3 I3 ⟨b,hb,hbb⟩=>?_) hf)
 have hCb:C≠b:=by
  rcases hbb with e | e
  ·rw [e]; exact h1
  ·exact fun z=>h3 y b e z.symm
 exact ⟨m,hn.sameBut hb hCb,fun h' hs'=>⟨_,H3,I3.turned (it:=C) (fun b o hb e=>hs'.extBut b o hb e) hC h1 (.inr h2) h3 h4,q⟩⟩
end
end OD
namespace OD
variable {Z:Hp}
open PySem PySem.Spec PyProof.Rows L2
def u9 (osc scope:Scope) (bs caps:List Str) (js:List Nat) (N:List Str):Bool:=
 scope.names.all (fun y=>y.2 != .cell && (y.2 != .local || scope.names.lookup y.1 == some .local) && (y.2 != .free || (osc.names.lookup y.1 == some .cell && !bs.contains y.1))) && (scope.kind == .function) && (osc.kind == .function) && bs.all (fun x=>scope.names.lookup x == some .local) &&
 decide (bs++caps).Nodup && (js.map (fun j=>N[j]?) == caps.map some) && caps.all (fun y=>scope.names.lookup y == some .free && osc.names.lookup y == some .cell)
theorem mq {X:Cx} {osc scope:Scope} {bs:List Str} {caps:List Str} {js:List Nat} {L:Addr} (h:u9 osc scope bs caps js X.N=true) (he:X.env.scope=osc) (hc:X.env.cells=cellsFrom (L+1) osc.names []):vL X scope (x6 X.env.cells scope.names) bs caps js:=by
 unfold u9 at h
 simp only [Bool.and_eq_true] at h
 obtain ⟨⟨⟨⟨⟨⟨h1,h2⟩,h3⟩,h4⟩,h5⟩,h6⟩,h7⟩:=h
 rw [List.all_eq_true] at h1 h4 h7
 have hfree:∀ y,(y,NameKind.free)∈scope.names→osc.names.lookup y=some .cell∧bs.contains y=false:=fun y hy=>by
  have q:=h1 _ hy
  rw [Bool.and_eq_true,Bool.and_eq_true] at q
  have q:(osc.names.lookup y == some .cell && !bs.contains y)=true:=q.2
  rw [Bool.and_eq_true] at q
  exact ⟨eq_of_beq q.1,by cases z:bs.contains y with | false=>rfl | true=>rw [z] at q; cases q.2⟩
 have hcell:∀ y,osc.names.lookup y=some .cell→∃ c,X.env.cells.lookup y=some c:=fun y hy=>by rw [hc]; exact sf hy
 have hfc:∀ y,(y,NameKind.free)∈scope.names→∃ c,X.env.cells.lookup y=some c:=fun y hy=>hcell y (hfree y hy).1
 have hk:X.env.scope.kind=.function:=by rw [he]; exact eq_of_beq h3
 have hj:js.map (fun j=>X.N[j]?)=caps.map some:=eq_of_beq h6
 refine ⟨ci hfc,fun y c q=>(mem_clOf.mp (PySem.mem_of_lookup q)).2,fun y q=>?_,fun x hx=>?_,fun y hy e=>?_,eq_of_beq h2,fun y hy e=>?_,fun x hx=>eq_of_beq (h4 x hx),of_decide_eq_true h5,?_,fun k y q=>?_,fun y hy=>?_⟩
 ·have:(y,NameKind.free)∈scope.names:=by
   have mem:∃ k,(y,k)∈(relabel scope X.env).names∧(k=.cell∨k=.free):=by
    rcases q with q | q
    ·exact ⟨_,PySem.mem_of_lookup q,.inl rfl⟩
    ·exact ⟨_,PySem.mem_of_lookup q,.inr rfl⟩
   obtain ⟨k,hm,hk'⟩:=mem
   obtain ⟨⟨n,k0⟩,hn,e⟩:=List.mem_map.mp hm
   have ncell:k0≠.cell:=fun z=>by
    have q:=h1 _ hn
    rw [Bool.and_eq_true,Bool.and_eq_true] at q
    exact absurd z (bne_iff_ne.mp q.1.1)
   dsimp only at e
   split at e
   ·rename_i hz
    rw [Bool.and_eq_true,Bool.and_eq_true] at hz
    obtain rfl:=eq_of_beq hz.1.1
    cases e
    exact hn
   ·cases e
    rcases hk' with z | z
    ·exact absurd z ncell
    ·rw [z] at hn; exact hn
  obtain ⟨c,hc'⟩:=hfc y this
  exact tQ (mem_clOf.mpr ⟨this,hc'⟩)
 ·cases q:(x6 X.env.cells scope.names).lookup x with
  | none=>rfl
  | some c=>
   have z:=(hfree x (mem_clOf.mp (PySem.mem_of_lookup q)).1).2
   rw [List.contains_iff_mem.mpr hx] at z
   cases z
 ·have q:=h1 y hy
  rw [Bool.and_eq_true,Bool.and_eq_true] at q
  exact absurd e (bne_iff_ne.mp q.1.1)
 ·have q:=h1 y hy
  rw [Bool.and_eq_true,Bool.and_eq_true,e] at q
  exact eq_of_beq (show (scope.names.lookup y.1 == some .local)=true from q.1.2)
 ·have:=congrArg List.length hj
  rwa [List.length_map,List.length_map] at this
 ·have e:(js.map fun j=>X.N[j]?)[k]? = (caps.map some)[k]?:=by rw [hj]
  rw [List.getElem?_map,List.getElem?_map,q] at e
  obtain ⟨j,hj1,hj2⟩:=Option.map_eq_some_iff.mp e
  exact ⟨j,hj1,hj2⟩
 ·have q:=h7 y hy
  rw [Bool.and_eq_true] at q
  have q2:X.env.scope.names.lookup y=some .cell:=by rw [he]; exact eq_of_beq q.2
  exact ⟨yN hk (eq_of_beq q.1) q2,q2⟩
theorem nO {K:PySem.W.Frag} {F:Hp} {W W2:Vw} {ρ:DS} {σ:St} {js:List Nat} {ds:List Dt} {vs:List V} (r:Rl K Z F W ρ σ) (s2:Same W.g W2.g) (i:AllIs K W2.g ds vs):Rl K (fun _=>none) W2.h W2 (ds.map Sl.some++uu ρ js) (vs.map some++ut σ js):=by
 have no:∀ (j:Nat) (es:List Dt),(ds.map Sl.some++uu ρ js)[j]? = some (.own es)→False:=fun j es q=>by
  have q:=List.mem_of_getElem? q
  rcases List.mem_append.mp q with q | q
  ·obtain ⟨_,_,e⟩:=List.mem_map.mp q
   cases e
  ·unfold uu at q
   obtain ⟨j,_,e⟩:=List.mem_map.mp q
   split at e <;> cases e
 have noA:∀ (j:Nat) (a:Addr) (es:List Dt),(ds.map Sl.some++uu ρ js)[j]? = some (.arg a es)→False:=fun j a es q=>by
  have q:=List.mem_of_getElem? q
  rcases List.mem_append.mp q with q | q
  ·obtain ⟨_,_,e⟩:=List.mem_map.mp q
   cases e
  ·unfold uu at q
   obtain ⟨j,_,e⟩:=List.mem_map.mp q
   split at e <;> cases e
 refine ⟨by unfold uu ut; rw [List.length_append,List.length_append,List.length_map,List.length_map,List.length_map,List.length_map,i.length],fun j e q=>?_,fun j ds q=>(no j ds q).elim,fun j j' ds ds' _ q _=>(no j ds q).elim,Same.refl _,(fun _ _ q=>nomatch q),fun j a ds q=>(noA j a ds q).elim⟩
 by_cases hj:j<ds.length
 ·rw [List.getElem?_append_left (by rw [List.length_map]; exact hj),List.getElem?_map] at q
  obtain ⟨d,hd,e1⟩:=Option.map_eq_some_iff.mp q
  cases e1
  obtain ⟨v,hv,iv⟩:=i.get hd
  exact ⟨v,by rw [List.getElem?_append_left (by rw [List.length_map,← i.length]; exact hj),List.getElem?_map,hv]; rfl,iv⟩
 ·have hj:ds.length≤j:=Nat.le_of_not_lt hj
  rw [List.getElem?_append_right (by rw [List.length_map]; exact hj),List.length_map] at q
  rw [List.getElem?_append_right (by rw [List.length_map,← i.length]; exact hj),List.length_map,← i.length]
  unfold uu at q
  rw [List.getElem?_map] at q
  obtain ⟨k,hk,e2⟩:=Option.map_eq_some_iff.mp q
  split at e2
  ·rename_i d' hd
   cases e2
   obtain ⟨u,hu,iu⟩:=r.at_ k e hd
   refine ⟨u,?_,Is.mono0 s2 iu⟩
   unfold ut
   rw [List.getElem?_map,hk]
   show some ((σ[k]?).getD none)=_
   rw [hu]
   rfl
  ·cases e2
abbrev DTI:=DS→(Nat→(Nat→Dt→Prop)→Prop)→Prop
def LiI (K:PySem.W.Frag) (Z:Hp) (wi:TI) (di:DTI):Prop:=∀ {F:Hp} (ρ:DS) (σ:St) (W:Vw) (Q:Nat→(Nat→Dt→Prop)→Prop),Rl K Z F W ρ σ→di ρ Q→∀ R:It→Hp→Prop,
 (∀ (J:It) (n:Nat) (vals:Nat→Dt→Prop) (W1:Vw),Le W W1→n≤100000→(∀ W2:Vw,Same W1.g W2.g→(∀ i,i<n→J.go i W2.h∧∀ v H3,J.yld i W2.h v H3→∃ W3:Vw,Le W2 W3∧W3.h=H3∧∃ e,vals i e∧Is K W3.g e v)∧J.stop n W2.h)→Q n vals→R J W1.h)→wi σ W.h R
def DI (X:Cx) (tg iter:Expr) (di:DTI):Prop:=∃ wi,PI X tg iter wi∧LiI X.K (Zx X) wi di
def LiG (K:PySem.W.Frag) (k:Nat) (gt:TG) (dg:Dt→List Dt→Prop):Prop:=∀ (e:Dt) (v:V) (σ0 τ:St) (W:Vw) (as:List Dt),σ0.length=k→Is K W.g e v→dg e as→∀ Q:St→Hp→Prop,
 (∀ vs,AllIs K W.g as vs→vs.length=k→Q (vs.map some++τ) W.h)→gt v (σ0++τ) W.h Q
def lS:Dt→List Dt→Prop:=fun e as=>as=[e]
theorem nY {K:PySem.W.Frag}:LiG K 1 (pT 0) lS:=by
 rintro e v σ0 τ W as hl i rfl Q q
 match σ0,hl with
 | [a],_=>exact q [v] (allIs_cons.mpr ⟨v,[],rfl,i,allIs_nil.mpr rfl⟩) rfl
def DC (X:Cx) (ifs:List Expr) (t:DTT):Prop:=∃ tt,PC X ifs tt∧LiT X.K (Zx X) tt t
def uF:DTT:=fun _ Q=>Q true
theorem ir {X:Cx}:DC X [] uF:=⟨_,bM,fun _ _ W _ _ h _ k=>k true W (Le.refl W) h⟩
def jJ (K:PySem.W.Frag) (t:DTT):TT:=fun σ H R=>∃ (F:Hp) (ρ:DS) (W:Vw) (Q:Bool→Prop),W.h=H∧Rl K (fun _=>none) F W ρ σ∧t ρ Q∧∀ d W',Le W W'→Q d→R d W'.h
theorem DC.up {X:Cx} {ifs:List Expr} {t:DTT} (h:DC X ifs t) (hz:X.stack.length=X.outer.length:=by rfl):PC X ifs (jJ X.K t):=by
 obtain ⟨te,p,l⟩:=h
 intro pins s σ H R E hE I q
 obtain ⟨F,ρ,W,Q,rfl,r,h,k⟩:=q
 have r':Rl X.K (Zx X) F W ρ σ:=by unfold Zx; rw [if_pos (Or.inl hz)]; exact r
 exact p pins s σ W.h R E hE I (l ρ σ W Q r' h R k)
theorem pO {K:PySem.W.Frag} {t:DTT}:LiT K (fun _=>none) (jJ K t) t:=fun ρ σ H Q r h R k=>⟨_,ρ,H,Q,rfl,r,h,k⟩
def ve (js:List Nat) (di:DTI) (dg:Dt→List Dt→Prop) (tt:DTT) (te:DTE):DTE:=fun ρ Q=>di ρ fun n vals=>∃ Pv:Nat→List Dt→Prop,Pv 0 []∧
 (∀ (i:Nat) e es,i<n→vals i e→Pv i es→∃ as,dg e as∧tt (as.map Sl.some++uu ρ js) fun b=>if b=true then te (as.map Sl.some++uu ρ js) fun y=>Pv (i+1) (es++[y]) else Pv (i+1) es)∧∀ es,Pv n es→Q (.lst es)
theorem pP {K:PySem.W.Frag} {wi:TI} {gt:TG} {tt:TT} {te:TE} {di:DTI} {dg:Dt→List Dt→Prop} {dt:DTT} {u:DTE} {k:Nat} {js:List Nat} (h1:LiI K Z wi di) (hg:LiG K k gt dg) (ht':LiT K (fun _=>none) tt dt) (h2:LiE K (fun _=>none) te u):LiF K Z (oA wi gt tt te k js) (ve js di dg dt u):=by
 intro F ρ σ H Q r h R kk
 refine h1 ρ σ H _ r h _ fun J n vals W1 s1 hn hJ ⟨Pv,h0,ht,hd⟩=>?_
 have r1:=r.mono s1
 refine ⟨n,Nat.lt_of_le_of_lt hn (by decide),fun D hD=>?_⟩
 have gD:W1.g D=none:=W1.sub.free hD
 have stp:∀ {W2 W3:Vw} {ys:List V} {es:List Dt},Same W1.g W2.g∧Same W1.h (fun b=>if b=D then none else W2.h b)∧(∀ b,W1.h b≠none→W1.g b=none→W2.g b=none)∧W2.h D=some (.lst ys)∧W2.g D=none∧AllIs K W2.g es ys→Le W2 W3→
   Same W1.g W3.g∧Same W1.h (fun b=>if b=D then none else W3.h b)∧(∀ b,W1.h b≠none→W1.g b=none→W3.g b=none)∧W3.h D=some (.lst ys)∧W3.g D=none∧AllIs K W3.g es ys:=by
  rintro W2 W3 ys es ⟨s2,sh,sn,q1,q2,q3⟩ s3
  refine ⟨s2.trans s3.g,fun b o q=>?_,fun b z1 z2=>?_,s3.h _ _ q1,s3.n D (by rw [q1]; intro z; cases z) q2,q3.mono s3⟩
  ·have q':(if b=D then none else W2.h b)=some o:=sh b o q
   have hb:b≠D:=fun e=>by rw [e,hD] at q; cases q
   rw [if_neg hb] at q'
   show (if b=D then none else W3.h b)=some o
   rw [if_neg hb]
   exact s3.h _ _ q'
  ·have hb:b≠D:=fun e=>z1 (e ▸ hD)
   have z3:=sn b z1 z2
   refine s3.n b ?_ z3
   cases q:W1.h b with
   | none=>exact absurd q z1
   | some o=>
    have q':(if b=D then none else W2.h b)=some o:=sh b o q
    rw [if_neg hb] at q'
    rw [q']
    intro z; cases z
 refine ⟨fun i ys H2=>∃ (W2:Vw) (es:List Dt),W2.h=H2∧(Same W1.g W2.g∧Same W1.h (fun b=>if b=D then none else W2.h b)∧(∀ b,W1.h b≠none→W1.g b=none→W2.g b=none)∧W2.h D=some (.lst ys)∧W2.g D=none∧AllIs K W2.g es ys)∧ys.length≤i∧Pv i es,fun i v ys H2=>∃ (W2:Vw) (es:List Dt) (e:Dt),W2.h=H2∧(Same W1.g W2.g∧Same W1.h (fun b=>if b=D then none else W2.h b)∧(∀ b,W1.h b≠none→W1.g b=none→W2.g b=none)∧W2.h D=some (.lst ys)∧W2.g D=none∧AllIs K W2.g es ys)∧ys.length≤i∧Pv i es∧vals i e∧Is K W2.g e v,?_,?_,?_,?_,?_,?_⟩
 ·refine ⟨W1.mine D (.lst []) gD,[],rfl,⟨Same.refl _,fun b o q=>?_,fun b _ q=>q,zv,gD,allIs_nil.mpr rfl⟩,Nat.le_refl _,h0⟩
  have hb:b≠D:=fun e=>by rw [e,hD] at q; cases q
  show (if b=D then none else upd W1.h D (.lst []) b)=some o
  rw [if_neg hb,zw hb]
  exact q
 ·rintro i ys _ _ ⟨W2,es,rfl,⟨s2,_,_,q1,q2,_⟩,q4,_⟩
  exact ⟨q1,q4⟩
 ·rintro i ys _ hi ⟨W2,es,rfl,hW2,q4,q5⟩
  obtain ⟨g1,g2⟩:=(hJ W2 hW2.1).1 i hi
  refine ⟨g1,fun v H3 y=>?_⟩
  obtain ⟨W3,s3,e3,e,he,ie⟩:=g2 v H3 y
  exact ⟨W3,es,e,e3,stp hW2 s3,q4,q5,he,ie⟩
 ·rintro ys _ ⟨W2,es,rfl,⟨s2,_⟩,_⟩
  exact (hJ W2 s2).2
 ·rintro i v ys _ σ0 hi ⟨W2,es,e,rfl,hW2,q4,q5,he,ie⟩ hσ0
  obtain ⟨as,da,w⟩:=ht i e es hi he q5
  refine hg e v σ0 _ W2 as hσ0 ie da _ fun vs ivs lvs=>⟨⟨vs.map some,rfl,by rw [List.length_map]; exact lvs⟩,?_⟩
  refine ht' (F:=W2.h) (as.map Sl.some++uu ρ js) (vs.map some++ut σ js) W2 _ (nO r1 hW2.1 ivs) w _ fun b W3 s3 w3=>?_
  have hW3:=stp hW2 s3
  cases b with
  | false=>exact ⟨W3,es,rfl,hW3,Nat.le_succ_of_le q4,w3⟩
  | true=>
   show te _ _ _
   refine h2 (F:=W3.h) (as.map Sl.some++uu ρ js) (vs.map some++ut σ js) W3 _ (nO r1 hW3.1 (ivs.mono s3)) w3 _ fun y w W4 s4 i4 q6=>?_
   obtain ⟨a1,a2,a3,a4,a5,a6⟩:=stp hW3 s4
   refine ⟨a4,W4.mine D (.lst (ys++[w])) a5,es++[y],rfl,⟨a1,fun b o q=>?_,a3,zv,a5,a6.append (allIs_cons.mpr ⟨w,[],rfl,i4,allIs_nil.mpr rfl⟩)⟩,by rw [List.length_append]; exact Nat.succ_le_succ q4,q6⟩
   have q':(if b=D then none else W4.h b)=some o:=a2 b o q
   have hb:b≠D:=fun e=>by rw [e,hD] at q; cases q
   rw [if_neg hb] at q'
   show (if b=D then none else upd W4.h D (.lst (ys++[w])) b)=some o
   rw [if_neg hb,zw hb]
   exact q'
 ·rintro ys _ ⟨W2,es,rfl,⟨s2,sh,sn,q1,q2,q3⟩,_,q5⟩
  refine kk es D ys W2 (s1.trans ⟨s2,fun b o q=>?_,sn⟩) (s1.h.free hD) q1 q2 q3 (hd es q5)
  have q':(if b=D then none else W2.h b)=some o:=sh b o q
  have hb:b≠D:=fun e=>by rw [e,hD] at q; cases q
  rwa [if_neg hb] at q'
def iw (ta:DTE):DTI:=fun ρ Q=>ta ρ fun d=>∃ ds,y_ d=some ds∧ds.length≤100000∧Q ds.length fun i e=>ds[i]? = some e
def XI (ta:DTE):DTI:=fun ρ Q=>ta ρ fun d=>∃ m:Int,d=.int m∧-(2 ^ 62)≤m∧m≤100000∧Q m.toNat fun i e=>e=.int i
section
variable {X:Cx} {fr:Fr} {osc scope:Scope} {bs caps:List Str} {js:List Nat} {N0:List Str} {L:Addr} {tg iter elt a:Expr} {ifs:List Expr} {ta te:DTE} {di:DTI} {tt:DTT} {dg:Dt→List Dt→Prop} {gt:TG} {px p0 pos pos1:Pos}
theorem d7 (h:DE X iter ta):DI X tg iter (iw ta):=by
 obtain ⟨te,p,l⟩:=h
 refine ⟨_,nR p,fun ρ σ W Q r h R k=>l ρ σ W _ r h _ fun d v W1 s1 i1 ⟨ds,el,hl,q⟩=>?_⟩
 obtain ⟨a,xs,rfl,hq,ha⟩:=qg i1 el
 refine ⟨a,rfl,⟨xs,hq W1 (Same.refl _)⟩,k _ _ _ W1 s1 hl (fun W2 s2=>⟨fun i hi=>?_,?_⟩) q⟩
 ·rw [ha.length] at hi
  have hv:=List.getElem?_eq_getElem hi
  refine ⟨⟨xs,_,hq W2 s2,hv⟩,fun v' H3 ⟨e1,e2⟩=>⟨W2,Le.refl _,e1.symm,?_⟩⟩
  obtain ⟨e,he,ie⟩:=ha.get' (e2 xs (hq W2 s2))
  exact ⟨e,he,Is.mono0 s2 ie⟩
 ·exact ⟨xs,hq W2 s2,by rw [ha.length]; exact Nat.le_refl _⟩
theorem ic (hg:Gl X "range") (hm:X.mg "range"=none) (h:DE X a ta) (hst:starEach [a] X.env=[(false,eval a X.env)]:=by rfl) (hst2:starEach [a] X.env=(false,eval a X.env)::starEach [] X.env:=by rfl):DI X tg (.Call (.Name "range" p0) [a] [] pos1) (XI ta):=by
 obtain ⟨te,p,l⟩:=h
 refine ⟨_,la hg hm p hst hst2,fun ρ σ W Q r h R k=>l ρ σ W _ r h _ fun d v W1 s1 i1 ⟨m,ed,m1,m2,q⟩=>?_⟩
 subst ed
 refine ⟨m,is_int.mp i1,m1,by omega,k _ _ (fun i e=>e=.int i) W1 s1 (by omega) (fun W2 s2=>⟨fun i hi=>⟨hi,fun v H3 ⟨e1,e2⟩=>⟨W2,Le.refl _,e1.symm,.int i,rfl,?_⟩⟩,Nat.le_refl _⟩) q⟩
 rw [Int.zero_add] at e2
 exact is_int.mpr e2
theorem ii (hc:X.calm=true) (S:u9 osc scope bs caps js N0=true) (hN0:X.N=N0) (he':X.env.scope=osc) (hcs:X.env.cells=cellsFrom (L+1) osc.names []) (hl:DI X tg iter di)
  (hg:∀ C s H fp pins,PG (zx X scope (x6 X.env.cells scope.names) bs caps C s H fp pins) tg gt) (lg:LiG X.K bs.length gt dg)
  (ht:∀ C s H fp pins,DC (zx X scope (x6 X.env.cells scope.names) bs caps C s H fp pins) ifs tt)
  (he:∀ C s H fp pins,DE (zx X scope (x6 X.env.cells scope.names) bs caps C s H fp pins) elt te) (hs:∀ y,foldedSetIterable iter X.env y=pure y:=by intro _; rfl):
  DF X (.ListComp elt [⟨tg,iter,ifs,0⟩] scope pos) (ve js di dg tt te):=by
 obtain ⟨wi,p,l⟩:=hl
 exact ⟨_,kJ hc (mq (hN0 ▸ S) he' hcs) p hg (fun C s H fp pins=>(ht C s H fp pins).up) (fun C s H fp pins=>(he C s H fp pins).up) hs,pP l lg pO nZ⟩
theorem qm {y:Str} {i:Nat} {py spos:Pos} (hc:X.calm=true) (S:u9 osc scope bs caps js N0=true) (hN0:X.N=N0) (he':X.env.scope=osc) (hcs:X.env.cells=cellsFrom (L+1) osc.names []) (hN:X.N.Nodup) (hi:X.N[i]? = some y) (hy:Loc X.env.scope y) (hl:DI X tg iter di)
  (hg:∀ C s H fp pins,PG (zx X scope (x6 X.env.cells scope.names) bs caps C s H fp pins) tg gt) (lg:LiG X.K bs.length gt dg)
  (ht:∀ C s H fp pins,DC (zx X scope (x6 X.env.cells scope.names) bs caps C s H fp pins) ifs tt)
  (he:∀ C s H fp pins,DE (zx X scope (x6 X.env.cells scope.names) bs caps C s H fp pins) elt te)
  (hsw:swapsWith (.ListComp elt [⟨tg,iter,ifs,0⟩] scope pos) (some (.Name y py)) spos.line X.env=pure true:=by rfl) (hs:∀ y,foldedSetIterable iter X.env y=pure y:=by intro _; rfl)
  (hf:X.fn y=true∨X.env.scope.names.lookup y=some .local:=by first | exact .inl rfl | exact .inr rfl | assumption):
  DSt X fr (.Assign [.Name y py] (.ListComp elt [⟨tg,iter,ifs,0⟩] scope pos) spos) (ce i (ve js di dg tt te)):=by
 obtain ⟨wi,p,l⟩:=hl
 exact ⟨_,pj (te:=jK X.K te) (tt:=jJ X.K tt) hc (mq (hN0 ▸ S) he' hcs) hN hi hy p hg (fun C s H fp pins=>(ht C s H fp pins).up) (fun C s H fp pins=>(he C s H fp pins).up) hsw hs hf,fun W0 G ρ σ W D D' a s h=>LiF.le (pP l lg (pO (t:=tt)) (nZ (t:=te))) ρ σ W _ a.rl h _ fun d v W1 s1 i1 q1=>s.nx _ _ W1 ((a.step s1).set i i1) q1⟩
end
end OD
namespace OD
variable {Z:Hp}
open PySem PySem.Spec PyProof.Rows L2
section
variable {K:PySem.W.Frag} {F:Hp} {W W' W0:Vw}
theorem NewL.mono {d:Dt} {v:V} (h:NewL K F W d v) (s:Le W W'):NewL K F W' d v:=by
 obtain ⟨es,p,xs,h1,h2,h3,h4,h5,h6⟩:=h
 exact ⟨es,p,xs,h1,h2,h3,s.h _ _ h4,s.n p (by rw [h4]; intro z; cases z) h5,h6.mono s⟩
theorem Prt.mono {b:Bool} {d:Dt} {v:V} (h:Prt K F W b d v) (s:Le W W'):Prt K F W' b d v:=by
 cases b with
 | false=>exact Is.mono h s
 | true=>
  rcases h with h | ⟨h1,h2⟩
  ·exact .inl (h.mono s)
  ·exact .inr ⟨h1,Is.mono h2 s⟩
theorem Prt.frz {b:Bool} {d:Dt} {u:V} (le:Le W0 W) (h:Prt K W0.h W b d u):∃ W1:Vw,W1.h=W.h∧Same W.g W1.g∧Le W0 W1∧Is K W1.g d u∧
  ∀ b2 d2 u2,Prt K W0.h W b2 d2 u2→(∀ es fs,b=true→b2=true→d=.lst es→d2=.lst fs→u≠u2)→Prt K W0.h W1 b2 d2 u2:=by
 cases b with
 | false=>exact ⟨W,rfl,Same.refl _,le,h,fun _ _ _ k _=>k⟩
 | true=>
  rcases h with ⟨es,p,xs,rfl,rfl,h3,h4,h5,h6⟩ | ⟨_,h2⟩
  ·refine ⟨W.frz p _ h4,rfl,zF h5 _,ui le h3 h4 h5,is_lst.mpr ⟨p,xs,rfl,zv,AllIs.mono0 (zF h5 _) h6⟩,fun b2 d2 u2 k ne=>?_⟩
   cases b2 with
   | false=>exact Is.mono0 (zF h5 _) k
   | true=>
    rcases k with ⟨fs,q,ys,rfl,rfl,k3,k4,k5,k6⟩ | ⟨k1,k2⟩
    ·have hq:q≠p:=fun z=>ne es fs rfl rfl rfl rfl (by rw [z])
     exact .inl ⟨fs,q,ys,rfl,rfl,k3,k4,(zw hq).trans k5,AllIs.mono0 (zF h5 _) k6⟩
    ·exact .inr ⟨k1,Is.mono0 (zF h5 _) k2⟩
  ·exact ⟨W,rfl,Same.refl _,le,h2,fun _ _ _ k _=>k⟩
theorem Tld.frz {fr:Fr} {d:Dt} {v:V} (le:Le W0 W) (h:Tld K W0.h W fr d v):∃ W1:Vw,W1.h=W.h∧Le W0 W1∧Is K W1.g d v:=by
 match fr,h with
 | .d,h=>exact ⟨W,rfl,le,h⟩
 | .l,⟨es,p,xs,e1,e2,h3,h4,h5,h6⟩=>
  subst e1; subst e2
  exact ⟨W.frz p _ h4,rfl,ui le h3 h4 h5,is_lst.mpr ⟨p,xs,rfl,zv,AllIs.mono0 (zF h5 _) h6⟩⟩
 | .t a b,⟨d1,d2,q,u1,u2,e1,e2,hq,p1,p2,ne⟩=>
  subst e1; subst e2
  obtain ⟨W1,e1,s1,le1,i1,k1⟩:=p1.frz le
  obtain ⟨W2,e2,s2,le2,i2,_⟩:=(k1 b d2 u2 p2 ne).frz le1
  exact ⟨W2,e2.trans e1,le2,is_tup.mpr ⟨q,_,rfl,s2 _ _ (s1 _ _ hq),allIs_cons.mpr ⟨u1,_,rfl,Is.mono0 s2 i1,allIs_cons.mpr ⟨u2,_,rfl,i2,allIs_nil.mpr rfl⟩⟩⟩⟩
end
def cV (K:PySem.W.Frag) (fr:Fr) (S:DSp):Sp:=fun vs H Q _=>∃ (W:Vw) (ds:List Dt) (Qd:Dt→Prop),W.h=H∧AllIs K W.g ds vs∧S ds Qd∧∀ d v W',Le W W'→Tld K W.h W' fr d v→Qd d→Q v W'.h
def iI (K:PySem.W.Frag) (fr:Fr) (S:xh):Sp:=fun vs H Q E=>∃ (W:Vw) (ds:List Dt) (Qd:Dt→Prop) (Ed:Addr→Prop),W.h=H∧AllIs K W.g ds vs∧S ds Qd Ed∧
 (∀ d v W',Le W W'→Tld K W.h W' fr d v→Qd d→Q v W'.h)∧∀ C H',Same W.h H'→Ed C→E (.ref C) none H'
structure TOk (P:Program) (w:World) (K:PySem.W.Frag) (mg:Str→Option Value) (base:Heap) (n:Nat) (x:Str) (fr:Fr) (S:DSp):Prop where
 ex:∃ f fd ps,mg x=some (.ref f)∧PySem.W.keepIn K (.ref f)=true∧Binds K fd ps []∧FnOk P w K mg base CX0 n f fd ps (cV K fr S)
structure TOkX (P:Program) (w:World) (K:PySem.W.Frag) (mg:Str→Option Value) (base:Heap) (n:Nat) (x:Str) (fr:Fr) (S:xh):Prop where
 ex:∃ f fd ps,mg x=some (.ref f)∧PySem.W.keepIn K (.ref f)=true∧Binds K fd ps []∧FnOk P w K mg base (CX1 P w) n f fd ps (iI K fr S)
section
variable {P:Program} {w:World} {K:PySem.W.Frag} {mg:Str→Option Value} {base:Heap} {fr:Fr}
theorem TOk.mk' {x qual:Str} {st:Stmt} {f:Addr} {fd:FuncData} {ps:List Str} {n:Nat} {S:DSp} (F:Fun K x qual st f fd) (hm:mg x=some (.ref f)) (hb:Binds K fd ps []) (h:FnOk P w K mg base CX0 n f fd ps (cV K fr S)):TOk P w K mg base n x fr S:=
 ⟨f,fd,ps,hm,F.kp,hb,h⟩
theorem TOkX.mk' {x qual:Str} {st:Stmt} {f:Addr} {fd:FuncData} {ps:List Str} {n:Nat} {S:xh} (F:Fun K x qual st f fd) (hm:mg x=some (.ref f)) (hb:Binds K fd ps []) (h:FnOk P w K mg base (CX1 P w) n f fd ps (iI K fr S)):TOkX P w K mg base n x fr S:=
 ⟨f,fd,ps,hm,F.kp,hb,h⟩
end
section
variable {X:Cx} {fr:Fr} {a b:Bool} {e e1 e2:Expr} {es:List Expr} {t t1 t2:DTE} {ta:DTA} {n:Nat} {x y:Str} {S:DSp} {SX:xh} {p pos p0 p1 p2:Pos} {i j:Nat}
def slP:Bool→Dt→Sl
 | true,.lst es=>.own es
 | _,d=>.some d
theorem Rl.ownN {K:PySem.W.Frag} {F:Hp} {W:Vw} {ρ:DS} {σ:St} (r:Rl K Z F W ρ σ) {p:Addr} {xs:List V} {ds:List Dt} (i:Nat) (nep:∀ (j:Nat) (es:List Dt),ρ[j]? = some (Sl.own es)→σ[j]?≠some (some (V.ref p))) (nea:∀ (j:Nat) (a:Addr) (es:List Dt),ρ[j]? = some (Sl.arg a es)→a≠p)
  (hF:F p=none) (h1:W.h p=some (.lst xs)) (h2:W.g p=none) (h3:AllIs K W.g ds xs):Rl K Z F W (ρ.set i (.own ds)) (σ.set i (some (.ref p))):=by
 refine ⟨by rw [List.length_set,List.length_set]; exact r.len,fun j e q=>?_,fun j es q=>?_,fun j k es es' hjk q1 q2=>?_,r.fr,r.z,fun j a fs q=>?_⟩
 ·rcases zt q with ⟨_,_,e1⟩ | ⟨hij,q⟩
  ·cases e1
  ·rw [List.getElem?_set_ne hij]
   exact r.at_ j e q
 ·rcases zt q with ⟨rfl,hl,e1⟩ | ⟨hij,q⟩
  ·cases e1
   exact ⟨p,xs,by rw [List.getElem?_set_self (by rw [← r.len]; exact hl)],h1,h2,hF,h3⟩
  ·rw [List.getElem?_set_ne hij]
   exact r.ow j es q
 ·rcases zt q1 with ⟨rfl,hl,e1⟩ | ⟨hij,q1⟩
  ·rcases zt q2 with ⟨rfl,_,_⟩ | ⟨hik,q2⟩
   ·exact absurd rfl hjk
   ·rw [List.getElem?_set_self (by rw [← r.len]; exact hl),List.getElem?_set_ne hik]
    exact fun z=>nep k es' q2 z.symm
  ·rcases zt q2 with ⟨rfl,hl,_⟩ | ⟨hik,q2⟩
   ·rw [List.getElem?_set_self (by rw [← r.len]; exact hl),List.getElem?_set_ne hij]
    exact nep j es q1
   ·rw [List.getElem?_set_ne hij,List.getElem?_set_ne hik]
    exact r.ne j k es es' hjk q1 q2
 ·rcases zt q with ⟨_,_,e1⟩ | ⟨hij,q⟩
  ·cases e1
  obtain ⟨⟨ys,g1,g2⟩,k1,k2⟩:=r.ar j a fs q
  refine ⟨⟨ys,by rw [List.getElem?_set_ne hij]; exact g1,g2⟩,fun k es q'=>?_,fun k c es q'=>?_⟩
  ·rcases zt q' with ⟨rfl,hl,e1⟩ | ⟨hik,q'⟩
   ·rw [List.getElem?_set_self (by rw [← r.len]; exact hl)]
    intro z
    cases z
    exact nea j _ fs q rfl
   ·rw [List.getElem?_set_ne hik]
    exact k1 k es q'
  ·rcases zt q' with ⟨_,_,e1⟩ | ⟨hik,q'⟩
   ·cases e1
   exact k2 k c es q'
theorem Rl.part {K:PySem.W.Frag} {F F':Hp} {W:Vw} {ρ:DS} {σ:St} (r:Rl K Z F W ρ σ) {b:Bool} {d:Dt} {v:V} (i:Nat) (h:Prt K F' W b d v) (hF:∀ p,F' p=none→F p=none)
  (nep:∀ (p:Addr) (j:Nat) (es fs:List Dt),b=true→d=.lst fs→v=.ref p→F' p=none→ρ[j]? = some (Sl.own es)→σ[j]?≠some (some (V.ref p))) (nea:∀ (p:Addr) (j:Nat) (a:Addr) (es:List Dt),F' p=none→ρ[j]? = some (Sl.arg a es)→a≠p):
  Rl K Z F W (ρ.set i (slP b d)) (σ.set i (some v)):=by
 cases b with
 | false=>cases d <;> exact r.set i h
 | true=>
  rcases h with ⟨es,p,xs,rfl,rfl,h3,h4,h5,h6⟩ | ⟨z,h2⟩
  ·exact r.ownN i (fun j fs e=>nep p j fs es rfl rfl rfl h3 e) (fun j a fs e=>nea p j a fs h3 e) (hF p h3) h4 h5 h6
  ·cases d <;> first | exact r.set i h2 | cases z
end
end OD
namespace L2
open PySem PySem.Spec PyProof.Rows
def Cx.arg (X:Cx):Cx:={ X with fn:=fun y=>!(y == "") }
section
variable {X:Cx} {pins:List (Addr × Obj)} {σ:St} {H:Hp} {s:Shared}
theorem Inv.arg (I:Inv X pins σ H s) (hf:∀ y,X.fn y=true):Inv X.arg pins σ H s:=
 ⟨⟨I.ok.mod,I.ok.kind,I.ok.glob,I.ok.blt,I.ok.above,I.ok.inj,I.ok.has,fun x c _=>I.ok.cab x c (hf x),I.ok.hd,I.ok.frames,I.ok.stk,I.ok.exf,I.ok.bs,I.ok.bsz,I.ok.noex,I.ok.exfs,I.ok.funs,I.ok.frf⟩,I.os,I.bare,I.base,I.loc,I.cell,I.free,I.freeC,I.pin,I.hok,I.len⟩
end
end L2
namespace OD
variable {Z:Hp}
open PySem PySem.Spec PyProof.Rows L2
def Vw.del (W:Vw) (a:Addr) (hg:W.g a=none):Vw:=⟨W.g,fun b=>if b=a then none else W.h b,fun b o q=>by
 have:b≠a:=fun e=>by rw [e,hg] at q; cases q
 show (if b=a then none else W.h b)=some o
 rw [if_neg this]
 exact W.sub _ _ q⟩
abbrev ASp:=Dt→List Dt→List Dt→(List Dt→Prop)→Prop
def cZ (K:PySem.W.Frag) (S:ASp):Sp:=fun vs H Q _=>∃ (W:Vw) (d0:Dt) (es0 ds:List Dt) (Qd:List Dt→Prop) (v0:V) (a:Addr) (xs vs':List V) (hg:W.g a=none),W.h=H∧vs=v0::.ref a::vs'∧W.h a=some (.lst xs)∧Is K W.g d0 v0∧AllIs K W.g es0 xs∧AllIs K W.g ds vs'∧S d0 es0 ds Qd∧
 ∀ es ys W',Le (W.del a hg) W'→W'.h a=some (.lst ys)→W'.g a=none→AllIs K W'.g es ys→Qd es→Q .non W'.h
structure AOk (P:Program) (w:World) (K:PySem.W.Frag) (mg:Str→Option Value) (base:Heap) (n:Nat) (x:Str) (S:ASp):Prop where
 ex:∃ f fd ps,mg x=some (.ref f)∧PySem.W.keepIn K (.ref f)=true∧Binds K fd ps []∧FnOk P w K mg base CX0 n f fd ps (cZ K S)
section
variable {P:Program} {w:World} {K:PySem.W.Frag} {mg:Str→Option Value} {base:Heap}
theorem AOk.mk' {x qual:Str} {st:Stmt} {f:Addr} {fd:FuncData} {ps:List Str} {n:Nat} {S:ASp} (F:Fun K x qual st f fd) (hm:mg x=some (.ref f)) (hb:Binds K fd ps []) (h:FnOk P w K mg base CX0 n f fd ps (cZ K S)):AOk P w K mg base n x S:=
 ⟨f,fd,ps,hm,F.kp,hb,h⟩
end
section
variable {X:Cx} {fr:Fr} {e e0 k:Expr} {es:List Expr} {t te tk:DTE} {ta:DTA} {n:Nat} {x y:Str} {S:ASp} {p pos p0 p1 p2 p3:Pos} {i:Nat}
theorem qX {K:PySem.W.Frag} {G G':Hp}:∀ {ds:List Dt} {vs:List V},ds.all qY=true→AllIs K G ds vs→AllIs K G' ds vs
 | [],_,_,h=>allIs_nil.mpr (allIs_nil.mp h)
 | d::ds,_,z,h=>by
  obtain ⟨x,r,rfl,h1,h2⟩:=allIs_cons.mp h
  rw [List.all_cons,Bool.and_eq_true] at z
  exact allIs_cons.mpr ⟨x,r,rfl,hG z.1 h1,qX z.2 h2⟩
end
end OD
namespace OD
variable {Z:Hp}
open PySem PySem.Spec PyProof.Rows L2
section
variable {X:Cx} {tg:Expr}
variable {a b c:Expr} {ta:DTA} {p0 pos1:Pos}
end
end OD
namespace L2
open PySem PySem.Spec PyProof.Rows
section
variable {X:Cx}
end
end L2
namespace OD
variable {Z:Hp}
open PySem PySem.Spec PyProof.Rows L2
abbrev DTB:=Prop→(Addr→Prop)→DS→Prop
section
variable {X:Cx} {e:Expr} {es:List Expr} {t:DTA} {n:Nat} {x y m:Str} {j:Nat} {S:xh} {p pos py hpos epos tpos:Pos} {fr:Fr} {th:DTS} {c:Value} {b₀:Stmt} {suite body:List Stmt} {d:DTB}
end
end OD
namespace OD
open PySem L2
variable {X:Cx} {e:Expr} {t:DTE}
def Uk (t:DTE):DTE:=fun ρ Q=>t (ρ.map fz) fun d=>(∃ es:List Dt,d=.lst es∧es.all qY=true)∧Q d
theorem XE (h:DF X e t):DF X e (Uk t):=by
 obtain ⟨te,p,l⟩:=h
 refine ⟨te,p,fun ρ σ H Q r hq R k=>?_⟩
 obtain ⟨W',e,sg,r',_⟩:=r.bor
 have:=l (ρ.map fz) σ W' _ r' hq R fun es p xs H1 s1 h0 h1 h2 ia ⟨⟨es',ee,hs⟩,q1⟩=>by
  obtain ⟨H2,e2,eg,s2⟩:=og e s1 sg
  obtain rfl:es=es':=by injection ee
  rw [e] at h0
  rw [← e2] at h1
  rw [← e2]
  refine k es p xs H2 s2 h0 h1 ?_ (qX hs ia) q1
  rw [eg]
  cases z:H.g p with
  | none=>rfl
  | some o=>rw [H.sub _ _ z] at h0; cases h0
 rw [e] at this
 exact this
end OD
namespace OD
open PySem L2 PyProof.Rows
section
variable {Z F:Hp} {K:PySem.W.Frag} {W W' W0:Vw} {G:Hp} {ρ:DS} {σ:L2.St}
theorem km {α:Type} {l:List α} {x y:α} {i:Nat} (q:(l++[x])[i]? = some y):l[i]? = some y∨(i=l.length∧x=y):=by
 rcases Nat.lt_trichotomy i l.length with h | h | h
 ·rw [List.getElem?_append_left h] at q; exact .inl q
 ·subst h
  rw [List.getElem?_append_right (Nat.le_refl _),Nat.sub_self] at q
  exact .inr ⟨rfl,Option.some.inj q⟩
 ·rw [List.getElem?_eq_none (by rw [List.length_append]; show l.length+1≤i; omega)] at q
  cases q
theorem tX {α:Type} {l:List α} {y:α} {i:Nat} (q:l[i]? = some y):i<l.length:=by
 rcases Nat.lt_or_ge i l.length with h | h
 ·exact h
 ·rw [List.getElem?_eq_none h] at q; cases q
theorem xE {α:Type} {l:List α} {x y:α} {i:Nat} (q:l[i]? = some y):(l++[x])[i]? = some y:=by rw [List.getElem?_append_left (tX q)]; exact q
theorem nL {α:Type} {l:List α} {x:α} {i:Nat} (h:i<l.length):(l++[x])[i]? = l[i]?:=List.getElem?_append_left h
theorem Rl.push (r:Rl K Z F W ρ σ):Rl K Z F W (ρ++[Sl.none]) (σ++[none]):=by
 have hs:∀ i y,ρ[i]? = some y→(σ++[none])[i]? = σ[i]?:=fun i y q=>nL (by rw [← r.len]; exact tX q)
 have cl:∀ i y,(ρ++[Sl.none])[i]? = some y→y≠Sl.none→ρ[i]? = some y:=fun i y q hy=>by
  rcases km q with q | ⟨_,e⟩
  ·exact q
  ·exact absurd e.symm hy
 refine ⟨by rw [List.length_append,List.length_append,r.len]; rfl,fun i d q=>?_,fun i ds q=>?_,fun i k ds es hik q1 q2=>?_,r.fr,r.z,fun i c ds q=>?_⟩
 ·have q:=cl i _ q (fun z=>nomatch z)
  rw [hs i _ q]; exact r.at_ i d q
 ·have q:=cl i _ q (fun z=>nomatch z)
  rw [hs i _ q]; exact r.ow i ds q
 ·have q1:=cl i _ q1 (fun z=>nomatch z)
  have q2:=cl k _ q2 (fun z=>nomatch z)
  rw [hs i _ q1,hs k _ q2]; exact r.ne i k ds es hik q1 q2
 ·have q:=cl i _ q (fun z=>nomatch z)
  obtain ⟨⟨xs,h1,h2⟩,k1,k2⟩:=r.ar i c ds q
  refine ⟨⟨xs,by rw [hs i _ q]; exact h1,h2⟩,fun k es q'=>?_,fun k b es q'=>k2 k b es (cl k _ q' (fun z=>nomatch z))⟩
  have q':=cl k _ q' (fun z=>nomatch z)
  rw [hs k _ q']; exact k1 k es q'
theorem Rl.snocOff {x:Sl} {o:Option V} (r:Rl K Z F W (ρ++[x]) (σ++[o])):Rl K Z F W ρ σ:=by
 have len:ρ.length=σ.length:=by have:=r.len; rw [List.length_append,List.length_append] at this; exact Nat.succ.inj this
 have hs:∀ i y,ρ[i]? = some y→(σ++[o])[i]? = σ[i]?:=fun i y q=>nL (by rw [← len]; exact tX q)
 refine ⟨len,fun i d q=>?_,fun i ds q=>?_,fun i k ds es hik q1 q2=>?_,r.fr,r.z,fun i c ds q=>?_⟩
 ·rw [← hs i _ q]; exact r.at_ i d (xE q)
 ·rw [← hs i _ q]; exact r.ow i ds (xE q)
 ·rw [← hs i _ q1,← hs k _ q2]; exact r.ne i k ds es hik (xE q1) (xE q2)
 ·obtain ⟨⟨xs,h1,h2⟩,k1,k2⟩:=r.ar i c ds (xE q)
  exact ⟨⟨xs,by rw [← hs i _ q]; exact h1,h2⟩,fun k es q'=>by rw [← hs k _ q']; exact k1 k es (xE q'),fun k b es q'=>k2 k b es (xE q')⟩
theorem kl {α:Type} {l:List α} {x y:α} {n:Nat} (h:n=l.length):(l++[x]).set n y=l++[y]:=by
 subst h
 rw [List.set_append_right _ _ (Nat.le_refl _),Nat.sub_self]; rfl
theorem uY {α:Type} {l:List α} {x:α} {n:Nat} (h:n=l.length):(l++[x])[n]? = some x:=by
 subst h
 rw [List.getElem?_append_right (Nat.le_refl _),Nat.sub_self]; rfl
structure TAt (K:PySem.W.Frag) (Z:Hp) (W0:Vw) (G:Hp) (W:Vw) (ρ:DS) (σ:L2.St) (i:Nat) (es:List Dt) (d:Dt):Prop where
 ex:∃ p q v,At K Z W0 G W (ρ++[.own es]) (σ++[some (.ref p)])∧σ[i]? = some (some (.ref q))∧W.g q=some (.tup [.ref p,v])∧Is K W.g d v
variable {i:Nat} {es:List Dt} {d:Dt}
theorem TAt.step (t:TAt K Z W0 G W ρ σ i es d) (s:Le W W'):TAt K Z W0 G W' ρ σ i es d:=
 let ⟨p,q,v,a,h1,h2,h3⟩:=t.ex; ⟨p,q,v,a.step s,h1,s.g _ _ h2,h3.mono s⟩
theorem TAt.bor (t:TAt K Z W0 G W ρ σ i es d):∃ W':Vw,W'.h=W.h∧Same W.g W'.g∧Rl K Z W0.h W' ((ρ.set i (.some (.tup [.lst es,d]))).map fz) σ:=by
 obtain ⟨p,q,v,a,h1,h2,h3⟩:=t.ex
 have len:ρ.length=σ.length:=by have:=a.rl.len; rw [List.length_append,List.length_append] at this; exact Nat.succ.inj this
 obtain ⟨b,xs,e1,e2,e3,e4,e5⟩:=a.rl.ow ρ.length es (uY rfl)
 rw [uY len] at e1
 cases e1
 have r1:=a.rl.frz (uY rfl) (uY len) e2 e3 e5
 rw [kl rfl] at r1
 have sg:Same W.g (W.frz p _ e2).g:=zF e3 _
 have r2:=r1.snocOff.set (d:=.tup [.lst es,d]) (v:=.ref q) i (is_tup.mpr ⟨q,_,rfl,sg _ _ h2,allIs_cons.mpr ⟨_,_,rfl,is_lst.mpr ⟨p,xs,rfl,zv,AllIs.mono0 sg e5⟩,allIs_cons.mpr ⟨v,_,rfl,Is.mono0 sg h3,allIs_nil.mpr rfl⟩⟩⟩)
 have es:σ.set i (some (.ref q))=σ:=by
  apply List.ext_getElem?
  intro j
  by_cases hj:i=j
  ·subst hj; rw [List.getElem?_set_self (tX h1)]; exact h1.symm
  ·rw [List.getElem?_set_ne hj]
 rw [es] at r2
 obtain ⟨W',f1,f2,f3,_⟩:=r2.bor
 exact ⟨W',f1,sg.trans f2,f3⟩
abbrev DTG:=List Dt→Dt→DTS
end
section
variable {X:Cx} {fr:Fr} {st:Stmt} {yk:List Stmt} {t:DTE} {u:DTS} {ug:DTG} {e:Expr} {te:DTE} {pos p0 p1 p2 p3 pos':Pos} {i j:Nat} {x y:Str}
end
end OD
namespace OD
open PySem L2
section
variable {js:List Nat} {ta te:DTE} {X:Cx} {e:Expr} {fr:Fr} {st:Stmt} {i:Nat}
theorem each_t {s:DS} {P R:Prop}:(uF s fun b=>if b=true then P else R)=P:=by show (if true=true then P else R)=P; rw [if_pos rfl]
theorem cF {e:Dt} {s:List Dt→DS} {P R:List Dt→Prop} (h:∃ as,lS e as∧uF (s as) fun b=>if b=true then P as else R as):P [e]:=by
 obtain ⟨as,z,h⟩:=h
 cases z
 exact each_t.mp h
theorem iD:iz js ta te=ve js (XI ta) lS uF te:=funext fun ρ=>funext fun Q=>congrArg (ta ρ) (funext fun d=>propext
 ⟨fun ⟨m,Pv,h1,h2,h3,h4,h5,h6⟩=>⟨m,h1,h2,h3,Pv,h4,fun i e es hi he hp=>⟨_,rfl,each_t.mpr (he ▸ h5 i es hi hp)⟩,h6⟩,
  fun ⟨m,h1,h2,h3,Pv,h4,h5,h6⟩=>⟨m,Pv,h1,h2,h3,h4,fun i es hi hp=>cF (h5 i _ es hi rfl hp),h6⟩⟩)
theorem iE:mm js ta te=ve js (iw ta) lS uF te:=funext fun ρ=>funext fun Q=>congrArg (ta ρ) (funext fun d=>propext
 ⟨fun ⟨ds,Pv,h1,h3,h4,h5,h6⟩=>⟨ds,h1,h3,Pv,h4,fun i e es _ he hp=>⟨_,rfl,each_t.mpr (h5 i e es he hp)⟩,h6⟩,
  fun ⟨ds,h1,h3,Pv,h4,h5,h6⟩=>⟨ds,Pv,h1,h3,h4,fun i e es he hp=>cF (h5 i e es (tX he) he hp),h6⟩⟩)
theorem Up (h:DF X e (ve js (XI ta) lS uF te)):DF X e (iz js ta te):=iD ▸ h
theorem Uo (h:DSt X fr st (ce i (ve js (iw ta) lS uF te))):DSt X fr st (ce i (mm js ta te)):=iE ▸ h
end
end OD
namespace L2
open PySem PySem.Spec PyProof.Rows
section
variable {X:Cx} {o e:Expr} {es:List Expr} {n:Nat} {m x:Str} {pos p apos py epos:Pos} {i:Nat}
end
end L2
namespace OD
variable {Z:Hp}
open PySem PySem.Spec PyProof.Rows L2
structure MOkX (P:Program) (w:World) (K:PySem.W.Frag) (mg:Str→Option Value) (base:Heap) (n:Nat) (C:Addr) (m:Str) (S:xh):Prop where
 cl:Cls K C
 ex:∃ f fd ps,iS K C m f∧Binds K fd ps []∧FnOk P w K mg base (CX1 P w) n f fd ps (vJ K S)
theorem MOkX.mono {P:Program} {w:World} {K:PySem.W.Frag} {mg:Str→Option Value} {base:Heap} {C:Addr} {x:Str} {m n:Nat} {S:xh} (h:MOkX P w K mg base m C x S) (hl:m≤n):MOkX P w K mg base n C x S:=
 let ⟨f,fd,ps,a,b,c⟩:=h.ex; ⟨h.cl,f,fd,ps,a,b,c.mono hl⟩
abbrev DTC:=(DS→Prop)→(Addr→Prop)→DS→Prop
section
variable {X:Cx} {o e:Expr} {es:List Expr} {t:DTA} {ta:DTE} {n:Nat} {x y m z:Str} {i j:Nat} {S:xh} {p pos py hpos epos tpos apos:Pos} {fr:Fr} {th:DTS} {c:Value} {b₀:Stmt} {suite body:List Stmt} {d:DTC}
end
end OD
namespace OD
variable {Z:Hp}
open PySem PySem.Spec PyProof.Rows L2
section
variable {X:Cx} {a b:Expr} {ta:DTA} {te:DTE} {p0 pos pos1 tpos:Pos} {elts:List Expr} {x1:Nat}
end
end OD
namespace OD
open PySem L2 PyProof.Rows
def Ux (K:PySem.W.Frag) (S:DSp):Sp:=fun vs H Q _=>∃ (W:Vw) (d0:Dt) (es0 ds:List Dt) (Qd:Dt→Prop) (v0:V) (a:Addr) (xs vs':List V) (hg:W.g a=none),W.h=H∧vs=v0::.ref a::vs'∧W.h a=some (.lst xs)∧Is K W.g d0 v0∧AllIs K W.g es0 xs∧AllIs K W.g ds vs'∧S (d0::.lst es0::ds) Qd∧
 ∀ es p ys W',Le (W.del a hg) W'→(W.del a hg).h p=none→W'.h p=some (.lst ys)→W'.g p=none→AllIs K W'.g es ys→Qd (.lst es)→Q (.ref p) W'.h
structure VOk (P:Program) (w:World) (K:PySem.W.Frag) (mg:Str→Option Value) (base:Heap) (n:Nat) (x:Str) (S:DSp):Prop where
 ex:∃ f fd ps,mg x=some (.ref f)∧PySem.W.keepIn K (.ref f)=true∧Binds K fd ps []∧FnOk P w K mg base CX0 n f fd ps (Ux K S)
section
variable {P:Program} {w:World} {K:PySem.W.Frag} {mg:Str→Option Value} {base:Heap}
theorem VOk.mk' {x qual:Str} {st:Stmt} {f:Addr} {fd:FuncData} {ps:List Str} {n:Nat} {S:DSp} (F:Fun K x qual st f fd) (hm:mg x=some (.ref f)) (hb:Binds K fd ps []) (h:FnOk P w K mg base CX0 n f fd ps (Ux K S)):VOk P w K mg base n x S:=
 ⟨f,fd,ps,hm,F.kp,hb,h⟩
end
section
variable {X:Cx} {e0 e1:Expr} {es:List Expr} {t tf:DTE} {ta:DTA} {n:Nat} {x:Str} {S:DSp} {p pos:Pos}
end
end OD
namespace L2
open PySem PySem.Spec PyProof.Rows
section
variable {X:Cx} {a b:Expr} {ta tb:TE} {x1 x2:Str} {p1 p2 p3 p4 pos:Pos}
end
end L2
namespace OD
open PySem PySem.Spec PyProof.Rows L2
section
variable {X:Cx} {a b:Expr} {ta tb:DTE} {x1 x2:Str} {p1 p2 p3 p4 pos:Pos}
end
section
variable {X:Cx} {e:Expr} {es:List Expr} {t:DTA} {n:Nat} {x:Str} {p pos:Pos}
end
section
variable {P:Program} {w:World} {K:PySem.W.Frag} {mg:Str→Option Value} {base:Heap}
end
end OD
namespace OD
variable {Z:Hp}
open PySem PySem.Spec PyProof.Rows L2
section
variable {X:Cx} {tg:Expr}
variable {a b c:Expr} {ta:DTA} {p0 pos1:Pos}
end
end OD
namespace L2
open PySem PySem.Spec PyProof.Rows
section
variable {prog:Program} {w:World} {A:Around} {E:Value→Shared→Prop} {s:Shared}
end
section
variable {X:Cx} {pos:Pos}
end
end L2
namespace OD
open PySem PySem.Spec PyProof.Rows L2
section
variable {X:Cx} {fr:Fr} {e:Expr} {te:DTE} {pos:Pos}
end
end OD
namespace L2
open PySem PySem.Spec PyProof.Rows
section
variable {X:Cx}
theorem Vals.oneS {x:Str} {us:List Value} (h:Vals [.str x] us):∃ t,us=[.str x t]:=by
 obtain ⟨u,rfl,t,rfl⟩:=h.one
 exact ⟨t,rfl⟩
theorem lu:MtR X "str.startswith" (fun x vs H Q=>∃ z y,x=.str z∧vs=[.str y]∧Q (.bl (Txt.startswith z y)) H):=by
 intro pins s σ H x vs v us Q I rx rv h
 obtain ⟨z,y,rfl,rfl,q⟩:=h
 obtain ⟨t,rfl⟩:=rx
 obtain ⟨u,rfl⟩:=rv.oneS
 exact call_gives PySem.F.slot_str_startswith (typeIs_str s z t) PySem.F.entry_str_startswith (PySem.F.args_str_startswith_2 _ _) (gives_str_startswith z y t u) ⟨.bl _,H,I,rfl,q⟩
theorem o8:MtR X "str.rstrip" (fun x vs H Q=>∃ z y,x=.str z∧vs=[.str y]∧z.length≤sizeLine∧Q (.str (Txt.rstripChars z y)) H):=by
 intro pins s σ H x vs v us Q I rx rv h
 obtain ⟨z,y,rfl,rfl,hl,q⟩:=h
 obtain ⟨t,rfl⟩:=rx
 obtain ⟨u,rfl⟩:=rv.oneS
 exact call_gives PySem.F.slot_str_rstrip (typeIs_str s z t) PySem.F.entry_str_rstrip (PySem.F.args_str_rstrip_2 _ _) (gives_str_rstrip_chars z y t u) (post_val_or_made (fun _=>fits_stripped _ _ _ hl) fun t' k=>⟨.str _,H,I.tok _,⟨_,rfl⟩,q⟩)
def UJ:V→Option Int→Option Int→Hp→VK→Prop:=fun x lo hi H Q=>∃ z,x=.str z∧z.length≤sizeLine∧Q (.str (Txt.slice z lo hi)) H
theorem nW {v:Value} {o:Option Int} (h:IsPart v o):∃ l:Option (Int × Tok),partValue l=v∧l.map (·.1)=o:=by
 cases h with
 | none=>exact ⟨none,rfl,rfl⟩
 | int i t=>exact ⟨some (i,t),rfl,rfl⟩
theorem bg:SlR X UJ:=by
 intro pins s σ H x v vl vu lo hi sl Q I rx hs pl pu h
 obtain ⟨z,rfl,hl,q⟩:=h
 obtain ⟨t,rfl⟩:=rx
 obtain ⟨l,rfl,el⟩:=nW pl
 obtain ⟨u,rfl,eu⟩:=nW pu
 have hs':s.heap.IsSlice sl l u none:=hs
 refine ⟨"str",_,PySem.F.slot_str_getitem.lookup,typeIs_str s z t,wpAny_getItem_str_slice hs' rfl ?_⟩
 have key:∀ t' k,EP X pins σ Q (.str (Txt.slice z (l.map (·.1)) (u.map (·.1))) t') { s with toks:=k }:=fun t' k=>⟨.str _,H,I.tok _,⟨_,rfl⟩,by rw [el,eu]; exact q⟩
 exact post_val_or_str ⟨Nat.le_trans (Txt.slice_le z _ _) hl,key⟩
end
end L2
namespace OD
open PySem PySem.Spec PyProof.Rows L2
section
variable {X:Cx} {a b e:Expr} {ta tb t:DTE} {p pos p0:Pos} {x:Str}
def VT:Dt→Dt→(Dt→Prop)→Prop:=fun d e Q=>∃ x y,d=.str x∧e=.str y∧x.length+y.length≤16777216∧Q (.str (x++y))
theorem kW:DOp X (binaryOp .Add) VT:=by
 refine ⟨_,oS,fun H x y d e Q i1 i2 ⟨u,v,ed,ee,hl,q⟩ R k=>?_⟩
 subst ed
 subst ee
 exact ⟨u,v,is_str.mp i1,is_str.mp i2,by rw [sizeLine_eq]; exact hl,k _ _ H (Le.refl H) (is_str.mpr rfl) q⟩
def occ (y x:Str):Bool:=!(Builtin.Str.occurrences x y 0 x.length 1).isEmpty
theorem kU:DOp X (compareOp .NotIn) (gS fun y x=>.bl (!occ y x)):=by
 refine ⟨_,rP,fun H x y d e Q i1 i2 ⟨u,v,ed,ee,q⟩ R k=>?_⟩
 subst ed
 subst ee
 exact ⟨u,v,is_str.mp i1,is_str.mp i2,k _ _ H (Le.refl H) (is_bl.mpr rfl) q⟩
def V7 (ta:DTE):DTE:=fun ρ Q=>ta ρ fun d=>∃ x,d=.str x∧x.length≤16777216∧Q (.int x.length)
theorem ml (hg:Gl X "len") (hm:X.mg "len"=none) (ha:DE X a ta) (hs:starEach [a] X.env=(false,eval a X.env)::starEach [] X.env:=by rfl) (hpl:(backTo pos (starEach [] X.env)).any (·.1)=false:=by rfl):
  DE X (.Call (.Name "len" p0) [a] [] pos) (V7 ta):=by
 obtain ⟨te,p1,l1⟩:=ha
 refine ⟨_,y7 qz hg hm PySem.boot_len (zE p1 z6 hs) (by decide) (by decide) hs hpl,fun ρ σ H Q r h R k=>l1 ρ σ H _ r h _ fun d v H1 s1 i1 ⟨x,ed,hl,q⟩=>?_⟩
 subst ed
 exact ⟨x,by rw [is_str.mp i1],by rw [sizeLine_eq]; exact hl,k _ _ H1 s1 (is_int.mpr rfl) q⟩
def U9 (ta:DTE):DTE:=fun ρ Q=>ta ρ fun d=>∃ i:Int,d=.int i∧i.natAbs.log2<1920∧Q (.str (toString i))
theorem mj (hg:Gl X "str") (hm:X.mg "str"=none) (ha:DE X a ta) (hs:starEach [a] X.env=(false,eval a X.env)::starEach [] X.env:=by rfl) (hpl:(backTo pos (starEach [] X.env)).any (·.1)=false:=by rfl):
  DE X (.Call (.Name "str" p0) [a] [] pos) (U9 ta):=by
 obtain ⟨te,p1,l1⟩:=ha
 refine ⟨_,uc qx hg hm PyProof.Rows.boot_str (zE p1 z6 hs) (by decide) (by decide) hs hpl,fun ρ σ H Q r h R k=>l1 ρ σ H _ r h _ fun d v H1 s1 i1 ⟨i,ed,hl,q⟩=>?_⟩
 subst ed
 exact ⟨i,by rw [is_int.mp i1],hl,k _ _ H1 s1 (is_str.mpr rfl) q⟩
def Th (ta tb:DTE):DTE:=dOp (fun d e Q=>∃ x i c,d=.str x∧e=.int i∧0≤i∧i<2 ^ 63∧i<x.length∧x.cps[i.toNat]? = some c∧Q (.str ⟨#[c]⟩)) ta tb
theorem XG (ha:DE X a ta) (hb:DE X b tb) (hs:oo b:=by intro _ _; rfl):DE X (.Subscript a b pos) (Th ta tb):=by
 obtain ⟨te,p1,l1⟩:=ha
 obtain ⟨tf,p2,l2⟩:=hb
 refine ⟨_,pC p1 p2 hs,dJ l1 l2 fun H x y d e Q i1 i2 ⟨z,i,c,ed,ee,h0,h1,h2,hc,q⟩ R k=>?_⟩
 subst ed
 subst ee
 exact ⟨z,i,c,is_str.mp i1,is_int.mp i2,h0,h1,h2,hc,k _ _ H (Le.refl H) (is_str.mpr rfl) q⟩
theorem cb {y:Str} {tk:Tok} (hg:Gl X x) (hm:X.mg x=some (.str y tk)) (hd:(x == ("__debug__":Str))=false:=by decide):DE X (.Name x pos) (dC (.str y)):=
 ⟨_,nU hg hm (v:=.str y) ⟨tk,rfl⟩ hd,fun ρ σ H Q r h R k=>k (.str y) (.str y) H (Le.refl H) (is_str.mpr rfl) h⟩
def dMt (f:Str→Str→Dt) (ta tb:DTE):DTE:=fun ρ Q=>ta ρ fun d=>∃ x,d=.str x∧x.length≤16777216∧tb ρ fun e=>∃ y,e=.str y∧Q (f x y)
variable {apos cpos:Pos}
theorem lQ (ha:DE X a ta) (hb:DE X b tb) (hbase:attributeBase a "startswith" X.env (eval a X.env)=eval a X.env:=by rfl)
  (hfew:((backTo cpos (starEach [b] X.env)).all (fun x=>!x.1) && (backToKw cpos (keywordEach [] X.env)).all (fun x=>x.1.isSome)
   && decide ([b].length+([]:List Keyword).length+(if ([]:List Keyword).isEmpty then 0 else 1)<30))=true:=by rfl)
  (hline:(apos.endLine == cpos.line)=true:=by rfl) (hs:starEach [b] X.env=(false,eval b X.env)::starEach [] X.env:=by rfl) (hpl:(backTo cpos (starEach [] X.env)).any (·.1)=false:=by rfl):
  DE X (.Call (.Attribute a "startswith" apos) [b] [] cpos) (dMt (fun x y=>.bl (Txt.startswith x y)) ta tb):=by
 obtain ⟨te,p1,l1⟩:=ha
 obtain ⟨tf,p2,l2⟩:=hb
 refine ⟨_,nV PySem.F.plainAttrs_str PySem.F.slot_str_startswith PySem.F.type_str_startswith lu p1 (zE p2 z6 hs) hbase hfew hline hs hpl,fun ρ σ H Q r h R k=>l1 ρ σ H _ r h _ fun d v H1 s1 i1 ⟨x,ed,hl,q1⟩=>?_⟩
 subst ed
 obtain rfl:=is_str.mp i1
 refine ⟨rfl,l2 ρ σ H1 _ (r.mono s1) q1 _ fun e u H2 s2 i2 ⟨y,ee,q2⟩=>?_⟩
 subst ee
 obtain rfl:=is_str.mp i2
 exact ⟨x,y,rfl,rfl,k _ _ H2 (s1.trans s2) (is_bl.mpr rfl) q2⟩
theorem nB (ha:DE X a ta) (hb:DE X b tb) (hbase:attributeBase a "rstrip" X.env (eval a X.env)=eval a X.env:=by rfl)
  (hfew:((backTo cpos (starEach [b] X.env)).all (fun x=>!x.1) && (backToKw cpos (keywordEach [] X.env)).all (fun x=>x.1.isSome)
   && decide ([b].length+([]:List Keyword).length+(if ([]:List Keyword).isEmpty then 0 else 1)<30))=true:=by rfl)
  (hline:(apos.endLine == cpos.line)=true:=by rfl) (hs:starEach [b] X.env=(false,eval b X.env)::starEach [] X.env:=by rfl) (hpl:(backTo cpos (starEach [] X.env)).any (·.1)=false:=by rfl):
  DE X (.Call (.Attribute a "rstrip" apos) [b] [] cpos) (dMt (fun x y=>.str (Txt.rstripChars x y)) ta tb):=by
 obtain ⟨te,p1,l1⟩:=ha
 obtain ⟨tf,p2,l2⟩:=hb
 refine ⟨_,nV PySem.F.plainAttrs_str PySem.F.slot_str_rstrip PySem.F.type_str_rstrip o8 p1 (zE p2 z6 hs) hbase hfew hline hs hpl,fun ρ σ H Q r h R k=>l1 ρ σ H _ r h _ fun d v H1 s1 i1 ⟨x,ed,hl,q1⟩=>?_⟩
 subst ed
 obtain rfl:=is_str.mp i1
 refine ⟨rfl,l2 ρ σ H1 _ (r.mono s1) q1 _ fun e u H2 s2 i2 ⟨y,ee,q2⟩=>?_⟩
 subst ee
 obtain rfl:=is_str.mp i2
 exact ⟨x,y,rfl,rfl,by rw [sizeLine_eq]; exact hl,k _ _ H2 (s1.trans s2) (is_str.mpr rfl) q2⟩
def U_ (te:DTE) (tl th:DTO):DTE:=fun ρ Q=>te ρ fun d=>tl ρ fun l=>th ρ fun u=>∃ x,d=.str x∧x.length≤16777216∧Q (.str (Txt.slice x l u))
theorem ra {lo hi:Option Expr} {tl th:DTO} {p2:Pos} (ha:DE X a ta) (hl:DO X lo tl) (hu:DO X hi th):DE X (.Subscript a (.Slice lo hi none p2) pos) (U_ ta tl th):=by
 obtain ⟨te,p1,l1⟩:=ha
 obtain ⟨tf,p2,l2⟩:=hl
 obtain ⟨tg,p3,l3⟩:=hu
 refine ⟨_,pq bg p1 p2 p3,fun ρ σ H Q r h R k=>l1 ρ σ H _ r h _ fun d v H1 s1 i1 q1=>l2 ρ σ H1 _ (r.mono s1) q1 _ fun l H2 s2 q2=>l3 ρ σ H2 _ (r.mono (s1.trans s2)) q2 _ fun u H3 s3 ⟨x,ed,hx,q⟩=>?_⟩
 subst ed
 exact ⟨x,is_str.mp i1,by rw [sizeLine_eq]; exact hx,k _ _ H3 ((s1.trans s2).trans s3) (is_str.mpr rfl) q⟩
end
end OD
namespace L2
open PySem PySem.Spec PyProof.Rows
def ItS (z:Str):It:=⟨fun i _=>i<z.cps.size,fun i H x H'=>H'=H∧∃ c,z.cps[i]? = some c∧x=.str ⟨#[c]⟩,fun i _=>z.cps.size≤i⟩
theorem oz {P:Program} {w:World} {K:PySem.W.Frag} {tg:Expr} (it:Addr) (z:Str) (t:Tok):qE P w K tg (ItS z) [it] it (fun i h=>h.IsStrIter it "str_ascii_iterator" z t i) where
 mem:=by simp
 obj:=fun i h st b hb=>by
  have e:b=it:=by simpa using hb
  subst e
  obtain ⟨o,e,c,d⟩:=st
  exact ⟨o,e,fun v z=>by rw [d] at z; cases z⟩
 keep:=fun i h h' st k=>by
  obtain ⟨o,e,r⟩:=st
  exact ⟨o,k it (by simp) o e,r⟩
 item:=by
  intro X hP hw hK hc i pins s σ H E I hf st hg
  subst hP hw hK
  obtain ⟨f0,f1,f2,f3,f4,f5⟩:=hf it (by simp)
  have hg:i<z.cps.size:=hg
  have W:=Walks.strAscii (prog:=X.prog) (w:=X.w) (I.ok.hd hc) it z t
  refine W.item i s _ _ hg st fun v h' tk hv st' kk=>?_
  obtain ⟨c,u,ec,rfl⟩:=hv
  have I1:Inv X pins σ H { s with heap:=h',toks:=tk }:=I.turned (fun b o hb e=>kk b o (by simpa using hb) e) f0 f1 f3 f4 f5
  obtain ⟨o,e,cl,d⟩:=id st'
  exact ⟨_,rfl,n6 (s:={ s with heap:=h',toks:=tk }) e cl d (by decide) ⟨.str ⟨#[c]⟩,H,I1,⟨u,rfl⟩,⟨rfl,c,ec,rfl⟩,st',fun b hb=>(hf b hb).1⟩⟩
 done:=by
  intro X hP hw hK hc i pins s σ H E I hf st hg
  subst hP hw hK
  obtain ⟨f0,f1,f2,f3,f4,f5⟩:=hf it (by simp)
  have hg:z.cps.size≤i:=hg
  exact wpAny_pyNext_ascii_end (I.ok.hd hc) st (by simp; omega) fun h' eb=>⟨rfl,I.turned (t':=s.toks) (fun b o hb e=>eb b o hb e) f0 f1 f3 f4 f5⟩
 self:=fun _ _ _ _ _ st h=>wpAny_pyIter_striter_ascii st h
section
variable {X:Cx} {tg:Expr}
def U3 (tl:TE):TI:=fun σ H R=>tl σ H fun v H1=>∃ z,v=.str z∧z.cps.all (· < 128)=true∧R (ItS z) H1
theorem bB {l:Expr} {tl:TE} (hl:PE X l tl):PI X tg l (U3 tl):=by
 intro pins s σ H R I h
 refine thn (hl pins s σ H _ I h) fun v s1 ⟨x,H1,I1,r1,q1⟩=>?_
 obtain ⟨z,e,ha,q⟩:=q1
 subst e
 obtain ⟨t,rfl⟩:=r1
 refine wpAny_pyIter_ascii ha ?_
 refine ⟨s1.heap.objs.size,[s1.heap.objs.size],_,_,H1,rfl,I1.kept (t':=s1.toks) fun b o e=>Heap.get?_push_of_some _ e,oz _ z t,⟨_,Heap.get?_push_size _ rfl,rfl,rfl⟩,fun b hb=>?_,q⟩
 have e:b=s1.heap.objs.size:=by simpa using hb
 subst e
 exact I1.fpOk (Nat.le_refl _) (I1.hok.fresh (Nat.le_refl _))
theorem dQ {z:Str} {g:TG} {tb:TS} {D:wS} {σ:St} {H:Hp} (Pv:Nat→St→Hp→Prop) (h0:Pv 0 σ H)
  (hs:∀ i c σ H,z.cps[i]? = some c→Pv i σ H→g (.str ⟨#[c]⟩) σ H fun σ2 H2=>tb { D with nx:=Pv (i+1),ct:=Pv (i+1),bk:=D.nx } σ2 H2) (hd:∀ σ H,Pv z.cps.size σ H→D.nx σ H):
  ∃ W:Nat→Nat→St→Hp→Prop,(∃ m,W 0 m σ H)∧∀ i m σ H,W i m σ H→
   ((ItS z).stop i H∧D.nx σ H)∨((ItS z).go i H∧∃ N:St→Hp→Prop,(∀ σ' H',N σ' H'→∃ m',m'<m∧W (i+1) m' σ' H')∧∀ x H',(ItS z).yld i H x H'→g x σ H' fun σ2 H2=>tb { D with nx:=N,ct:=N,bk:=D.nx } σ2 H2):=by
 refine ⟨fun i m σ H=>m=z.cps.size - i∧i≤z.cps.size∧Pv i σ H,⟨z.cps.size,by simp,Nat.zero_le _,h0⟩,?_⟩
 rintro i m σ H ⟨rfl,hi,p⟩
 by_cases hlt:i<z.cps.size
 ·refine .inr ⟨hlt,Pv (i+1),fun σ' H' p'=>⟨z.cps.size - (i+1),by omega,rfl,hlt,p'⟩,fun x H' y=>?_⟩
  obtain ⟨e,c,ec,y⟩:=y
  subst e y
  exact hs i c σ _ ec p
 ·have e:i=z.cps.size:=by omega
  subst e
  exact .inl ⟨Nat.le_refl _,hd σ H p⟩
end
end L2
namespace OD
open PySem PySem.Spec PyProof.Rows L2
section
variable {X:Cx} {fr:Fr} {te:DTE} {pos:Pos}
def Ud (j:Nat) (te:DTE) (tb:DTS):DTS:=fun D ρ=>te ρ fun d=>∃ (x:Str) (Pv:Nat→DS→Prop),d=.str x∧x.cps.all (· < 128)=true∧Pv 0 ρ∧
 (∀ i c ρ',x.cps[i]? = some c→Pv i ρ'→tb { D with nx:=Pv (i+1),ct:=Pv (i+1),bk:=D.nx } (ρ'.set j (.some (.str ⟨#[c]⟩))))∧∀ ρ',Pv x.cps.size ρ'→D.nx ρ'
theorem d6 {j:Nat} {x:Str} {a:Expr} {body:List Stmt} {tb:DTS} {px:Pos} (hc:X.calm=true) (hN:X.N.Nodup) (hi:X.N[j]? = some x) (hx:Loc X.env.scope x) (hp:PassesOwn (model X.prog X.w) X.A X.env X.xe)
  (h:DE X a te) (hb:DSs X fr body tb) (hs:∀ x,foldedSetIterable a X.env x=pure x:=by intro _; rfl)
  (hf:X.fn x=true∨X.env.scope.names.lookup x=some .local:=by first | exact .inl rfl | exact .inr rfl | assumption):DSt X fr (.For (.Name x px) a body [] pos) (Ud j te tb):=by
 obtain ⟨tt,p,l⟩:=h
 obtain ⟨tbs,p2,l2⟩:=hb
 refine ⟨_,w_ hp hc (bB p) (yq hN hi hx hf) p2 hs,fun W0 G ρ σ W D D' at_ s h=>l ρ σ W _ at_.rl h _ fun d v W1 s1 i1 ⟨z,Pv,ed,hz,h0,ht,hd⟩=>?_⟩
 subst ed
 have hg:Same G W1.g:=at_.gs.trans s1.g
 refine ⟨z,is_str.mp i1,hz,dQ (fun i=>InL X.K (Zx X) W0 W1 (Pv i)) ⟨ρ,W1,rfl,(at_.step s1).now,h0⟩ ?_ ?_⟩
 ·rintro i c σ' _ ec ⟨ρ',W2,rfl,a2,hp2⟩
  exact l2 W0 W1.g _ _ W2 { D with nx:=Pv (i+1),ct:=Pv (i+1),bk:=D.nx } _ (a2.set j (is_str.mpr rfl)) (yF s hg) (ht i c ρ' ec hp2)
 ·rintro σ' _ ⟨ρ',W2,rfl,a2,hp2⟩
  exact s.nx ρ' σ' W2 (a2.weak hg) (hd ρ' hp2)
end
end OD
namespace OD
open PySem
local macro_rules | `(tactic| walk_at "ws") => `(tactic| any_goals (first | assumption | wp_step))
def yH (c:Nat):Prop:=48≤c∧c≤57
def dgs (l:List Nat):Nat:=l.foldl (fun a c=>a*10+(c - 48)) 0
def dgVal:List Nat→Int
 | 45::r=>-(dgs r:Int)
 | l=>dgs l
def Numl (l:List Nat):Prop:=l=[48]∨∃ c r,49≤c∧c≤57∧(∀ x∈r,yH x)∧(l=c::r∨l=45::c::r)
theorem Numl.mem {l:List Nat} (h:Numl l):∀ c∈l,45≤c∧c≤57:=by
 rcases h with rfl | ⟨c,r,c1,c2,hr,rfl | rfl⟩
 ·intro c hc
  rw [List.mem_singleton.mp hc]; decide
 ·intro x hx
  rcases List.mem_cons.mp hx with rfl | hx
  ·omega
  ·have:=hr x hx
   unfold yH at this; omega
 ·intro x hx
  rcases List.mem_cons.mp hx with rfl | hx
  ·decide
  rcases List.mem_cons.mp hx with rfl | hx
  ·omega
  ·have:=hr x hx
   unfold yH at this; omega
theorem ten {c:Nat} (h:yH c):c=48∨c=49∨c=50∨c=51∨c=52∨c=53∨c=54∨c=55∨c=56∨c=57:=by
 unfold yH at h; omega
theorem wT {p:Nat→Bool}:∀ {l:List Nat},(∀ x∈l,p x=true)→l.takeWhile p=l
 | [],_=>rfl
 | c::r,h=>by rw [List.takeWhile_cons,if_pos (h c List.mem_cons_self),wT fun x hx=>h x (List.mem_cons_of_mem _ hx)]
theorem n8 {f:Array Nat × Bool→Nat→Option (Array Nat × Bool)} (hf:∀ a b c,yH c→f (a,b) c=some (a.push (c - 48),true)):∀ (l:List Nat) (a:Array Nat) (b:Bool),(∀ x∈l,yH x)→l.foldlM f (a,b)=some (a++(l.map (· - 48)).toArray,b || !l.isEmpty)
 | [],a,b,_=>by simp
 | c::r,a,b,h=>by
  rw [List.foldlM_cons,hf a b c (h c List.mem_cons_self)]
  show r.foldlM f (a.push (c - 48),true)=_
  rw [n8 hf r _ _ fun x hx=>h x (List.mem_cons_of_mem _ hx)]
  simp
theorem lO {p:Nat→Bool} (hp:∀ c,yH c→p c=false):∀ (l:List Nat),(∀ x∈l,yH x)→l≠[]→(l.reverse.dropWhile p).reverse=l:=fun l h hn=>by
 cases e:l.reverse with
 | nil=>simp at e; exact absurd e hn
 | cons c r=>
  rw [List.dropWhile_cons,hp c (h c (by rw [← List.mem_reverse,e]; exact List.mem_cons_self))]
  simp only [Bool.false_eq_true,if_false]
  rw [← e,List.reverse_reverse]
theorem sU {N:Type} {R inv lib:N} {tl:Nat→N} {val:Int→N} {p:Nat→Bool} {f:Array Nat × Bool→Nat→Option (Array Nat × Bool)} {g:Array Nat × Bool→Option (Array Nat)} {cs:List Nat} {neg:Bool}
  (hR:R=(match (cs.reverse.dropWhile p).reverse.foldlM f (#[],false) >>= g with
   | none=>inv
   | some ds=>if (![2,4,8,16,32].contains 10 && 0 != 0 && decide (ds.size>0))=true then tl ds.size else if (10 == 10 && decide (ds.size>6000))=true then lib else
    if (false && ds.foldl (fun acc d=>acc*10+d) 0 != 0)=true then inv else val (if neg=true then -((ds.foldl (fun acc d=>acc*10+d) 0:Nat):Int) else ((ds.foldl (fun acc d=>acc*10+d) 0:Nat):Int))))
  (hf:∀ a b c,yH c→f (a,b) c=some (a.push (c - 48),true)) (hp:∀ c,yH c→p c=false) (hg:∀ a,g (a,true)=some a) (hd:∀ x∈cs,yH x) (hn:cs≠[]) (hl:cs.length≤640):
  R=val (if neg=true then -(dgs cs:Int) else dgs cs):=by
 rw [hR,lO hp cs hd hn,n8 hf cs _ _ hd]
 have e:(false || !cs.isEmpty)=true:=by cases cs <;> first | rfl | exact absurd rfl hn
 rw [e]
 show (match g (#[]++(cs.map (· - 48)).toArray,true) with | none=>inv | some ds=>_)=_
 rw [hg]
 have sz:(#[]++(cs.map (· - 48)).toArray:Array Nat).size=cs.length:=by simp
 have fo:(#[]++(cs.map (· - 48)).toArray:Array Nat).foldl (fun acc d=>acc*10+d) 0=dgs cs:=by simp [dgs,List.foldl_map]
 show (if (![2,4,8,16,32].contains 10 && 0 != 0 && decide ((#[]++(cs.map (· - 48)).toArray:Array Nat).size>0))=true then _ else _)=_
 rw [if_neg (by simp),if_neg (by rw [sz]; simp; omega),if_neg (by simp),fo]
theorem meets_int_new_str (x:Str) (t:Tok) (hx:Numl x.cps.toList) (hl:x.cps.toList.length≤640):
  Meets (Builtin.«int.__new__» ⟨[.type "int",.str x t],[]⟩) (Made.int (dgVal x.cps.toList)).spec:=
 Meets.of_wp fun prog w A R s h=>by
  obtain ⟨hp,g,d,tk,os⟩:=s
  have hm:=hx.mem
  have ha:x.cps.all (· < 128)=true:=by
   rw [← Array.all_toList,List.all_eq_true]
   intro c hc
   have:=hm c hc
   exact decide_eq_true (by omega)
  have hz:x.cps.toList.takeWhile (· != 0)=x.cps.toList:=wT fun c hc=>by
   have:=hm c hc
   simp
   omega
  clear hm
  have f1:=F.conv_sub_int
  have f2:=F.madeHere_int
  have f3:typeLookup (.type "str") "__int__"=pure none:=by rw [typeLookup_type,builtinLookup_eq_fast]; kernel_rfl
  have f4:typeLookup (.type "str") "__index__"=pure none:=by rw [typeLookup_type,builtinLookup_eq_fast]; kernel_rfl
  have f5:typeLookup (.type "str") "__trunc__"=pure none:=by rw [typeLookup_type,builtinLookup_eq_fast]; kernel_rfl
  iterate 48 walk_at "ws"
  simp only [ha,if_true]
  repeat walk_at "ws"
  simp only [hz,hl,if_true]
  repeat walk_at "ws"
  generalize x.cps.toList=l at *
  rcases hx with rfl | ⟨c,r,c1,c2,hr,rfl | rfl⟩
  ·split
   ·rename_i heq
    injection heq
   ·rename_i heq
    injection heq
   ·rename_i heq
    injection heq with heq
    subst heq
    repeat walk_at "ws"
    exact ⟨_,rfl,h⟩
   ·rename_i heq
    injection heq
  all_goals
   have nn:c=49∨c=50∨c=51∨c=52∨c=53∨c=54∨c=55∨c=56∨c=57:=by omega
   have hd:∀ x∈c::r,yH x:=fun x hx=>by
    rcases List.mem_cons.mp hx with rfl | hx
    ·exact ⟨by omega,by omega⟩
    ·exact hr x hx
   have hl':(c::r).length≤640:=by simp only [List.length_cons] at hl ⊢; omega
  ·have hv:(if false=true then -(dgs (c::r):Int) else dgs (c::r))=dgVal (c::r):=by
    rcases nn with rfl | rfl | rfl | rfl | rfl | rfl | rfl | rfl | rfl <;> rfl
   split
   all_goals
    rename_i heq
    have e:=(sU (neg:=false) (cs:=c::r) (by rcases nn with rfl | rfl | rfl | rfl | rfl | rfl | rfl | rfl | rfl <;> rfl) (fun a b c h=>by rcases ten h with rfl | rfl | rfl | rfl | rfl | rfl | rfl | rfl | rfl | rfl <;> rfl) (fun c h=>by rcases ten h with rfl | rfl | rfl | rfl | rfl | rfl | rfl | rfl | rfl | rfl <;> rfl) (fun a=>rfl) hd (fun z=>nomatch z) hl').symm.trans heq
   ·injection e
   ·injection e
   ·injection e with e
    rw [hv] at e
    subst e
    repeat walk_at "ws"
    exact ⟨_,rfl,h⟩
   ·injection e
  ·split
   all_goals
    rename_i heq
    have e:=(sU (neg:=true) (cs:=c::r) (by rcases nn with rfl | rfl | rfl | rfl | rfl | rfl | rfl | rfl | rfl <;> rfl) (fun a b c h=>by rcases ten h with rfl | rfl | rfl | rfl | rfl | rfl | rfl | rfl | rfl | rfl <;> rfl) (fun c h=>by rcases ten h with rfl | rfl | rfl | rfl | rfl | rfl | rfl | rfl | rfl | rfl <;> rfl) (fun a=>rfl) hd (fun z=>nomatch z) hl').symm.trans heq
   ·injection e
   ·injection e
   ·injection e with e
    subst e
    repeat walk_at "ws"
    exact ⟨_,rfl,h⟩
   ·injection e
end OD
namespace L2
open PySem PySem.Spec PyProof.Rows
section
variable {X:Cx}
theorem qA:CallR X (.type "int") (fun xs H Q=>∃ z,xs=[.str z]∧OD.Numl z.cps.toList∧z.cps.toList.length≤640∧Q (.int (OD.dgVal z.cps.toList)) H):=by
 intro pins s σ H xs us Q I r h
 obtain ⟨z,rfl,hn,hl,q⟩:=h
 obtain ⟨t,rfl⟩:=r.oneS
 exact call_int_1 (OD.meets_int_new_str z t hn hl) ⟨rfl,.int _,H,I.tok _,⟨_,rfl⟩,q⟩
end
end L2
namespace OD
open PySem PySem.Spec PyProof.Rows L2
section
variable {X:Cx} {a b e:Expr} {ta tb t:DTE} {p pos p0:Pos} {x:Str}
theorem p5 {y:Str} (hg:Gl X x) (hm:∃ tk,X.mg x=some (.str y tk)) (hd:(x == ("__debug__":Str))=false:=by decide):DE X (.Name x pos) (dC (.str y)):=by
 obtain ⟨tk,hm⟩:=hm
 exact cb hg hm hd
def Ua (ta:DTE):DTE:=fun ρ Q=>ta ρ fun d=>∃ x:Str,d=.str x∧Numl x.cps.toList∧x.cps.toList.length≤640∧Q (.int (dgVal x.cps.toList))
theorem ca (hg:Gl X "int") (hm:X.mg "int"=none) (ha:DE X a ta) (hs:starEach [a] X.env=(false,eval a X.env)::starEach [] X.env:=by rfl) (hpl:(backTo pos (starEach [] X.env)).any (·.1)=false:=by rfl):
  DE X (.Call (.Name "int" p0) [a] [] pos) (Ua ta):=by
 obtain ⟨te,p1,l1⟩:=ha
 refine ⟨_,uc qA hg hm rb (zE p1 z6 hs) (by decide) (by decide) hs hpl,fun ρ σ H Q r h R k=>l1 ρ σ H _ r h _ fun d v H1 s1 i1 ⟨x,ed,hn,hl,q⟩=>?_⟩
 subst ed
 exact ⟨x,by rw [is_str.mp i1],hn,hl,k _ _ H1 s1 (is_int.mpr rfl) q⟩
variable {apos cpos:Pos}
end
end OD
namespace PySem
open Sem (wp)
section
variable {A:Around} {R:Result→Shared→Prop} {s:Shared} {w:World} {prog:Program}
end
end PySem
namespace PySem
open Sem (wp)
section
variable {A:Around} {R:Result→Shared→Prop} {s:Shared} {w:World} {prog:Program}
end
end PySem
namespace L2
open PySem PySem.Spec PyProof.Rows
section
variable {X:Cx} {a:Expr} {p0 p1 pos pos1:Pos}
end
end L2
namespace OD
open PySem PySem.Spec PyProof.Rows L2
section
variable {X:Cx} {a:Expr} {ta:DTE} {p0 p1 pos pos1:Pos}
end
end OD
namespace PySem
open Sem (wp)
section
variable {A:Around} {R:Result→Shared→Prop} {s:Shared} {w:World} {prog:Program}
end
end PySem
namespace L2
open PySem PySem.Spec PyProof.Rows
section
variable {X:Cx}
end
end L2
namespace OD
open PySem PySem.Spec PyProof.Rows L2
section
variable {X:Cx}
theorem oh {K:PySem.W.Frag} {H:Hp}:∀ {ns:List Int} {xs:List V},AllIs K H (ns.map Dt.int) xs→xs=ns.map V.int
 | [],xs,h=>allIs_nil.mp h
 | x::ns,xs,h=>by
  obtain ⟨v,r,rfl,h1,h2⟩:=allIs_cons.mp h
  rw [oh h2,is_int.mp h1]
  rfl
end
end OD
namespace L2
open PySem PySem.Spec PyProof.Rows
section
variable {P:Program} {w:World} {stack:List Env} {H H':Hp} {h0 h:Heap} {e L:Addr} {cls:Value}
end
section
variable {X:Cx} {pins:List (Addr × Obj)} {σ:St} {H H':Hp} {s s':Shared} {M:Model} {E:Value→Shared→Prop} {e:Addr} {cls:Value}
end
end L2
namespace OD
open PySem PySem.Spec PyProof.Rows L2
section
variable {X:Cx} {pins pins1:List (Addr × Obj)} {σ σ1:L2.St} {H3 H1 H':Hp} {s3 s1 s':Shared} {scope:Scope} {x:Str} {fp:List Addr} {C a:Addr} {cls:Value}
end
section
variable {P:Program} {w:World} {K:PySem.W.Frag} {mg:Str→Option Value} {base:Heap} {N:List Str} {qual:Str} {scope:Scope} {f C:Addr} {cd:Value} {A:Around} {outer:List Env} {s:Shared} {H H1:Hp} {E:XK}
end
section
variable {X:Cx} {pins:List (Addr × Obj)} {σ:L2.St} {H:Hp} {s:Shared} {scope:Scope} {x:Str} {fp:List Addr}
end
section
variable {Z:Hp} {X:Cx} {fr:Fr} {scope:Scope} {x g:Str} {iter:Expr} {px pv pf pos cpos:Pos} {tl:DTE} {S:xh} {n:Nat}
end
section
variable {P:Program} {w:World} {K:PySem.W.Frag} {mg:Str→Option Value} {base:Heap}
end
section
variable {X:Cx} {fr:Fr} {a e:Expr} {tg:Expr} {ta:DTA} {te:DTE} {p0 pos pos1 rpos tpos:Pos} {h₀:ExceptHandler} {hs:List ExceptHandler}
theorem nw (he:DE X.nox e te):DSt X .d (.Try [.Return (some e) rpos] (h₀::hs) [] [] tpos) (XJ te):=by
 obtain ⟨tt,p,l⟩:=he
 refine ⟨X9 tt,fun pins s σ H D I h=>?_,fun W0 G ρ σ W D D' a s h=>l ρ σ W _ a.rl h _ fun d v W1 s1 i1 q1=>s.tl d v W1 (a.le.trans s1) i1 q1⟩
 refine wpAny_Try_except (wpAny_execs_cons (wpAny_Return_some (wpAny_mono (p pins s σ H _ (I.wish _) h) (fun v s1 ⟨x,H1,I1,r1,q1⟩=>?_) fun _ _ z=>z.elim)))
 exact ⟨x,σ,H1,I1.unwish,r1,q1⟩
end
end OD
namespace L2
open PySem PySem.Spec PyProof.Rows
section
variable {X:Cx}
theorem vj:∀ {us:List Value} {ns:List Int},IntsAre us ns→Vals (ns.map V.int) us
 | _,_,.nil=>.nil
 | _,_,.cons n t h=>.cons ⟨t,rfl⟩ (vj h)
theorem oe:CallR X (.builtin "sorted") (fun xs H Q=>∃ p,∃ ns:List Int,xs=[.ref p]∧SqL X.K H p (ns.map V.int)∧ns.length<64∧∀ (l:Addr) (ms:List Int),H l=none→ms.Perm ns→ms.Pairwise (·≤·)→Q (.ref l) (upd H l (.lst (ms.map V.int)))):=by
 intro pins s σ H xs us Q I r h
 obtain ⟨p,ns,rfl,hq,hlt,q⟩:=h
 obtain ⟨u,rfl,rx⟩:=qR r
 cases rx
 obtain ⟨its,r',pl,hz⟩:=I.list hq
 have hlen:=r'.length
 rw [List.length_map] at hlen
 refine sorted_ints pl.isList (nh r') (by omega) fun out ms hI hp hs=>?_
 obtain ⟨e,hat⟩:=sortedAll_at s.heap its out
 have fr:s.heap.objs.size≤s.heap.objs.size+1:=Nat.le_succ _
 exact ⟨.ref (s.heap.objs.size+1),_,I.laid (t':=s.toks) (o:=.lst (ms.map V.int)) (fun b o hb=>sortedAll_old hb) fr ⟨by rw [List.length_map,hp.length_eq]; exact Nat.le_trans (Nat.le_of_lt hlt) (by decide),out.toList,e,vj hI,by simpa [seqObj] using hat⟩,rfl,q _ ms (I.hok.fresh fr) hp hs⟩
end
end L2
namespace OD
open PySem PySem.Spec PyProof.Rows L2
section
variable {X:Cx} {a:Expr} {ta:DTE} {p0 pos:Pos}
theorem n5 {K:PySem.W.Frag} {H:Hp}:∀ ns:List Int,AllIs K H (ns.map Dt.int) (ns.map V.int)
 | []=>allIs_nil.mpr rfl
 | n::ns=>allIs_cons.mpr ⟨.int n,_,rfl,is_int.mpr rfl,n5 ns⟩
def cc (ta:DTE):DTE:=fun ρ Q=>ta ρ fun d=>∃ ns:List Int,y_ d=some (ns.map Dt.int)∧ns.length<64∧∀ ms:List Int,ms.Perm ns→ms.Pairwise (·≤·)→Q (.lst (ms.map Dt.int))
theorem lP (hg:Gl X "sorted") (hm:X.mg "sorted"=none) (ha:DE X a ta) (hs:starEach [a] X.env=(false,eval a X.env)::starEach [] X.env:=by rfl) (hpl:(backTo pos (starEach [] X.env)).any (·.1)=false:=by rfl):
  DF X (.Call (.Name "sorted" p0) [a] [] pos) (cc ta):=by
 obtain ⟨te,q1,l1⟩:=ha
 refine ⟨_,y7 oe hg hm (by decide +kernel) (zE q1 z6 hs) (by decide) (by decide) hs hpl,fun ρ σ H Q r h R k=>l1 ρ σ H _ r h _ fun d v H1 s1 i1 ⟨ns,e,hlt,q⟩=>?_⟩
 obtain ⟨b,xs,rfl,h1,h2⟩:=qe i1 e
 have ex:=oh h2
 subst ex
 exact ⟨b,ns,rfl,h1,hlt,fun p ms hp hpm hps=>k _ p _ (H1.mine p _ (H1.sub.free hp)) (s1.trans (qi hp _)) (s1.h.free hp) zv (H1.sub.free hp) (n5 ms) (q ms hpm hps)⟩
end
end OD
namespace My
open PySem L2 OD
local macro_rules | `(tactic| walk_at "sc") => `(tactic| exact ⟨rfl, rfl, rfl, by decide +kernel, rfl, by decide +kernel, by decide +kernel⟩)
local macro_rules | `(tactic| walk_at "ln") => `(tactic| (intros; rename_i h; repeat (first | (obtain ⟨e, _⟩ := h; subst e; rfl) | obtain ⟨_, h⟩ := h)))
local macro_rules | `(tactic| walk_at "rd1") => `(tactic| first | refine ⟨_, rfl, ?_⟩ | refine ⟨_, _, rfl, rfl, ?_⟩ | refine ⟨_, _, _, _, rfl, rfl, rfl, ?_⟩ | refine ⟨_, _, _, rfl, rfl, rfl, ?_⟩ | refine UX ?_ | refine UY ?_ | refine ⟨rfl, rfl, ?_⟩ | refine ⟨rfl, ?_⟩ | refine ⟨iF (by decide), ?_⟩ | refine ⟨se (by decide), ?_⟩ | refine ⟨Um (by decide), ?_⟩ | refine ⟨VG (by decide), ?_⟩ | refine ⟨Xl (by decide), ?_⟩ | refine ⟨_, _, rfl, ?_⟩)
local macro_rules | `(tactic| walk_at "rd") => `(tactic| repeat (walk_at "rd1"))
theorem ifT {b:Bool} {A B:Prop} (e:b=true) (h:A):if b=true then A else B:=by rw [if_pos e]; exact h
theorem ifF {b:Bool} {A B:Prop} (e:b=false) (h:B):if b=true then A else B:=by rw [if_neg (by rw [e]; exact Bool.false_ne_true)]; exact h
theorem ifB {b:Bool} {A B:Prop} (h1:b=true→A) (h2:b=false→B):if b=true then A else B:=by
 cases b with
 | true=>exact ifT rfl (h1 rfl)
 | false=>exact ifF rfl (h2 rfl)
theorem eqI {a b:Int} (h:a=b):eqD (.int a) (.int b)=true:=by rw [yT]; exact beq_iff_eq.mpr h
theorem neI {a b:Int} (h:a≠b):eqD (.int a) (.int b)=false:=by rw [yT]; exact beq_eq_false_iff_ne.mpr h
theorem tN {a b:Int} (h:eqD (.int a) (.int b)=true):a=b:=by rw [yT] at h; exact beq_iff_eq.mp h
theorem o7 {a b:Int} (h:eqD (.int a) (.int b)=false):a≠b:=by rw [yT] at h; exact beq_eq_false_iff_ne.mp h
theorem nT {b:Bool} (h:b=true):(!b)=false:=by rw [h]; rfl
theorem nF {b:Bool} (h:b=false):(!b)=true:=by rw [h]; rfl
theorem kS {b:Bool} (h:(!b)=true):b=false:=by cases b <;> first | rfl | cases h
theorem vv {b:Bool} (h:(!b)=false):b=true:=by cases b <;> first | rfl | cases h
def zu (ns:List Int):Dt:=.lst (ns.map Dt.int)
def trim (ns:List Int):List Int:=(ns.reverse.dropWhile (· == 0)).reverse
def iR:DSp:=fun ds Q=>∃ ns k,ds=[.scr ns,.int k]∧0≤k∧∀ z:Int,Q (.int z)
def mI:DSp:=fun ds Q=>∃ ns:List Int,ds=[.scr ns]∧ns.length≤63∧Q (.bl true)
theorem qB {xs:List Int} {k:Int} (h0:0≤k) (h:k<xs.length):atI (xs.map Dt.int) k=some (.int (xs.getD k.toNat 0)):=by
 have e:((k.toNat:Nat):Int)=k:=Int.toNat_of_nonneg h0
 have hl:k.toNat<xs.length:=by omega
 have:=wO (j:=k.toNat) (xs:=xs.map Dt.int) (v:=.int (xs.getD k.toNat 0)) (by
  rw [List.getElem?_map,List.getElem?_eq_getElem hl,List.getD_eq_getElem?_getD,List.getElem?_eq_getElem hl]
  rfl)
 rwa [e] at this
theorem w9 {ns:List Int} {i:Nat} (h:i<ns.length):atI (ns.map Dt.int) (i:Int)=some (.int (ns.getD i 0)):=by
 refine wO ?_
 rw [List.getElem?_map,List.getElem?_eq_getElem h,List.getD_eq_getElem?_getD,List.getElem?_eq_getElem h]
 rfl
theorem dM {n:Nat} {k:Int} (h0:0≤k) (h:k<n):ixN n k=some k.toNat:=by
 unfold ixN
 rw [if_pos h0,if_pos h]
theorem pQ {n:Nat} (h:0<n):ixN n (-1)=some (n - 1):=by
 unfold ixN
 rw [if_neg (by decide),if_pos (by omega)]
 congr 1
 omega
theorem xf {xs:List Int} {z:Int}:atI ((xs++[z]).map Dt.int) (-1)=some (.int z):=by
 unfold atI
 rw [pQ (by rw [List.length_map,List.length_append]; exact Nat.succ_pos _)]
 show ((xs++[z]).map Dt.int)[((xs++[z]).map Dt.int).length - 1]? = _
 rw [List.length_map,List.length_append,List.map_append,List.getElem?_append_right (by rw [List.length_map]; exact Nat.le_of_eq (Nat.add_sub_cancel ..).symm)]
 rw [List.length_map,show xs.length+[z].length - 1 - xs.length=0 by simp]
 rfl
theorem XY {ns:List Int} {n:Nat}:(ns.map Dt.int).all (okE n)=true:=by
 rw [List.all_eq_true]
 intro x hx
 obtain ⟨z,_,e⟩:=List.mem_map.mp hx
 subst e
 cases n <;> rfl
theorem vt (ns:List Int):okE 40 (zu ns)=true:=XY (n:=39)
theorem iB (ms:List Int) (lo hi:Option Int):∃ ms':List Int,nE (ms.map Dt.int) lo hi=ms'.map Dt.int∧ms'.length≤ms.length∧∀ z∈ms',z∈ms:=by
 unfold nE
 rw [← List.map_drop,← List.map_take]
 refine ⟨_,rfl,?_,fun t ht=>List.mem_of_mem_drop (List.mem_of_mem_take ht)⟩
 rw [List.length_take,List.length_drop]
 omega
theorem jQ {ns:List Int} {i:Nat} {x:Dt} (h:(ns.map Dt.int)[i]? = some x):x=.int (ns.getD i 0)∧i<ns.length:=by
 rw [List.getElem?_map] at h
 cases q:ns[i]? with
 | none=>rw [q] at h; cases h
 | some z=>
  rw [q] at h
  have hl:i<ns.length:=by
   rcases Nat.lt_or_ge i ns.length with h | h
   ·exact h
   ·rw [List.getElem?_eq_none h] at q; cases q
  rw [List.getD_eq_getElem?_getD,q]
  exact ⟨(Option.some.inj h).symm,hl⟩
theorem sj (xs:List Int) (z:Int):xs.map Dt.int++[.int z]=(xs++[z]).map Dt.int:=by rw [List.map_append]; rfl
theorem kq (xs:List Int) (j:Nat) (z:Int):(xs.map Dt.int).set j (.int z)=(xs.set j z).map Dt.int:=by rw [List.map_set]
theorem s_ (xs:List Int):(xs.map Dt.int).dropLast=xs.dropLast.map Dt.int:=by rw [List.map_dropLast]
theorem yb (xs:List Int):(xs.map Dt.int).length=xs.length:=List.length_map _
theorem qS:trim []=[]:=rfl
theorem wD (xs:List Int):trim (xs++[0])=trim xs:=by
 unfold trim
 rw [List.reverse_append]
 rfl
theorem uX {xs:List Int} {z:Int} (h:z≠0):trim (xs++[z])=xs++[z]:=by
 unfold trim
 rw [List.reverse_append]
 show (List.dropWhile _ (z::xs.reverse)).reverse=_
 rw [List.dropWhile_cons,if_neg (by simpa using h),List.reverse_cons,List.reverse_reverse]
theorem zU (xs:List Int):xs=[]∨∃ l z,xs=l++[z]:=by
 rcases List.eq_nil_or_concat xs with h | ⟨l,z,h⟩
 ·exact .inl h
 ·exact .inr ⟨l,z,by rw [h,List.concat_eq_append]⟩
theorem qT (xs:List Int):(trim xs).length≤xs.length:=by
 unfold trim
 rw [List.length_reverse]
 refine Nat.le_trans (List.dropWhile_sublist _).length_le ?_
 rw [List.length_reverse]
 exact Nat.le_refl _
theorem qQ {i:Nat} {D:vK} {ρ:DS} {ms:List Int} (hi:ρ[i]? = some (.own (ms.map Dt.int))) (q:D.nx (ρ.set i (.own ((trim ms).map Dt.int)))):
  nC (XW (cQ i) (uE (dOp gEq (V9 i (XQ (dC (Dt.int 1)))) (dC (Dt.int 0))))) (XN i) D ρ:=by
 have hl:i<ρ.length:=by
  rcases Nat.lt_or_ge i ρ.length with h | h
  ·exact h
  ·rw [List.getElem?_eq_none h] at hi; cases hi
 refine ⟨fun m ρ'=>∃ l:List Int,ρ'=ρ.set i (.own (l.map Dt.int))∧l.length=m∧trim l=trim ms,⟨_,ms,?_,rfl,rfl⟩,?_⟩
 ·apply List.ext_getElem?
  intro j
  by_cases hj:i=j
  ·subst hj; rw [List.getElem?_set_self hl]; exact hi
  ·rw [List.getElem?_set_ne hj]
 ·rintro m ρ' ⟨l,rfl,rfl,ht⟩
  have hg:(ρ.set i (.own (l.map Dt.int)))[i]? = some (.own (l.map Dt.int)):=List.getElem?_set_self hl
  refine ⟨_,hg,?_⟩
  rcases zU l with rfl | ⟨l',z,rfl⟩
  ·refine ifF rfl (ifF rfl ?_)
   rw [← ht,qS] at q
   exact q
  ·refine ifT (by simp) ?_
   refine ⟨_,hg,_,rfl,_,_,rfl,xf,rfl,rfl,_,rfl,?_⟩
   by_cases hz:z=0
   ·refine ifT (eqI hz) ?_
    subst hz
    refine ⟨_,hg,by simp,l'.length,by rw [List.length_append]; exact Nat.lt_succ_self _,l',?_,rfl,?_⟩
    ·rw [s_,List.dropLast_concat,List.set_set]
    ·rw [← ht,wD]
   ·refine ifF (neI hz) ?_
    rw [← ht,uX hz] at q
    exact q
inductive Kd where | plain | below | balanced | growing | falling | pairs
def Kd.num:Kd→Int
 | .plain=>0 | .below=>1 | .balanced=>2 | .growing=>3 | .falling=>4 | .pairs=>5
def Kd.fld:Kd→Str
 | .plain=>"base" | .below=>"base" | .balanced=>"half" | .growing=>"first" | .falling=>"most" | .pairs=>"most"
def Kd.lo:Kd→Int
 | .plain=>2 | .below=>2 | .balanced=>1 | .growing=>2 | .falling=>1 | .pairs=>1
def Kd.hi:Kd→Int
 | .plain=>60 | .below=>60 | .balanced=>30 | .growing=>60 | .falling=>9 | .pairs=>9
def Kd.ok (k:Kd) (n:Int):Prop:=k.lo≤n∧n≤k.hi
def yy:Dt→Option Bool
 | .int _=>some true
 | .bl _=>some false
 | .tup _=>some false
 | .lst _=>some false
 | _=>none
def yW:DSp:=fun ds Q=>∃ d b,ds=[d]∧yy d=some b∧Q (.bl b)
def yD:DSp:=fun ds Q=>∃ n lo hi,ds=[.int n,.int lo,.int hi]∧lo≤n∧n≤hi∧Q (.int n)
inductive Nm where | i (n:Int) | p (a b:Int)
def Nm.dt:Nm→Dt
 | .i n=>.int n
 | .p a b=>.tup [.int a,.int b]
def Nm.re:Nm→Int
 | .i n=>n
 | .p a _=>a
def Nm.im:Nm→Int
 | .i _=>0
 | .p _ b=>b
def Nm.mul:Nm→Nm→Nm
 | .i a,.i b=>.i (a*b)
 | m,n=>.p (m.re*n.re - m.im*n.im) (m.re*n.im+m.im*n.re)
def Nm.mulOk (m n:Nm):Prop:=IntMulOk m.re n.re∧IntMulOk m.im n.im∧IntMulOk m.re n.im∧IntMulOk m.im n.re
def tO:Dt→Option Nm
 | .int a=>some (.i a)
 | .tup [.int a,.int b]=>some (.p a b)
 | _=>none
def xA:DSp:=fun ds Q=>∃ d m,ds=[d]∧tO d=some m∧Q (.tup [.int m.re,.int m.im])
def qG:DSp:=fun ds Q=>∃ d e m n,ds=[d,e]∧tO d=some m∧tO e=some n∧m.mulOk n∧Q (m.mul n).dt
theorem yE {d:Dt} {m:Nm} (h:tO d=some m):d=m.dt:=by
 unfold tO at h
 split at h
 ·cases h; rfl
 ·cases h; rfl
 ·cases h
theorem yi (m:Nm):tO m.dt=some m:=by cases m <;> rfl
theorem rW (m:Nm):okE 40 m.dt=true:=by cases m <;> rfl
theorem small {n:Int} (h0:-1000000≤n) (h1:n≤1000000) (c:Int):IntMulOk c n:=VG (by rw [decide_eq_true_iff]; omega)
theorem ym {n:Int} (h0:-1000000≤n) (h1:n≤1000000) (c:Int):IntMulOk n c:=Xl (by rw [decide_eq_true_iff]; omega)
def Kd.four:Kd→Bool
 | .plain=>true | .below=>true | .balanced=>true | .growing=>true | _=>false
def Kd.five:Kd→Bool
 | .falling=>false | _=>true
def Kd.low:Kd→Int→Int→Int
 | .balanced,n,_=>-n
 | _,_,_=>0
def Kd.high:Kd→Int→Int→Int
 | .plain,n,_=>n - 1
 | .below,n,_=>n - 1
 | .balanced,n,_=>n
 | .growing,n,p=>n+p - 1
 | .falling,n,_=>n
 | .pairs,n,_=>n*n
def Kd.rat:Kd→Int→Int→Int
 | .plain,n,_=>n
 | .below,n,_=>-n
 | .balanced,n,_=>2*n+1
 | .growing,n,p=>n+p
 | _,_,_=>0
def Kd.ratN:Kd→Int→Int→Nm
 | .pairs,n,_=>.p (-n) 1
 | k,n,p=>.i (k.rat n p)
def Nm.add:Nm→Nm→Nm
 | .i a,.i b=>.i (a+b)
 | m,n=>.p (m.re+n.re) (m.im+n.im)
def tj:DSp:=fun ds Q=>∃ d e m n,ds=[d,e]∧tO d=some m∧tO e=some n∧Q (m.add n).dt
def Kd.zero:Kd→Nm
 | .pairs=>.p 0 0
 | _=>.i 0
def wtF (n:Int):Nat→Int × Int
 | 0=>(1,1)
 | j+1=>((wtF n j).2,n*(wtF n j).2+(wtF n j).1)
def wtR (k:Kd) (n:Int):Nat→Nm
 | 0=>k.zero.add (.i 1)
 | j+1=>(k.ratN n j).mul (wtR k n j)
def wt:Kd→Int→Nat→Nm
 | .falling,n,j=>.i (wtF n j).2
 | k,n,j=>wtR k n j
def wts (k:Kd) (n:Int) (m:Nat):List Dt:=(List.range m).map fun j=>(wt k n j).dt
theorem qK (k:Kd) (n:Int) (m:Nat):wts k n (m+1)=wts k n m++[(wt k n m).dt]:=by
 unfold wts
 rw [List.range_succ,List.map_append]
 rfl
theorem xB (k:Kd) (n:Int) (m:Nat):(wts k n m).length=m:=by
 unfold wts
 rw [List.length_map,List.length_range]
theorem c6 {k:Kd} {n:Int} {m j:Nat} (h:j<m):(wts k n m)[j]? = some (wt k n j).dt:=by
 unfold wts
 rw [List.getElem?_map,List.getElem?_range h]
 rfl
theorem xk {k:Kd} {n:Int} (h:k.ok n):1≤n∧n≤60:=by
 obtain ⟨h1,h2⟩:=h
 cases k <;> simp only [Kd.lo,Kd.hi] at * <;> omega
theorem kz {k:Kd} {n p:Int} (h:k.ok n) (p0:0≤p) (p1:p≤1000):-1000000≤(k.ratN n p).re∧(k.ratN n p).re≤1000000∧-1000000≤(k.ratN n p).im∧(k.ratN n p).im≤1000000:=by
 obtain ⟨h1,h2⟩:=xk h
 cases k <;> simp only [Kd.ratN,Kd.rat,Nm.re,Nm.im] <;> omega
theorem h8 {k:Kd} {n p:Int} (h:k.ok n) (p0:0≤p) (p1:p≤1000) (m:Nm):(k.ratN n p).mulOk m:=by
 obtain ⟨a,b,c,d⟩:=kz h p0 p1
 exact ⟨ym a b _,ym c d _,ym a b _,ym c d _⟩
theorem nJ {k:Kd} {n:Int} {j:Nat} (h:k.five=true):wt k n j=wtR k n j:=by cases k <;> first | rfl | cases h
theorem cI {a:Int} {k:Nat} (h:a.natAbs<2 ^ k):Builtin.Int.intBits a≤k:=by
 rw [intBits_le_iff]
 exact h
def bdN (m:Nm) (k:Nat):Prop:=m.re.natAbs<2 ^ k∧m.im.natAbs<2 ^ k
theorem qa {a b:Int} {i j:Nat} (h:a.natAbs<2 ^ i) (h':b.natAbs<2 ^ j) (hij:i+j≤134217728):IntMulOk a b:=IntMulOk.of_le (cI h) (cI h') hij
theorem jH {m n:Nm} {i j:Nat} (h:bdN m i) (h':bdN n j) (hij:i+j≤134217728):m.mulOk n:=⟨qa h.1 h'.1 hij,qa h.2 h'.2 hij,qa h.1 h'.2 hij,qa h.2 h'.1 hij⟩
def xl (k:Kd) (n:Int) (ns:List Int):Nat→Nm
 | 0=>k.zero
 | j+1=>(xl k n ns j).add ((Nm.i (ns.getD j 0)).mul (wt k n j))
def bdR (ns:List Int):Prop:=∀ t∈ns,t.natAbs<2 ^ 5000
theorem nN {ns:List Int} {i:Nat} {x:Dt} (h:(ns.map Dt.int)[i]? = some x):x=.int (ns.getD i 0)∧i<ns.length:=by
 rw [List.getElem?_map] at h
 cases q:ns[i]? with
 | none=>rw [q] at h; cases h
 | some z=>
  rw [q] at h
  have hl:i<ns.length:=by
   rcases Nat.lt_or_ge i ns.length with h | h
   ·exact h
   ·rw [List.getElem?_eq_none h] at q; cases q
  rw [List.getD_eq_getElem?_getD,q]
  exact ⟨(Option.some.inj h).symm,hl⟩
theorem cm {ns:List Int} (h:bdR ns) (i:Nat):(ns.getD i 0).natAbs<2 ^ 5000:=by
 rw [List.getD_eq_getElem?_getD]
 cases q:ns[i]? with
 | none=>exact Nat.two_pow_pos 5000
 | some z=>exact h z (List.mem_of_getElem? q)
theorem iU {k:Kd} {n:Int} {m i:Nat} {y:Dt} (h:(wts k n m)[i]? = some y):y=(wt k n i).dt:=by
 have hl:i<m:=by
  rcases Nat.lt_or_ge i m with q | q
  ·exact q
  ·rw [List.getElem?_eq_none (by rw [xB]; exact q)] at h; cases h
 rw [c6 hl] at h
 exact (Option.some.inj h).symm
theorem l5 {n:Int} (h1:1≤n) (h2:n≤60):∀ j:Nat,(wtF n j).1.natAbs<2 ^ (12*j+1)∧(wtF n j).2.natAbs<2 ^ (12*j+1)
 | 0=>⟨(by decide:(1:Int).natAbs<2 ^ 1),(by decide:(1:Int).natAbs<2 ^ 1)⟩
 | j+1=>by
  obtain ⟨a,b⟩:=l5 h1 h2 j
  have pw:2 ^ (12*(j+1)+1)=2 ^ (12*j+1)*4096:=by rw [show 12*(j+1)+1=(12*j+1)+12 by omega,Nat.pow_add]
  rw [pw]
  unfold wtF
  dsimp only
  generalize 2 ^ (12 * j + 1)=B at *
  have hm:(n*(wtF n j).2).natAbs≤60*(wtF n j).2.natAbs:=by
   rw [Int.natAbs_mul]
   exact Nat.mul_le_mul_right _ (by omega)
  have hs:=Int.natAbs_add_le (n*(wtF n j).2) (wtF n j).1
  exact ⟨by omega,by omega⟩
theorem Xj (r w:Nm):(r.mul w).re=r.re * w.re - r.im * w.im:=by cases r <;> cases w <;> simp [Nm.mul,Nm.re,Nm.im]
theorem Xk (r w:Nm):(r.mul w).im=r.re * w.im + r.im * w.re:=by cases r <;> cases w <;> simp [Nm.mul,Nm.re,Nm.im]
theorem l4 {k:Kd} {n:Int} (h:k.ok n):∀ j:Nat,j≤1000→bdN (wtR k n j) (12*j+1)
 | 0,_=>by cases k <;> exact ⟨(by decide:(1:Int).natAbs < 2 ^ 1),(by decide:(0:Int).natAbs < 2 ^ 1)⟩
 | j+1,hj=>by
  obtain ⟨a,b⟩:=l4 h j (by omega)
  have pw:2 ^ (12*(j+1)+1)=2 ^ (12*j+1)*4096:=by rw [show 12*(j+1)+1=(12*j+1)+12 by omega,Nat.pow_add]
  obtain ⟨r1,r2,r3,r4⟩:=kz (p:=(j:Int)) h (by omega) (by omega)
  have hr:(k.ratN n j).re.natAbs≤2000∧(k.ratN n j).im.natAbs≤1:=by
   obtain ⟨h1,h2⟩:=xk h
   cases k <;> simp only [Kd.ratN,Kd.rat,Nm.re,Nm.im] <;> constructor <;> omega
  unfold bdN
  rw [pw]
  unfold wtR
  generalize 2 ^ (12 * j + 1)=B at *
  generalize k.ratN n j=r at *
  generalize wtR k n j=w at *
  obtain ⟨c,d⟩:=hr
  have m1:(r.re*w.re).natAbs≤2000*w.re.natAbs:=by rw [Int.natAbs_mul]; exact Nat.mul_le_mul_right _ c
  have m2:(r.im*w.im).natAbs≤1*w.im.natAbs:=by rw [Int.natAbs_mul]; exact Nat.mul_le_mul_right _ d
  have m3:(r.re*w.im).natAbs≤2000*w.im.natAbs:=by rw [Int.natAbs_mul]; exact Nat.mul_le_mul_right _ c
  have m4:(r.im*w.re).natAbs≤1*w.re.natAbs:=by rw [Int.natAbs_mul]; exact Nat.mul_le_mul_right _ d
  have s1:(r.re*w.re - r.im*w.im).natAbs≤(r.re*w.re).natAbs+(r.im*w.im).natAbs:=by omega
  have s2:=Int.natAbs_add_le (r.re*w.im) (r.im*w.re)
  rw [Xj,Xk]
  exact ⟨by omega,by omega⟩
theorem X5 {k:Kd} {n:Int} (h:k.ok n) {j:Nat} (hj:j≤1000):bdN (wt k n j) (12*j+1):=by
 by_cases h5:k.five=true
 ·rw [nJ h5]; exact l4 h j hj
 ·cases k with
  | falling=>
   obtain ⟨h1,h2⟩:=xk h
   exact ⟨(l5 h1 h2 j).2,show (0:Int).natAbs<_ from Nat.two_pow_pos _⟩
  | _=>exact absurd rfl h5
theorem To {a:Int} {i:Nat} (h:a.natAbs<2 ^ i):bdN (.i a) i:=⟨h,Nat.two_pow_pos _⟩
theorem wt4 {k:Kd} {n:Int} (h:k.four=true):∀ j,∃ w,wtR k n j=.i w
 | 0=>by cases k <;> cases h <;> exact ⟨_,rfl⟩
 | j+1=>by
  obtain ⟨w,e⟩:=wt4 (n:=n) h j
  unfold wtR
  rw [e]
  cases k <;> cases h <;> exact ⟨_,rfl⟩
theorem wt2 {n:Int}:∀ j,∃ x y,wtR .pairs n j=.p x y
 | 0=>⟨_,_,rfl⟩
 | j+1=>by
  obtain ⟨x,y,e⟩:=wt2 (n:=n) j
  unfold wtR
  rw [e]
  exact ⟨_,_,rfl⟩
theorem wtI {k:Kd} {n:Int} (h:k≠.pairs) (j:Nat):∃ w,wt k n j=.i w:=by
 cases k with
 | pairs=>exact absurd rfl h
 | falling=>exact ⟨_,rfl⟩
 | _=>exact wt4 rfl _
def sF (k:Kd) (n:Int) (j:Nat) (t:Nm):Int:=match k with
 | .pairs=>(t.re+n*t.im).fmod (n*n+1)
 | k=>k.low n j+(t.re - k.low n j).fmod (k.high n j - k.low n j+1)
def sC (k:Kd) (n:Int) (j:Nat) (t:Nm):Nm:=match k with
 | .pairs=>.p (((t.re - sF .pairs n j t)*(-n) - t.im*(-1)).fdiv (n*n+1)) (((t.re - sF .pairs n j t)*(-1)+t.im*(-n)).fdiv (n*n+1))
 | k=>.i ((t.re - sF k n j t).fdiv (k.rat n j))
def Nm.ty (k:Kd) (m:Nm):Prop:=match k with
 | .pairs=>∃ a b,m=.p a b
 | _=>∃ a,m=.i a
def tot (k:Kd) (m:Nm):Prop:=k≠.pairs→∃ a,m=.i a
def cAt (k:Kd) (n:Int) (ts:List Nm):Nat→Nm
 | 0=>k.zero
 | j+1=>sC k n j ((cAt k n ts j).add (ts.getD j (.i 0)))
def fAt (k:Kd) (n:Int) (ts:List Nm) (j:Nat):Int:=sF k n j ((cAt k n ts j).add (ts.getD j (.i 0)))
def x5 (k:Kd) (n:Int) (ts:List Nm) (j:Nat):List Int:=(List.range j).map (fAt k n ts)
def crs (k:Kd) (n:Int) (ts:List Nm) (j:Nat):List Nm:=(List.range j).map (cAt k n ts)
def xZ:Kd→Nm→Bool
 | .below,.i _=>true
 | .balanced,.i _=>true
 | .pairs,.p _ _=>true
 | .pairs,.i _=>false
 | _,.i a=>decide (0≤a)
 | _,.p _ _=>false
structure Fin (k:Kd) (n:Int) (ts:List Nm) (J:Nat):Prop where
 le:ts.length≤J
 z:cAt k n ts J=k.zero
 nz:∀ j,ts.length≤j→j<J→cAt k n ts j≠k.zero∧xZ k (cAt k n ts j)=true
def wN (k:Kd) (n:Int) (ts:List Nm):Nat→Nm
 | 0=>k.zero
 | j+1=>(wN k n ts j).add ((ts.getD j (.i 0)).mul (wt k n j))
def wF (k:Kd) (n:Int) (f:Nat→Int):Nat→Nm
 | 0=>k.zero
 | j+1=>(wF k n f j).add ((Nm.i (f j)).mul (wt k n j))
theorem yM (m n:Nm):(m.add n).re=m.re + n.re:=by cases m <;> cases n <;> simp [Nm.add,Nm.re]
theorem wz (m n:Nm):(m.add n).im=m.im + n.im:=by cases m <;> cases n <;> simp [Nm.add,Nm.im]
theorem zO (r w:Nm):(r.mul w).re=r.re * w.re - r.im * w.im:=by cases r <;> cases w <;> simp [Nm.mul,Nm.re,Nm.im]
theorem yc (r w:Nm):(r.mul w).im=r.re * w.im + r.im * w.re:=by cases r <;> cases w <;> simp [Nm.mul,Nm.re,Nm.im]
theorem wP {k:Kd} {m:Nm} (h:k≠.pairs) (t:m.ty k):∃ a,m=.i a:=by
 cases k <;> first | exact t | exact absurd rfl h
theorem vk {k:Kd} {a:Int} (h:k≠.pairs):(Nm.i a).ty k:=by
 cases k <;> first | exact ⟨_,rfl⟩ | exact absurd rfl h
theorem wB (k:Kd):(k.zero).ty k:=by cases k <;> first | exact ⟨_,rfl⟩ | exact ⟨_,_,rfl⟩
theorem yl (k:Kd):(k.zero).re=0:=by cases k <;> rfl
theorem yO (k:Kd):(k.zero).im=0:=by cases k <;> rfl
theorem rZ {k:Kd} {m m':Nm} (t:m.ty k) (t':m'.ty k) (h1:m.re=m'.re) (h2:m.im=m'.im):m=m':=by
 by_cases hk:k=.pairs
 ·subst hk
  obtain ⟨a,b,rfl⟩:=t
  obtain ⟨a',b',rfl⟩:=t'
  simp only [Nm.re,Nm.im] at h1 h2
  rw [h1,h2]
 ·obtain ⟨a,rfl⟩:=wP hk t
  obtain ⟨a',rfl⟩:=wP hk t'
  simp only [Nm.re] at h1
  rw [h1]
theorem ku (k:Kd) (n:Int) (j:Nat) (t:Nm):(sC k n j t).ty k:=by
 cases k <;> first | exact ⟨_,rfl⟩ | exact ⟨_,_,rfl⟩
theorem wy (k:Kd) (n:Int) (ts:List Nm):∀ j,(cAt k n ts j).ty k
 | 0=>wB k
 | j+1=>ku k n j _
theorem vf {k:Kd} {c t:Nm} (h:c.ty k) (h':tot k t):(c.add t).ty k:=by
 by_cases hk:k=.pairs
 ·subst hk
  obtain ⟨a,b,rfl⟩:=h
  cases t <;> exact ⟨_,_,rfl⟩
 ·obtain ⟨a,rfl⟩:=wP hk h
  obtain ⟨b,rfl⟩:=h' hk
  exact vk hk
theorem x9 {k:Kd} {ts:List Nm} (h:∀ t∈ts,tot k t) (j:Nat):tot k (ts.getD j (.i 0)):=by
 rw [List.getD_eq_getElem?_getD]
 cases q:ts[j]? with
 | none=>exact fun _=>⟨0,rfl⟩
 | some t=>exact h t (List.mem_of_getElem? q)
theorem mU {lo t n:Int} (hn:0<n):lo≤lo+(t - lo).fmod n∧lo+(t - lo).fmod n≤lo+n - 1∧(lo+(t - lo).fmod n)+((t - (lo+(t - lo).fmod n)).fdiv n)*n=t:=by
 have h0:=Int.fmod_nonneg_of_pos (t - lo) hn
 have h1:=Int.fmod_lt_of_pos (t - lo) hn
 have e:t - (lo+(t - lo).fmod n)=n*(t - lo).fdiv n:=by
  have:=Int.fmod_def (t - lo) n
  omega
 refine ⟨by omega,by omega,?_⟩
 have d:(t - (lo+(t - lo).fmod n)).fdiv n=(t - lo).fdiv n:=by
  rw [e]
  exact Int.mul_fdiv_cancel_left _ (by omega)
 rw [d,Int.mul_comm]
 omega
theorem mV {lo t n:Int} (hn:0<n):lo≤lo+(t - lo).fmod n∧lo+(t - lo).fmod n≤lo+n - 1∧(lo+(t - lo).fmod n)+((t - (lo+(t - lo).fmod n)).fdiv (-n))*(-n)=t:=by
 have h0:=Int.fmod_nonneg_of_pos (t - lo) hn
 have h1:=Int.fmod_lt_of_pos (t - lo) hn
 have e:t - (lo+(t - lo).fmod n)=(-n)*(-((t - lo).fdiv n)):=by
  have:=Int.fmod_def (t - lo) n
  rw [Int.neg_mul_neg]
  omega
 refine ⟨by omega,by omega,?_⟩
 have d:(t - (lo+(t - lo).fmod n)).fdiv (-n)=-((t - lo).fdiv n):=by
  rw [e]
  exact Int.mul_fdiv_cancel_left _ (by omega)
 rw [d,Int.neg_mul_neg,Int.mul_comm]
 have:=Int.fmod_def (t - lo) n
 omega
theorem tu {a b m:Int} (N:Int) (hN:N=m*m+1) (f:Int) (hf:f=(a+m*b).fmod N) (t0 t1:Int) (h0:t0=(a - f)*(-m) - b*(-1)) (h1:t1=(a - f)*(-1)+b*(-m)):
  0≤f∧f≤m*m∧f - m*(t0.fdiv N) - t1.fdiv N=a∧t0.fdiv N - m*(t1.fdiv N)=b:=by
 have sq:0≤m*m:=by
  rcases Int.le_total 0 m with h | h
  ·exact Int.mul_nonneg h h
  ·exact Int.mul_nonneg_of_nonpos_of_nonpos h h
 have hp:0<N:=by omega
 have g0:=Int.fmod_nonneg_of_pos (a+m*b) hp
 have g1:=Int.fmod_lt_of_pos (a+m*b) hp
 have e:=Int.fmod_def (a+m*b) N
 rw [← hf] at e g0 g1
 generalize (a+m*b).fdiv N=q at e
 have e0:t0=N*(b - m*q):=by subst hN; grind
 have e1:t1=N*(-q):=by subst hN; grind
 have d0:t0.fdiv N=b - m*q:=by rw [e0]; exact Int.mul_fdiv_cancel_left _ (by omega)
 have d1:t1.fdiv N=-q:=by rw [e1]; exact Int.mul_fdiv_cancel_left _ (by omega)
 rw [d0,d1]
 refine ⟨g0,by omega,?_,?_⟩ <;> subst hN <;> grind
def Kd.size:Kd→Int→Int→Int
 | .plain,n,_=>n
 | .below,n,_=>n
 | .balanced,n,_=>2*n+1
 | .growing,n,p=>n+p
 | _,_,_=>0
theorem ql {k:Kd} (h5:k.five=true) (hk:k≠.pairs):k.four=true:=by
 cases k <;> first | rfl | exact absurd rfl hk | cases h5
theorem nM {k:Kd} (h:k.four=true) (n p:Int):k.high n p - k.low n p+1=k.size n p∧(k.rat n p=k.size n p∨k.rat n p=-(k.size n p)):=by
 cases k <;> cases h <;> simp only [Kd.high,Kd.low,Kd.size,Kd.rat] <;> refine ⟨by omega,?_⟩ <;> first | exact .inl rfl | exact .inr rfl | exact .inr trivial | exact .inl trivial
theorem tz {k:Kd} {n:Int} (h:k.four=true) (hn:k.ok n) (j:Nat):2≤k.size n j:=by
 obtain ⟨h1,h2⟩:=hn
 cases k <;> cases h <;> simp only [Kd.lo,Kd.hi,Kd.size] at * <;> omega
theorem tw {k:Kd} {n:Int} {j:Nat} {t:Nm} (h5:k.five=true) (hn:k.ok n) (ht:t.ty k):
  k.low n j≤sF k n j t∧sF k n j t≤k.high n j∧t.re=sF k n j t+((k.ratN n j).mul (sC k n j t)).re∧t.im=((k.ratN n j).mul (sC k n j t)).im:=by
 by_cases hk:k=.pairs
 ·subst hk
  obtain ⟨g1,g2,g3,g4⟩:=tu (a:=t.re) (b:=t.im) (m:=n) (n*n+1) rfl _ rfl _ _ rfl rfl
  refine ⟨g1,g2,?_,?_⟩
  ·rw [zO]
   show t.re=_+(-n*_ - 1*_)
   unfold sC sF Nm.re Nm.im at *
   dsimp only at *
   grind
  ·rw [yc]
   show t.im=(-n*_+1*_)
   unfold sC sF Nm.re Nm.im at *
   dsimp only at *
   grind
 ·have h4:=ql h5 hk
  obtain ⟨e1,e2⟩:=nM h4 n j
  have hp:=tz h4 hn j
  obtain ⟨a,rfl⟩:=wP hk ht
  have eF:sF k n j (.i a)=k.low n j + (a - k.low n j).fmod (k.size n j):=by rw [← e1]; cases k <;> first | rfl | exact absurd rfl hk
  have eC:sC k n j (.i a)=.i ((a - sF k n j (.i a)).fdiv (k.rat n j)):=by cases k <;> first | rfl | exact absurd rfl hk
  have eR:k.ratN n j=.i (k.rat n j):=by cases k <;> first | rfl | exact absurd rfl hk
  have s1:=mU (lo:=k.low n j) (t:=a) (n:=k.size n j) (by omega)
  have s2:=mV (lo:=k.low n j) (t:=a) (n:=k.size n j) (by omega)
  rw [eC,eR,eF]
  refine ⟨s1.1,by have:=s1.2.1; omega,?_,rfl⟩
  show a=_+k.rat n j*_
  rw [Int.mul_comm (k.rat n j)]
  rcases e2 with e | e
  ·rw [e]; exact s1.2.2.symm
  ·rw [e]; exact s2.2.2.symm
theorem vi {k:Kd} {n:Int} (h5:k.five=true) (j:Nat):wt k n (j+1)=(k.ratN n j).mul (wt k n j):=by
 cases k <;> first | rfl | cases h5
theorem mT {T1 T2 F1 F2 w1 w2 c1 c2 t1 t2 f r1 r2 d1 d2:Int} (h1:T1=F1+(w1*c1 - w2*c2)) (h2:T2=F2+(w1*c2+w2*c1)) (s1:c1+t1=f+(r1*d1 - r2*d2)) (s2:c2+t2=r1*d2+r2*d1):
  T1+(t1*w1 - t2*w2)=F1+(f*w1 - 0*w2)+((r1*w1 - r2*w2)*d1 - (r1*w2+r2*w1)*d2)∧T2+(t1*w2+t2*w1)=F2+(f*w2+0*w1)+((r1*w1 - r2*w2)*d2+(r1*w2+r2*w1)*d1):=by
 have e1:c1=f+(r1*d1 - r2*d2) - t1:=by omega
 have e2:c2=r1*d2+r2*d1 - t2:=by omega
 subst e1 e2 h1 h2
 constructor <;> grind
theorem X8 {k:Kd} {n:Int} {ts:List Nm} (h5:k.five=true) (hn:k.ok n) (ht:∀ t∈ts,tot k t):∀ j,
  (wN k n ts j).re=(wF k n (fAt k n ts) j).re+((wt k n j).mul (cAt k n ts j)).re∧(wN k n ts j).im=(wF k n (fAt k n ts) j).im+((wt k n j).mul (cAt k n ts j)).im
 | 0=>by
  unfold wN wF cAt
  rw [zO,yc,yl,yO]
  constructor <;> grind
 | j+1=>by
  obtain ⟨i1,i2⟩:=X8 h5 hn ht j
  obtain ⟨_,_,s1,s2⟩:=tw (j:=j) h5 hn (vf (wy k n ts j) (x9 ht j))
  have ec:cAt k n ts (j+1)=sC k n j ((cAt k n ts j).add (ts.getD j (.i 0))):=rfl
  have ef:fAt k n ts j=sF k n j ((cAt k n ts j).add (ts.getD j (.i 0))):=rfl
  rw [← ec,← ef] at s1
  rw [← ec] at s2
  rw [yM] at s1
  rw [wz] at s2
  have e1:(wN k n ts (j+1))=(wN k n ts j).add ((ts.getD j (.i 0)).mul (wt k n j)):=rfl
  have e2:(wF k n (fAt k n ts) (j+1))=(wF k n (fAt k n ts) j).add ((Nm.i (fAt k n ts j)).mul (wt k n j)):=rfl
  rw [e1,e2,vi h5]
  rw [zO] at s1
  rw [yc] at s2
  rw [zO] at i1
  rw [yc] at i2
  have R:=mT i1 i2 s1 s2
  simp only [zO,yc,yM,wz]
  exact R
theorem Uq {k:Kd} {c:Nm} (h:c.ty k):c.add (.i 0)=c:=by
 by_cases hk:k=.pairs
 ·subst hk
  obtain ⟨a,b,rfl⟩:=h
  show Nm.p (a+0) (b+0)=_
  rw [Int.add_zero,Int.add_zero]
 ·obtain ⟨a,rfl⟩:=wP hk h
  show Nm.i (a+0)=_
  rw [Int.add_zero]
theorem X3 {k:Kd} {c:Nm} (h:c.ty k):k.zero.add c=c:=by
 by_cases hk:k=.pairs
 ·subst hk
  obtain ⟨a,b,rfl⟩:=h
  show Nm.p (0+a) (0+b)=_
  rw [Int.zero_add,Int.zero_add]
 ·obtain ⟨a,rfl⟩:=wP hk h
  have:k.zero=.i 0:=by cases k <;> first | rfl | exact absurd rfl hk
  rw [this]
  show Nm.i (0+a)=_
  rw [Int.zero_add]
theorem cj {k:Kd} {n:Int} {ts:List Nm} {j:Nat} (h:ts.length≤j):cAt k n ts (j+1)=sC k n j (cAt k n ts j):=by
 have e:ts.getD j (.i 0)=.i 0:=by rw [List.getD_eq_getElem?_getD,List.getElem?_eq_none h]; rfl
 show sC k n j ((cAt k n ts j).add (ts.getD j (.i 0)))=_
 rw [e,Uq (wy k n ts j)]
theorem pp {s t f a:Int} (hs:2≤s) (f1:0≤f) (f2:f≤s - 1) (q:t=f+s*a):2*a.natAbs≤t.natAbs+1∧(0≤t→0≤a)∧(t.natAbs≤1→0≤t→a=0):=by
 have hm:∀ x:Int,0≤x→2*x≤s*x:=fun x hx=>Int.mul_le_mul_of_nonneg_right hs hx
 have e2:s*(-a)=-(s*a):=Int.mul_neg ..
 have e3:s*(-a - 1)=-(s*a) - s:=by rw [Int.mul_sub,Int.mul_one,e2]
 rcases (by omega:0≤a∨a≤-1) with z | z
 ·have:=hm a z
  exact ⟨by omega,fun _=>z,fun _ _=>by omega⟩
 ·have:=hm (-a - 1) (by omega)
  exact ⟨by omega,fun _=>by omega,fun _ _=>by omega⟩
theorem sS {k:Kd} {n:Int} {j:Nat} {t a:Int} (h4:k.four=true) (hn:k.ok n) (e:sC k n j (.i t)=.i a):
  2*a.natAbs≤t.natAbs+1∧(xZ k (.i t)=true→xZ k (.i a)=true)∧(t.natAbs≤1→xZ k (.i t)=true→a=0∨(t=-1∧a=1)):=by
 have h5:k.five=true:=by cases k <;> first | rfl | cases h4
 have hk:k≠.pairs:=fun z=>by rw [z] at h4; cases h4
 obtain ⟨f1,f2,q,_⟩:=tw (j:=j) h5 hn (t:=.i t) (vk hk)
 rw [e,zO] at q
 have hs:=tz h4 hn j
 obtain ⟨h1,h2⟩:=hn
 generalize sF k n j (.i t)=f at *
 cases k with
 | falling=>cases h4
 | pairs=>cases h4
 | plain=>
  simp only [Kd.ratN,Kd.rat,Nm.re,Nm.im,Kd.low,Kd.high,Kd.size,xZ,decide_eq_true_iff] at *
  obtain ⟨p1,p2,p3⟩:=pp (t:=t) (a:=a) hs f1 f2 (by omega)
  exact ⟨p1,p2,fun x y=>.inl (p3 x y)⟩
 | below=>
  simp only [Kd.ratN,Kd.rat,Nm.re,Nm.im,Kd.low,Kd.high,Kd.size,xZ] at *
  have q':t=f - n*a:=by rw [q,Int.neg_mul]; omega
  have hm:∀ x:Int,0≤x→2*x≤n*x:=fun x hx=>Int.mul_le_mul_of_nonneg_right hs hx
  have e1:n*(a - 1)=n*a - n:=by rw [Int.mul_sub,Int.mul_one]
  have e2:n*(-a)=-(n*a):=Int.mul_neg ..
  have e3:n*(-a - 1)=-(n*a) - n:=by rw [Int.mul_sub,Int.mul_one,e2]
  refine ⟨?_,fun _=>trivial,fun h3 _=>?_⟩
  ·rcases (by omega:1≤a∨a=0∨a≤-1) with z | z | z
   ·have:=hm (a - 1) (by omega); omega
   ·omega
   ·have:=hm (-a) (by omega); omega
  ·rcases (by omega:2≤a∨a=1∨a=0∨a≤-1) with z | z | z | z
   ·have:=hm (a - 1) (by omega); omega
   ·subst z; omega
   ·exact .inl z
   ·have:=hm (-a) (by omega); omega
 | balanced=>
  simp only [Kd.ratN,Kd.rat,Nm.re,Nm.im,Kd.low,Kd.high,Kd.size,xZ,Kd.lo] at *
  have q':t=f+2*(n*a)+a:=by rw [q,Int.add_mul,Int.mul_assoc]; omega
  have hm:∀ x:Int,0≤x→x≤n*x:=fun x hx=>by
   have:=Int.mul_le_mul_of_nonneg_right h1 hx
   omega
  have e1:n*(a - 1)=n*a - n:=by rw [Int.mul_sub,Int.mul_one]
  have e2:n*(-a)=-(n*a):=Int.mul_neg ..
  have e3:n*(-a - 1)=-(n*a) - n:=by rw [Int.mul_sub,Int.mul_one,e2]
  have key:2*a.natAbs≤t.natAbs:=by
   rcases (by omega:1≤a∨a=0∨a≤-1) with z | z | z
   ·have:=hm (a - 1) (by omega); have:=hm a (by omega); omega
   ·omega
   ·have:=hm (-a - 1) (by omega); have:=hm (-a) (by omega); omega
  exact ⟨by omega,fun _=>trivial,fun _ _=>.inl (by omega)⟩
 | growing=>
  simp only [Kd.ratN,Kd.rat,Nm.re,Nm.im,Kd.low,Kd.high,Kd.size,xZ,decide_eq_true_iff] at *
  obtain ⟨p1,p2,p3⟩:=pp (t:=t) (a:=a) (s:=n+(j:Int)) hs f1 (by omega) (by omega)
  exact ⟨p1,p2,fun x y=>.inl (p3 x y)⟩
theorem cv {k:Kd} (h4:k.four=true):k.zero=.i 0:=by cases k <;> first | rfl | cases h4
theorem sC4 {k:Kd} {n:Int} {j:Nat} {t:Nm} (h4:k.four=true):∃ a,sC k n j t=.i a:=wP (fun z=>by rw [z] at h4; cases h4) (ku k n j t)
theorem cN {k:Kd} {n:Int} (h4:k.four=true) (hn:k.ok n):∀ (b:Nat) (j:Nat) (c:Nat→Nm) (t:Int),c 0=.i t→(∀ i,c (i+1)=sC k n (j+i) (c i))→xZ k (.i t)=true→t.natAbs≤2 ^ b→∃ m,m≤b+2∧c m=k.zero
 | 0,j,c,t,h0,hc,hh,hb=>by
  obtain ⟨a,ea⟩:=sC4 (n:=n) (j:=j) (t:=.i t) h4
  have e1:c 1=.i a:=by rw [hc 0,h0]; exact ea
  obtain ⟨_,s2,s3⟩:=sS h4 hn ea
  rcases s3 hb hh with z | ⟨_,z⟩
  ·exact ⟨1,by omega,by rw [e1,z,cv h4]⟩
  ·obtain ⟨a2,ea2⟩:=sC4 (n:=n) (j:=j+1) (t:=.i a) h4
   have e2:c 2=.i a2:=by rw [hc 1,e1]; exact ea2
   obtain ⟨_,_,s5⟩:=sS h4 hn ea2
   rcases s5 (by omega) (s2 hh) with y | ⟨y,_⟩
   ·exact ⟨2,by omega,by rw [e2,y,cv h4]⟩
   ·omega
 | b+1,j,c,t,h0,hc,hh,hb=>by
  obtain ⟨a,ea⟩:=sC4 (n:=n) (j:=j) (t:=.i t) h4
  have e1:c 1=.i a:=by rw [hc 0,h0]; exact ea
  obtain ⟨s1,s2,_⟩:=sS h4 hn ea
  have hp:2 ^ (b+1)=2*2 ^ b:=by rw [Nat.pow_succ]; omega
  obtain ⟨m,hm,e⟩:=cN h4 hn b (j+1) (fun i=>c (i+1)) a e1 (fun i=>by rw [hc (i+1),show j+(i+1)=j+1+i by omega]) (s2 hh) (by omega)
  exact ⟨m+1,by omega,e⟩
theorem qV {k:Kd} {n:Int} (h4:k.four=true) (hn:k.ok n) {j:Nat} {c:Nat→Nm} {t:Int} (h0:c 0=.i t) (hc:∀ i,c (i+1)=sC k n (j+i) (c i)) (hh:xZ k (.i t)=true):∀ i,∃ a,c i=.i a∧xZ k (.i a)=true
 | 0=>⟨t,h0,hh⟩
 | i+1=>by
  obtain ⟨a,e,h⟩:=qV h4 hn h0 hc hh i
  obtain ⟨a',e'⟩:=sC4 (n:=n) (j:=j+i) (t:=.i a) h4
  exact ⟨a',by rw [hc i,e]; exact e',(sS h4 hn e').2.1 h⟩
def pA (n a b:Int):Int:=((a - (a+n*b).fmod (n*n+1))*(-n) - b*(-1)).fdiv (n*n+1)
def pB (n a b:Int):Int:=((a - (a+n*b).fmod (n*n+1))*(-1)+b*(-n)).fdiv (n*n+1)
theorem hV (n:Int) (j:Nat) (a b:Int):sC .pairs n j (.p a b)=.p (pA n a b) (pB n a b):=rfl
def pz (n:Int):Nat→Int→Int→Bool
 | 0,a,b=>a == 0 && b == 0
 | m+1,a,b=>(a == 0 && b == 0) || pz n m (pA n a b) (pB n a b)
theorem bp:(List.range 9).all (fun n=>(List.range 31).all fun a=>(List.range 31).all fun b=>pz ((n:Int)+1) 14 ((a:Int) - 15) ((b:Int) - 15))=true:=by decide +kernel
theorem kA {n a b:Int} (n1:1≤n) (n2:n≤9) (a1:-15≤a) (a2:a≤15) (b1:-15≤b) (b2:b≤15):pz n 14 a b=true:=by
 have h:=List.all_eq_true.mp bp (n - 1).toNat (List.mem_range.mpr (by omega))
 have h:=List.all_eq_true.mp h (a+15).toNat (List.mem_range.mpr (by omega))
 have h:=List.all_eq_true.mp h (b+15).toNat (List.mem_range.mpr (by omega))
 rw [show (((n - 1).toNat:Nat):Int)+1=n by omega,show (((a+15).toNat:Nat):Int) - 15=a by omega,show (((b+15).toNat:Nat):Int) - 15=b by omega] at h
 exact h
theorem rN {n:Int}:∀ (m j:Nat) (c:Nat→Nm) (a b:Int),c 0=.p a b→(∀ i,c (i+1)=sC .pairs n (j+i) (c i))→pz n m a b=true→∃ i,i≤m∧c i=Kd.zero .pairs
 | 0,j,c,a,b,h0,hc,h=>by
  unfold pz at h
  rw [Bool.and_eq_true,beq_iff_eq,beq_iff_eq] at h
  exact ⟨0,Nat.le_refl _,by rw [h0,h.1,h.2]; rfl⟩
 | m+1,j,c,a,b,h0,hc,h=>by
  unfold pz at h
  rw [Bool.or_eq_true] at h
  rcases h with h | h
  ·rw [Bool.and_eq_true,beq_iff_eq,beq_iff_eq] at h
   exact ⟨0,by omega,by rw [h0,h.1,h.2]; rfl⟩
  ·obtain ⟨i,hi,e⟩:=rN m (j+1) (fun i=>c (i+1)) _ _ (by rw [hc 0,h0]; exact hV n _ a b) (fun i=>by rw [hc (i+1),show j+(i+1)=j+1+i by omega]) h
   exact ⟨i+1,by omega,e⟩
theorem nX {n a b:Int}:∃ f,0≤f∧f≤n*n∧(a - f)*(a - f)+b*b=(n*n+1)*(pA n a b*pA n a b+pB n a b*pB n a b):=by
 obtain ⟨g1,g2,g3,g4⟩:=tu (a:=a) (b:=b) (m:=n) (n*n+1) rfl _ rfl _ _ rfl rfl
 refine ⟨_,g1,g2,?_⟩
 have e1:pA n a b=((a - (a+n*b).fmod (n*n+1))*(-n) - b*(-1)).fdiv (n*n+1):=rfl
 have e2:pB n a b=((a - (a+n*b).fmod (n*n+1))*(-1)+b*(-n)).fdiv (n*n+1):=rfl
 rw [← e1,← e2] at g3
 rw [← e1,← e2] at g4
 generalize (a + n * b).fmod (n * n + 1)=f at *
 generalize pA n a b=x at *
 generalize pB n a b=y at *
 have ea:a - f=-(n*x) - y:=by omega
 have eb:b=x - n*y:=by omega
 rw [ea,eb]
 grind
theorem z0 (x:Int):0≤x*x:=by
 rcases Int.le_total 0 x with h | h
 ·exact Int.mul_nonneg h h
 ·exact Int.mul_nonneg_of_nonpos_of_nonpos h h
theorem Xy {a S:Int} (h:a*a≤S) (h2:256≤S):16*a≤S:=by
 by_cases z:16≤a
 ·exact Int.le_trans (Int.mul_le_mul_of_nonneg_right z (by omega)) h
 ·omega
theorem kj {a:Int} (h:¬ (-15≤a∧a≤15)):256≤a*a:=by
 rcases (by omega:16≤a∨16≤-a) with z | z
 ·have:=Int.mul_le_mul z z (by decide) (by omega); omega
 ·have:=Int.mul_le_mul z z (by decide) (by omega); rw [Int.neg_mul_neg] at this; omega
theorem dU {S N p q t:Int} (h1:-(16*p)≤t) (h2:q≤82*N - 81) (h3:1≤N) (h5:256*(4*N - 3)≤4*t - 3*S):8*(S - 2*p+q)≤5*(t+S):=by omega
theorem jW {n a b f:Int} (n1:1≤n) (n2:n≤9) (f0:0≤f) (f1:f≤n*n) (h:¬ (-15≤a∧a≤15∧-15≤b∧b≤15)):8*((a - f)*(a - f)+b*b)≤5*((n*n+1)*(a*a+b*b)):=by
 have q1:1≤n*n:=Int.mul_le_mul n1 n1 (by decide) (Int.le_trans (by decide) n1)
 have q2:n*n≤81:=Int.mul_le_mul n2 n2 (Int.le_trans (by decide) n1) (by decide)
 generalize n * n=N at *
 have hS:256≤a*a+b*b:=by
  have sa:=z0 a
  have sb:=z0 b
  by_cases z:-15≤a∧a≤15
  ·have:=kj (a:=b) fun y=>h ⟨z.1,z.2,y.1,y.2⟩
   omega
  ·have:=kj z
   omega
 have h16:16 * -a≤a*a+b*b:=Xy (by rw [Int.neg_mul_neg]; have:=z0 b; omega) hS
 have e:(a - f)*(a - f)+b*b=(a*a+b*b) - 2*(a*f)+f*f:=by grind
 rw [e,Int.add_mul,Int.one_mul]
 generalize a * a + b * b=S at *
 have k1:=Int.mul_le_mul_of_nonneg_left h16 f0
 have k2:=Int.mul_le_mul_of_nonneg_right f1 (show 0≤S by omega)
 have k3:f*f≤N*N:=Int.mul_le_mul f1 f1 f0 (by omega)
 have k4:=Int.mul_nonneg (show 0≤N - 1 by omega) (show 0≤81 - N by omega)
 have e4:(N - 1)*(81 - N)=82*N - 81 - N*N:=by grind
 have k5:=Int.mul_le_mul_of_nonneg_left hS (show 0≤4*N - 3 by omega)
 have e5:(4*N - 3)*S=4*(N*S) - 3*S:=by grind
 have e1:f*(16 * -a)=-(16*(a*f)):=by grind
 rw [e4] at k4
 rw [e5] at k5
 rw [e1] at k1
 exact dU (Int.le_trans k1 k2) (by omega) q1 (by rw [Int.mul_comm]; exact k5)
theorem pM {n a b:Int} (n1:1≤n) (n2:n≤9) (h:¬ (-15≤a∧a≤15∧-15≤b∧b≤15)):8*(pA n a b*pA n a b+pB n a b*pB n a b)≤5*(a*a+b*b):=by
 obtain ⟨f,f0,f1,e⟩:=nX (n:=n) (a:=a) (b:=b)
 have k:=jW n1 n2 f0 f1 h
 rw [e] at k
 have q1:0<n*n+1:=by have:=z0 n; omega
 generalize pA n a b * pA n a b + pB n a b * pB n a b=X at *
 generalize a * a + b * b=Y at *
 generalize n * n + 1=N at *
 have k':N*(8*X)≤N*(5*Y):=by
  have r1:N*(8*X)=8*(N*X):=by grind
  have r2:N*(5*Y)=5*(N*Y):=by grind
  rw [r1,r2]; exact k
 exact Int.le_of_mul_le_mul_left k' q1
theorem VV {n:Int} (n1:1≤n) (n2:n≤9):∀ (d j:Nat) (c:Nat→Nm) (a b:Int),c 0=.p a b→(∀ i,c (i+1)=sC .pairs n (j+i) (c i))→a*a+b*b≤((2 ^ d:Nat):Int)→∃ m,m≤2*d+16∧c m=Kd.zero .pairs:=by
 intro d
 induction d with
 | zero=>
  intro j c a b h0 hc hb
  have sa:=z0 a
  have sb:=z0 b
  have hb':a*a+b*b≤1:=hb
  have ha:-15≤a∧a≤15:=by
   constructor
   ·rcases Int.lt_or_le a (-15) with z | z
    ·have:=Int.mul_le_mul (show 16≤-a by omega) (show 16≤-a by omega) (by decide) (by omega)
     rw [Int.neg_mul_neg] at this; omega
    ·exact z
   ·rcases Int.lt_or_le 15 a with z | z
    ·have:=Int.mul_le_mul (show 16≤a by omega) (show 16≤a by omega) (by decide) (by omega)
     omega
    ·exact z
  have hbb:-15≤b∧b≤15:=by
   constructor
   ·rcases Int.lt_or_le b (-15) with z | z
    ·have:=Int.mul_le_mul (show 16≤-b by omega) (show 16≤-b by omega) (by decide) (by omega)
     rw [Int.neg_mul_neg] at this; omega
    ·exact z
   ·rcases Int.lt_or_le 15 b with z | z
    ·have:=Int.mul_le_mul (show 16≤b by omega) (show 16≤b by omega) (by decide) (by omega)
     omega
    ·exact z
  obtain ⟨i,hi,e⟩:=rN 14 j c a b h0 hc (kA n1 n2 ha.1 ha.2 hbb.1 hbb.2)
  exact ⟨i,by omega,e⟩
 | succ d ih=>
  intro j c a b h0 hc hb
  by_cases hin:-15≤a∧a≤15∧-15≤b∧b≤15
  ·obtain ⟨i,hi,e⟩:=rN 14 j c a b h0 hc (kA n1 n2 hin.1 hin.2.1 hin.2.2.1 hin.2.2.2)
   exact ⟨i,by omega,e⟩
  ·have e1:c 1=.p (pA n a b) (pB n a b):=by rw [hc 0,h0]; exact hV n _ a b
   have k1:=pM n1 n2 hin
   by_cases hin2:-15≤pA n a b∧pA n a b≤15∧-15≤pB n a b∧pB n a b≤15
   ·obtain ⟨i,hi,e⟩:=rN 14 (j+1) (fun i=>c (i+1)) _ _ e1 (fun i=>by rw [hc (i+1),show j+(i+1)=j+1+i by omega]) (kA n1 n2 hin2.1 hin2.2.1 hin2.2.2.1 hin2.2.2.2)
    exact ⟨i+1,by omega,e⟩
   ·have k2:=pM n1 n2 hin2
    have e2:c 2=.p (pA n (pA n a b) (pB n a b)) (pB n (pA n a b) (pB n a b)):=by rw [hc 1,e1]; exact hV n _ _ _
    have hp:((2 ^ (d+1):Nat):Int)=2*((2 ^ d:Nat):Int):=by rw [Nat.pow_succ]; omega
    have h2:(0:Int)≤((2 ^ d:Nat):Int):=Int.natCast_nonneg _
    obtain ⟨m,hm,e⟩:=ih (j+2) (fun i=>c (i+2)) _ _ e2 (fun i=>by rw [hc (i+2),show j+(i+2)=j+2+i by omega]) (by omega)
    exact ⟨m+2,by omega,e⟩
theorem bn {k:Kd} {n:Int} {j:Nat} {c t:Nm} {T:Nat} (h4:k.four=true) (hn:k.ok n) (hc:c.ty k) (ht:tot k t) (b1:c.re.natAbs≤T+1) (b2:t.re.natAbs≤T):(sC k n j (c.add t)).re.natAbs≤T+1:=by
 have hk:k≠.pairs:=fun z=>by rw [z] at h4; cases h4
 obtain ⟨x,rfl⟩:=wP hk hc
 obtain ⟨y,rfl⟩:=ht hk
 obtain ⟨a,ea⟩:=sC4 (n:=n) (j:=j) (t:=.i (x+y)) h4
 have e:(Nm.i x).add (.i y)=.i (x+y):=rfl
 rw [e,ea]
 have:=(sS h4 hn ea).1
 simp only [Nm.re] at *
 omega
theorem mt {k:Kd} {n:Int} {ts:List Nm} {T:Nat} (h4:k.four=true) (hn:k.ok n) (ht:∀ t∈ts,tot k t) (hb:∀ t∈ts,t.re.natAbs≤T):∀ j,(cAt k n ts j).re.natAbs≤T+1
 | 0=>by
  show (k.zero).re.natAbs≤_
  rw [yl]
  exact Nat.zero_le _
 | j+1=>by
  refine bn h4 hn (wy k n ts j) (x9 ht j) (mt h4 hn ht hb j) ?_
  rw [List.getD_eq_getElem?_getD]
  cases q:ts[j]? with
  | none=>exact Nat.zero_le _
  | some t=>exact hb t (List.mem_of_getElem? q)
theorem cz {x T:Int} (h1:-T≤x) (h2:x≤T):x*x≤T*T:=by
 rcases Int.le_total 0 x with z | z
 ·exact Int.mul_le_mul h2 h2 z (by omega)
 ·have:=Int.mul_le_mul (show -x≤T by omega) (show -x≤T by omega) (by omega) (by omega)
  rwa [Int.neg_mul_neg] at this
theorem lp {n a b x y T:Int} (hT:81≤T) (n1:1≤n) (n2:n≤9) (hx1:-T≤x) (hx2:x≤T) (hy1:-T≤y) (hy2:y≤T) (h:a*a+b*b≤30*(T*T)):
  pA n (a+x) (b+y)*pA n (a+x) (b+y)+pB n (a+x) (b+y)*pB n (a+x) (b+y)≤30*(T*T):=by
 obtain ⟨f,f0,f1,e⟩:=nX (n:=n) (a:=a+x) (b:=b+y)
 have q1:1≤n*n:=by have:=Int.mul_le_mul n1 n1 (by omega) (by omega); omega
 have q2:n*n≤81:=by have:=Int.mul_le_mul n2 n2 (by omega) (by omega); omega
 generalize pA n (a + x) (b + y) * pA n (a + x) (b + y) + pB n (a + x) (b + y) * pB n (a + x) (b + y)=X at *
 have hX:2*X≤(n*n+1)*X∨X<0:=by
  rcases Int.lt_or_le X 0 with z | z
  ·exact .inr z
  ·exact .inl (Int.mul_le_mul_of_nonneg_right (by omega) z)
 have r1:2*((a+x - f)*(a+x - f))≤3*(a*a)+6*((x - f)*(x - f)):=by
  have:=z0 (a - 2*(x - f))
  have e1:(a - 2*(x - f))*(a - 2*(x - f))=a*a - 4*(a*(x - f))+4*((x - f)*(x - f)):=by grind
  have e2:(a+x - f)*(a+x - f)=a*a+2*(a*(x - f))+(x - f)*(x - f):=by grind
  omega
 have r2:2*((b+y)*(b+y))≤3*(b*b)+6*(y*y):=by
  have:=z0 (b - 2*y)
  have e1:(b - 2*y)*(b - 2*y)=b*b - 4*(b*y)+4*(y*y):=by grind
  have e2:(b+y)*(b+y)=b*b+2*(b*y)+y*y:=by grind
  omega
 have s1:(x - f)*(x - f)≤(2*T)*(2*T):=cz (by omega) (by omega)
 have s2:y*y≤T*T:=cz hy1 hy2
 have s3:(2*T)*(2*T)=4*(T*T):=by grind
 have s4:=z0 T
 omega
theorem mr {n:Int} {ts:List Nm} {T:Nat} (hT:81≤T) (hn:Kd.pairs.ok n) (hb:∀ t∈ts,t.re.natAbs≤T∧t.im.natAbs≤T):∀ j,∃ a b,cAt .pairs n ts j=.p a b∧a*a+b*b≤30*((T:Int)*T)
 | 0=>⟨0,0,rfl,by have:=z0 (T:Int); omega⟩
 | j+1=>by
  obtain ⟨a,b,e,h⟩:=mr hT hn hb j
  have ht:(ts.getD j (.i 0)).re.natAbs≤T∧(ts.getD j (.i 0)).im.natAbs≤T:=by
   rw [List.getD_eq_getElem?_getD]
   cases q:ts[j]? with
   | none=>exact ⟨Nat.zero_le _,Nat.zero_le _⟩
   | some t=>exact hb t (List.mem_of_getElem? q)
  have ea:(Nm.p a b).add (ts.getD j (.i 0))=.p (a+(ts.getD j (.i 0)).re) (b+(ts.getD j (.i 0)).im):=by
   cases ts.getD j (.i 0) <;> rfl
  refine ⟨_,_,by show sC .pairs n j ((cAt .pairs n ts j).add _)=_; rw [e,ea]; exact hV ..,?_⟩
  have h1:(1:Int)≤n:=hn.1
  have h2:n≤9:=hn.2
  exact lp (by omega) h1 h2 (by omega) (by omega) (by omega) (by omega) h
theorem VI {P:Nat→Prop}:∀ (m:Nat),P m→∃ i,i≤m∧P i∧∀ l,l<i→¬ P l:=by
 intro m
 induction m using Nat.strongRecOn with
 | ind m ih=>
  intro h
  by_cases hx:∃ l,l<m∧P l
  ·obtain ⟨l,hl,pl⟩:=hx
   obtain ⟨i,hi,h2⟩:=ih l hl pl
   exact ⟨i,by omega,h2⟩
  ·exact ⟨m,Nat.le_refl _,h,fun l hl pl=>hx ⟨l,hl,pl⟩⟩
theorem i9 {k:Kd} {n:Int} {ts:List Nm} {b:Nat} (h5:k.five=true) (hn:k.ok n) (ht:∀ t∈ts,tot k t) (hb:∀ t∈ts,t.re.natAbs≤2 ^ b∧t.im.natAbs≤2 ^ b) (b7:7≤b) (hh:xZ k (cAt k n ts ts.length)=true):
  ∃ J,Fin k n ts J∧J≤ts.length+4*b+30∧(k≠.pairs→J≤ts.length+b+3):=by
 have hpow:2 ^ (b+1)=2*2 ^ b:=by rw [Nat.pow_succ]; omega
 have h128:128≤2 ^ b:=Nat.pow_le_pow_right (by decide:0<2) b7
 have main:∃ m,m≤4*b+30∧(k≠.pairs→m≤b+3)∧cAt k n ts (ts.length+m)=k.zero∧∀ i,xZ k (cAt k n ts (ts.length+i))=true:=by
  have hc:∀ i,cAt k n ts (ts.length+(i+1))=sC k n (ts.length+i) (cAt k n ts (ts.length+i)):=fun i=>cj (j:=ts.length+i) (by omega)
  by_cases hk:k=.pairs
  ·subst hk
   obtain ⟨x,y,e,hxy⟩:=mr (T:=2 ^ b) (by omega) hn hb ts.length
   have hbig:30*(((2 ^ b:Nat):Int)*((2 ^ b:Nat):Int))≤((2 ^ (2*b+5):Nat):Int):=by
    have:2 ^ (2*b+5)=32*(2 ^ b*2 ^ b):=by rw [← Nat.pow_add,show 2*b+5=(b+b)+5 by omega,Nat.pow_add]; omega
    rw [this,← Int.natCast_mul]
    omega
   obtain ⟨m,hm,em⟩:=VV hn.1 hn.2 (2*b+5) ts.length (fun i=>cAt .pairs n ts (ts.length+i)) x y e hc (Int.le_trans hxy hbig)
   refine ⟨m,by omega,fun z=>absurd rfl z,em,fun i=>?_⟩
   obtain ⟨u,v,e'⟩:=wy .pairs n ts (ts.length+i)
   rw [e']
   rfl
  ·have h4:=ql h5 hk
   obtain ⟨t,et⟩:=wP hk (wy k n ts ts.length)
   rw [et] at hh
   have bd:=mt h4 hn ht (fun t h=>(hb t h).1) ts.length
   rw [et] at bd
   have bd':t.natAbs≤2 ^ b+1:=bd
   obtain ⟨m,hm,em⟩:=cN h4 hn (b+1) ts.length (fun i=>cAt k n ts (ts.length+i)) t et hc hh (by omega)
   refine ⟨m,by omega,fun _=>by omega,em,fun i=>?_⟩
   obtain ⟨a,e',h'⟩:=qV h4 hn (c:=fun i=>cAt k n ts (ts.length+i)) et hc hh i
   have e':cAt k n ts (ts.length+i)=.i a:=e'
   rw [e']
   exact h'
 obtain ⟨m,hm,hm4,em,hall⟩:=main
 obtain ⟨i,hi,pi,hl⟩:=VI (P:=fun i=>cAt k n ts (ts.length+i)=k.zero) m em
 refine ⟨ts.length+i,⟨by omega,pi,fun j h1 h2=>?_⟩,by omega,fun z=>by have:=hm4 z; omega⟩
 have e:j=ts.length+(j - ts.length):=by omega
 rw [e]
 exact ⟨hl _ (by omega),hall _⟩
theorem vz (k:Kd) (n:Int) (ts:List Nm) (j:Nat):(x5 k n ts j).length=j:=by unfold x5; rw [List.length_map,List.length_range]
theorem pU {k:Kd} {n:Int} {ts:List Nm} {j i:Nat} (h:i<j):(x5 k n ts j).getD i 0=fAt k n ts i:=by
 unfold x5
 rw [List.getD_eq_getElem?_getD,List.getElem?_map,List.getElem?_range h]
 rfl
theorem lK (k:Kd) (n:Int) (ts:List Nm) (j:Nat):x5 k n ts (j+1)=x5 k n ts j++[fAt k n ts j]:=by
 unfold x5
 rw [List.range_succ,List.map_append]
 rfl
theorem iC (k:Kd) (n:Int) (ts:List Nm) (j:Nat):crs k n ts (j+1)=crs k n ts j++[cAt k n ts j]:=by
 unfold crs
 rw [List.range_succ,List.map_append]
 rfl
theorem cg (k:Kd) (n:Int) (ts:List Nm) (j:Nat):(crs k n ts j).length=j:=by unfold crs; rw [List.length_map,List.length_range]
def Kd.isF:Kd→Bool
 | .falling=>true
 | _=>false
structure zD (k:Kd) (n:Int) (r:List Int):Prop where
 fig:∀ p,p<r.length→k.low n p≤r.getD p 0∧r.getD p 0≤k.high n p
 fal:k.isF=true→∀ p,p+1<r.length→r.getD (p+1) 0=n→r.getD p 0=0
 end_:r=[]∨r.getD (r.length - 1) 0≠0
open Classical in
noncomputable def uB (k:Kd) (n:Int) (r:List Int):Bool:=decide (zD k n r)
open Classical in
theorem u4 {k:Kd} {n:Int} {r:List Int} (h:zD k n r):uB k n r=true:=by unfold uB; exact decide_eq_true h
open Classical in
theorem wG {k:Kd} {n:Int} {r:List Int} (h:¬ zD k n r):uB k n r=false:=by unfold uB; exact decide_eq_false h
structure Lg (k:Kd) (n:Int) (r:List Int):Prop where
 fig:∀ p,p<r.length→k.low n p≤r.getD p 0∧r.getD p 0≤k.high n p
 fal:k.isF=true→∀ p,p+1<r.length→r.getD (p+1) 0=n→r.getD p 0=0
theorem qd {k:Kd} {n:Int} (h:k.ok n) (p:Nat):k.low n p≤0∧0≤k.high n p:=by
 obtain ⟨h1,h2⟩:=h
 cases k <;> simp only [Kd.lo,Kd.hi,Kd.low,Kd.high] at * <;> first | omega | exact ⟨Int.le_refl _,Int.mul_nonneg (by omega) (by omega)⟩
theorem zK {r:List Int} {z:Int} {p:Nat} (h:p<r.length):(r++[z]).getD p 0=r.getD p 0:=by
 rw [List.getD_eq_getElem?_getD,List.getD_eq_getElem?_getD,List.getElem?_append_left h]
theorem getD_snoc_eq {r:List Int} {z:Int}:(r++[z]).getD r.length 0=z:=by
 rw [List.getD_eq_getElem?_getD,List.getElem?_append_right (Nat.le_refl _)]
 simp
theorem Lg.nil (k:Kd) (n:Int):Lg k n []:=⟨fun p h=>absurd h (Nat.not_lt_zero _),fun _ p h=>absurd h (Nat.not_lt_zero _)⟩
theorem Lg.pop {k:Kd} {n:Int} {r:List Int} {z:Int} (h:Lg k n (r++[z])):Lg k n r:=by
 refine ⟨fun p hp=>?_,fun hk p hp=>?_⟩
 ·have:=h.fig p (by rw [List.length_append]; omega)
  rwa [zK hp] at this
 ·have:=h.fal hk p (by rw [List.length_append]; omega)
  rwa [zK hp,zK (by omega)] at this
theorem Lg.trim {k:Kd} {n:Int}:∀ {r:List Int},Lg k n r→zD k n (trim r):=by
 intro r
 generalize hl:r.length=m
 induction m generalizing r with
 | zero=>
  intro h
  obtain rfl:r=[]:=List.length_eq_zero_iff.mp hl
  exact ⟨h.fig,h.fal,.inl rfl⟩
 | succ m ih=>
  intro h
  rcases zU r with rfl | ⟨l,z,rfl⟩
  ·cases hl
  ·by_cases hz:z=0
   ·subst hz
    rw [wD]
    exact ih (by rw [List.length_append] at hl; exact Nat.succ.inj hl) h.pop
   ·rw [uX hz]
    exact ⟨h.fig,h.fal,.inr (by rw [List.length_append]; exact fun e=>hz (by rw [← e]; exact getD_snoc_eq.symm))⟩
theorem Lg.push {k:Kd} {n z:Int} {r:List Int} (h:Lg k n r) (hz:k.low n r.length≤z∧z≤k.high n r.length) (hf:k.isF=true→z=n→r=[]∨r.getD (r.length - 1) 0=0):Lg k n (r++[z]):=by
 refine ⟨fun p hp=>?_,fun hk p hp e=>?_⟩
 ·rw [List.length_append] at hp
  rcases (by simp at hp; omega:p<r.length∨p=r.length) with q | q
  ·rw [zK q]; exact h.fig p q
  ·subst q; rw [getD_snoc_eq]; exact hz
 ·rw [List.length_append] at hp
  rcases (by simp at hp; omega:p+1<r.length∨p+1=r.length) with q | q
  ·rw [zK q] at e
   rw [zK (by omega)]
   exact h.fal hk p q e
  ·rw [q,getD_snoc_eq] at e
   rw [zK (by omega)]
   rcases hf hk e with z | z
   ·rw [z] at q; cases q
   ·rw [show r.length - 1=p by omega] at z; exact z
theorem wm {r:List Int} {i j:Nat} {z:Int} (h:i≠j):(r.set i z).getD j 0=r.getD j 0:=by
 rw [List.getD_eq_getElem?_getD,List.getD_eq_getElem?_getD,List.getElem?_set_ne h]
theorem uD {r:List Int} {i:Nat} {z:Int} (h:i<r.length):(r.set i z).getD i 0=z:=by
 rw [List.getD_eq_getElem?_getD,List.getElem?_set_self h]
 rfl
theorem Lg.zero {k:Kd} {n:Int} {r:List Int} (hn:k.ok n) (h:Lg k n r):Lg k n (r.set (r.length - 1) 0):=by
 refine ⟨fun p hp=>?_,fun hk p hp e=>?_⟩
 ·rw [List.length_set] at hp
  by_cases q:r.length - 1=p
  ·subst q; rw [uD hp]; exact qd hn _
  ·rw [wm q]; exact h.fig p hp
 ·rw [List.length_set] at hp
  have n1:n≠0:=by have:=hn.1; cases k <;> simp only [Kd.lo] at this <;> omega
  by_cases q:r.length - 1=p+1
  ·rw [← q,uD (by omega)] at e; exact absurd e.symm n1
  ·rw [wm q] at e
   rw [wm (by omega)]
   exact h.fal hk p hp e
theorem wC (k:Kd) (n:Int) (ns:List Int):∀ j,xl k n ns j=wF k n (fun i=>ns.getD i 0) j
 | 0=>rfl
 | j+1=>by unfold xl wF; rw [wC k n ns j]
theorem tp {k:Kd} {n:Int} {f g:Nat→Int}:∀ j,(∀ i,i<j→f i=g i)→wF k n f j=wF k n g j
 | 0,_=>rfl
 | j+1,h=>by
  unfold wF
  rw [tp j fun i hi=>h i (by omega),h j (by omega)]
theorem qL (k:Kd) (n:Int) (j:Nat):(wt k n j).ty k:=by
 by_cases hk:k=.pairs
 ·subst hk; exact wt2 j
 ·obtain ⟨w,e⟩:=wtI (n:=n) hk j
  rw [e]
  exact vk hk
theorem tP {k:Kd} {t w:Nm} (ht:tot k t) (hw:w.ty k):(t.mul w).ty k:=by
 by_cases hk:k=.pairs
 ·subst hk
  obtain ⟨a,b,rfl⟩:=hw
  cases t <;> exact ⟨_,_,rfl⟩
 ·obtain ⟨a,rfl⟩:=ht hk
  obtain ⟨b,rfl⟩:=wP hk hw
  exact vk hk
theorem yz {k:Kd} {m:Nm} (h:m.ty k):tot k m:=fun hk=>wP hk h
theorem cx (k:Kd) (a:Int):tot k (.i a):=fun _=>⟨a,rfl⟩
theorem l_ (k:Kd) (n:Int) (f:Nat→Int):∀ j,(wF k n f j).ty k
 | 0=>wB k
 | j+1=>vf (l_ k n f j) (yz (tP (cx k _) (qL k n j)))
theorem l8 {k:Kd} {n:Int} {ts:List Nm} (ht:∀ t∈ts,tot k t):∀ j,(wN k n ts j).ty k
 | 0=>wB k
 | j+1=>vf (l8 ht j) (yz (tP (x9 ht j) (qL k n j)))
theorem oj {k:Kd} {m w:Nm} (hm:m.ty k) (hw:w.ty k):m.add ((Nm.i 0).mul w)=m:=by
 refine rZ (vf hm (yz (tP (cx k 0) hw))) hm ?_ ?_
 ·rw [yM,zO]; show m.re+(0*w.re - 0*w.im)=_; rw [Int.zero_mul,Int.zero_mul]; omega
 ·rw [wz,yc]; show m.im+(0*w.im+0*w.re)=_; rw [Int.zero_mul,Int.zero_mul]; omega
theorem l9 {k:Kd} {n:Int} {ts:List Nm} (ht:∀ t∈ts,tot k t):∀ i,wN k n ts (ts.length+i)=wN k n ts ts.length
 | 0=>rfl
 | i+1=>by
  have e:ts.getD (ts.length+i) (.i 0)=.i 0:=by rw [List.getD_eq_getElem?_getD,List.getElem?_eq_none (by omega)]; rfl
  show (wN k n ts (ts.length+i)).add ((ts.getD (ts.length+i) (.i 0)).mul (wt k n (ts.length+i)))=_
  rw [e,oj (l8 ht _) (qL k n _)]
  exact l9 ht i
def rn (k:Kd) (n:Int) (ts:List Nm):Nm:=wN k n ts ts.length
def zy (k:Kd) (n:Int) (r:List Int):Nm:=xl k n r r.length
theorem Fin.worth {k:Kd} {n:Int} {ts:List Nm} {J:Nat} (F:Fin k n ts J) (h5:k.five=true) (hn:k.ok n) (ht:∀ t∈ts,tot k t):zy k n (x5 k n ts J)=rn k n ts:=by
 unfold zy rn
 rw [vz,wC,tp (g:=fAt k n ts) J (fun i hi=>pU hi)]
 have e:wN k n ts J=wN k n ts ts.length:=by
  rw [show J=ts.length+(J - ts.length) by have:=F.le; omega]
  exact l9 ht _
 obtain ⟨t1,t2⟩:=X8 h5 hn ht J
 rw [F.z,zO,yl,yO] at t1
 rw [F.z,yc,yl,yO] at t2
 rw [← e]
 refine rZ (l_ k n _ J) (l8 ht J) ?_ ?_
 ·rw [t1,Int.mul_zero,Int.mul_zero]; omega
 ·rw [t2,Int.mul_zero,Int.mul_zero]; omega
theorem rm {k:Kd} {n:Int} {l:List Int} {z:Int} {j:Nat} (h:j≤l.length):xl k n (l++[z]) j=xl k n l j:=by
 rw [wC,wC]
 exact tp j fun i hi=>zK (by omega)
theorem x8 (k:Kd) (n:Int) (l:List Int) (z:Int):zy k n (l++[z])=(zy k n l).add ((Nm.i z).mul (wt k n l.length)):=by
 unfold zy
 rw [List.length_append]
 show (xl k n (l++[z]) l.length).add ((Nm.i ((l++[z]).getD l.length 0)).mul (wt k n l.length))=_
 rw [rm (Nat.le_refl _),getD_snoc_eq]
theorem vM (k:Kd) (n:Int) (r:List Int):(zy k n r).ty k:=by
 unfold zy
 rw [wC]
 exact l_ k n _ _
theorem qO (k:Kd) (n:Int) (r:List Int):zy k n (trim r)=zy k n r:=by
 generalize hl:r.length=m
 induction m generalizing r with
 | zero=>
  obtain rfl:r=[]:=List.length_eq_zero_iff.mp hl
  rfl
 | succ m ih=>
  rcases zU r with rfl | ⟨l,z,rfl⟩
  ·cases hl
  ·by_cases hz:z=0
   ·subst hz
    rw [wD,ih l (by rw [List.length_append] at hl; exact Nat.succ.inj hl),x8,oj (vM k n l) (qL k n _)]
   ·rw [uX hz]
theorem tY {k:Kd} (h5:k.five=true):k.isF=false:=by cases k <;> first | rfl | cases h5
theorem dS {k:Kd} {n:Int} {ts:List Nm} (h5:k.five=true) (hn:k.ok n) (ht:∀ t∈ts,tot k t) (J:Nat):Lg k n (x5 k n ts J):=by
 refine ⟨fun p hp=>?_,fun hF=>?_⟩
 ·rw [vz] at hp
  rw [pU hp]
  obtain ⟨a,b,_⟩:=tw (j:=p) h5 hn (vf (wy k n ts p) (x9 ht p))
  exact ⟨a,b⟩
 ·rw [tY h5] at hF
  cases hF
def i_ (k:Kd) (n:Int) (ts:List Nm) (J:Nat):List Int:=trim (x5 k n ts J)
theorem oE {k:Kd} {n:Int} {ts:List Nm} {J:Nat} (h5:k.five=true) (hn:k.ok n) (ht:∀ t∈ts,tot k t):zD k n (i_ k n ts J):=(dS h5 hn ht J).trim
theorem oC {k:Kd} {n:Int} {ts:List Nm} {J:Nat} (F:Fin k n ts J) (h5:k.five=true) (hn:k.ok n) (ht:∀ t∈ts,tot k t):zy k n (i_ k n ts J)=rn k n ts:=by
 unfold i_
 rw [qO,F.worth h5 hn ht]
theorem ox {k:Kd} {n:Int} {m:Nm} (hm:m.ty k) (h5:k.five=true):rn k n [m]=m:=by
 show (k.zero.add (m.mul (wt k n 0)))=m
 have e:wt k n 0=k.zero.add (.i 1):=by cases k <;> first | rfl | cases h5
 have r1:(wt k n 0).re=1:=by rw [e,yM,yl]; rfl
 have r2:(wt k n 0).im=0:=by rw [e,wz,yO]; rfl
 refine rZ (vf (wB k) (yz (tP (yz hm) (qL k n 0)))) hm ?_ ?_
 ·rw [yM,zO,yl,r1,r2,Int.mul_one,Int.mul_zero]; omega
 ·rw [wz,yc,yO,r1,r2,Int.mul_one,Int.mul_zero]; omega
theorem ni {k:Kd} {m:Nm} (h:xZ k m=true):m.ty k:=by
 cases k <;> cases m <;> first | exact ⟨_,rfl⟩ | exact ⟨_,_,rfl⟩ | cases h
theorem kn {k:Kd} {n:Int} {m:Nm} {b:Nat} (h5:k.five=true) (hn:k.ok n) (hm:xZ k m=true) (hb:m.re.natAbs≤2 ^ b∧m.im.natAbs≤2 ^ b) (b7:7≤b):∃ J,Fin k n [m] J∧J≤4*b+31∧(k≠.pairs→J≤b+4):=by
 have ht:∀ t∈[m],tot k t:=fun t h=>by rw [List.mem_singleton.mp h]; exact yz (ni hm)
 have e1:cAt k n [m] 1=sC k n 0 m:=by
  show sC k n 0 (k.zero.add m)=_
  rw [X3 (ni hm)]
 obtain ⟨J,F,hJ⟩:=i9 (b:=b) h5 hn ht (fun t h=>by rw [List.mem_singleton.mp h]; exact hb) b7 (by
  show xZ k (cAt k n [m] 1)=true
  rw [e1]
  by_cases hk:k=.pairs
  ·subst hk
   obtain ⟨x,y,e⟩:=ku .pairs n 0 m
   rw [e]; rfl
  ·have h4:=ql h5 hk
   obtain ⟨t,rfl⟩:=wP hk (ni hm)
   obtain ⟨a,ea⟩:=sC4 (n:=n) (j:=0) (t:=.i t) h4
   rw [ea]
   exact (sS h4 hn ea).2.1 hm)
 exact ⟨J,F,by have:=hJ.1; simp at this; omega,fun z=>by have:=hJ.2 z; simp at this; omega⟩
def vh (k:Kd):DSp:=fun ds Q=>∃ o d m,ds=[o,d]∧tO d=some m∧Q (.bl (xZ k m))
def isP:Nm→Bool
 | .p _ _=>true
 | _=>false
def uv:DSp:=fun ds Q=>∃ d m,ds=[d]∧tO d=some m∧Q (.bl (isP m))
def iJ:DSp:=fun ds Q=>∃ r,ds=[zu r]∧Q (zu (trim r))
def xX:DSp:=fun ds Q=>∃ xs p,ds=[.lst xs,.int p]∧0≤p∧Q (xs.getD p.toNat (.int 0))
def iW (ts:List Nm):Dt:=.lst (ts.map Nm.dt)
def p7 (k:Kd) (n:Int) (ts:List Nm) (j:Nat):List Dt:=(crs k n ts j).map Nm.dt
theorem dO (ts:List Nm) (j:Nat):(ts.map Nm.dt).getD j (.int 0)=(ts.getD j (.i 0)).dt:=by
 rw [List.getD_eq_getElem?_getD,List.getD_eq_getElem?_getD,List.getElem?_map]
 cases ts[j]? <;> rfl
theorem Xz {k:Kd} {m m':Nm} (h:m.ty k) (h':m'.ty k):eqD m.dt m'.dt=true↔m=m':=by
 by_cases hk:k=.pairs
 ·subst hk
  obtain ⟨a,b,rfl⟩:=h
  obtain ⟨c,d,rfl⟩:=h'
  show eqD (.tup [.int a,.int b]) (.tup [.int c,.int d])=true↔_
  rw [vB,xy,xy,vA,yT,yT,Bool.and_eq_true,Bool.and_eq_true,beq_iff_eq,beq_iff_eq]
  constructor
  ·rintro ⟨rfl,rfl,_⟩; rfl
  ·intro e; cases e; exact ⟨rfl,rfl,rfl⟩
 ·obtain ⟨a,rfl⟩:=wP hk h
  obtain ⟨c,rfl⟩:=wP hk h'
  show eqD (.int a) (.int c)=true↔_
  rw [yT,beq_iff_eq]
  constructor
  ·rintro rfl; rfl
  ·intro e; cases e; rfl
def wf (n:Int) (j:Nat):Int:=(wtF n j).2
theorem mP (n:Int):wf n 0=1:=rfl
theorem mO (n:Int):wf n 1=n+1:=by show n*1+1=_; rw [Int.mul_one]
theorem mM (n:Int) (j:Nat):wf n (j+2)=n*wf n (j+1)+wf n j:=rfl
theorem xC {n:Int} (h:1≤n):∀ j,1≤wf n j∧wf n j≤wf n (j+1)
 | 0=>by rw [mP,mO]; omega
 | j+1=>by
  obtain ⟨a,b⟩:=xC h j
  have:wf n (j+1)≤n*wf n (j+1):=by
   have:=Int.mul_le_mul_of_nonneg_right h (show 0≤wf n (j+1) by omega)
   omega
  rw [mM]
  omega
theorem cw {n:Int} (h:1≤n) (h9:n≤9):∀ j,wf n j≤((2 ^ (4*j):Nat):Int)
 | 0=>by rw [mP]; decide
 | j+1=>by
  have ih:=cw h h9 j
  have p:=xC h j
  have hp:((2 ^ (4*(j+1)):Nat):Int)=16*((2 ^ (4*j):Nat):Int):=by rw [show 4*(j+1)=4*j+4 by omega,Nat.pow_add]; omega
  have k:n*wf n j≤9*wf n j:=Int.mul_le_mul_of_nonneg_right h9 (by omega)
  have e:wf n (j+1)≤n*wf n j+wf n j:=by
   cases j with
   | zero=>rw [mO,mP]; omega
   | succ q=>rw [mM]; have:=(xC h q).2; omega
  omega
def Vt (k:Kd) (n:Int):Nat→List Int→Nm
 | _,[]=>k.zero
 | j,f::r=>(Nm.i f).add ((k.ratN n j).mul (Vt k n (j+1) r))
theorem bo {k:Kd} {n:Int} {j:Nat} (h5:k.five=true):(k.ratN n j).ty k:=by
 cases k <;> first | exact ⟨_,rfl⟩ | exact ⟨_,_,rfl⟩ | cases h5
theorem jN {k:Kd} {f:Int} {m:Nm} (h:m.ty k):((Nm.i f).add m).ty k:=by
 by_cases hk:k=.pairs
 ·subst hk
  obtain ⟨a,b,rfl⟩:=h
  exact ⟨_,_,rfl⟩
 ·obtain ⟨a,rfl⟩:=wP hk h
  exact vk hk
theorem cU {k:Kd} {n:Int} (h5:k.five=true):∀ (r:List Int) (j:Nat),(Vt k n j r).ty k
 | [],_=>wB k
 | _::r,j=>jN (tP (yz (bo h5)) (cU h5 r (j+1)))
theorem iV {P1 P2 w1 w2 f r1 r2 v1 v2:Int}:P1+(f*w1 - 0*w2)+((r1*w1 - r2*w2)*v1 - (r1*w2+r2*w1)*v2)=P1+(w1*(f+(r1*v1 - r2*v2)) - w2*(0+(r1*v2+r2*v1)))∧P2+(f*w2+0*w1)+((r1*w1 - r2*w2)*v2+(r1*w2+r2*w1)*v1)=P2+(w1*(0+(r1*v2+r2*v1))+w2*(f+(r1*v1 - r2*v2))):=by
 constructor <;> grind
theorem qN {k:Kd} {n:Int} (h5:k.five=true):∀ (r pre:List Int),
  (zy k n (pre++r)).re=(zy k n pre).re+((wt k n pre.length).mul (Vt k n pre.length r)).re∧(zy k n (pre++r)).im=(zy k n pre).im+((wt k n pre.length).mul (Vt k n pre.length r)).im
 | [],pre=>by
  rw [List.append_nil]
  unfold Vt
  rw [zO,yc,yl,yO,Int.mul_zero,Int.mul_zero]
  exact ⟨by omega,by omega⟩
 | f::r,pre=>by
  obtain ⟨i1,i2⟩:=qN h5 r (pre++[f])
  have e:pre++f::r=(pre++[f])++r:=by rw [List.append_assoc]; rfl
  have el:(pre++[f]).length=pre.length+1:=by rw [List.length_append]; rfl
  have ev:Vt k n pre.length (f::r)=(Nm.i f).add ((k.ratN n pre.length).mul (Vt k n (pre.length+1) r)):=rfl
  rw [e,i1,i2,el,x8,vi h5,ev]
  simp only [zO,yc,yM,wz]
  have fr:(Nm.i f).re=f:=rfl
  have fi:(Nm.i f).im=0:=rfl
  rw [fr,fi]
  exact iV
theorem l7 {k:Kd} {n:Int} (h5:k.five=true) (r:List Int):zy k n r=Vt k n 0 r:=by
 obtain ⟨a,b⟩:=qN (n:=n) h5 r []
 have e:wt k n 0=k.zero.add (.i 1):=by cases k <;> first | rfl | cases h5
 have r1:(wt k n 0).re=1:=by rw [e,yM,yl]; rfl
 have r2:(wt k n 0).im=0:=by rw [e,wz,yO]; rfl
 have z1:(zy k n []).re=0:=yl k
 have z2:(zy k n []).im=0:=yO k
 simp only [List.length_nil,List.nil_append] at a b
 rw [zO,r1,r2,z1] at a
 rw [yc,r1,r2,z2] at b
 refine rZ (vM k n r) (cU h5 r 0) ?_ ?_
 ·rw [a]; omega
 ·rw [b]; omega
def Figs (k:Kd) (n:Int) (j:Nat) (r:List Int):Prop:=∀ p,p<r.length→k.low n ((j+p:Nat):Int)≤r.getD p 0∧r.getD p 0≤k.high n ((j+p:Nat):Int)
theorem Figs.cons {k:Kd} {n f:Int} {j:Nat} {r:List Int} (h:Figs k n j (f::r)):(k.low n j≤f∧f≤k.high n j)∧Figs k n (j+1) r:=by
 refine ⟨h 0 (by simp),fun p hp=>?_⟩
 have:=h (p+1) (by simp; exact hp)
 rw [show j+(p+1)=j+1+p by omega] at this
 exact this
theorem yx {r:List Int} {p:Nat} (h:r.length≤p):r.getD p 0=0:=by rw [List.getD_eq_getElem?_getD,List.getElem?_eq_none h]; rfl
theorem hZ {r s:List Int} (h:∀ p,r.getD p 0=s.getD p 0) (hr:r=[]∨r.getD (r.length - 1) 0≠0) (hs:s=[]∨s.getD (s.length - 1) 0≠0):r=s:=by
 have hl:r.length=s.length:=by
  rcases (by omega:r.length=s.length∨r.length<s.length∨s.length<r.length) with z | z | z
  ·exact z
  ·rcases hs with hs | hs
   ·rw [hs] at z; simp at z
   ·exact absurd (by rw [← h]; exact yx (by omega)) hs
  ·rcases hr with hr | hr
   ·rw [hr] at z; simp at z
   ·exact absurd (by rw [h]; exact yx (by omega)) hr
 apply List.ext_getElem hl
 intro i h1 h2
 have:=h i
 rw [List.getD_eq_getElem?_getD,List.getD_eq_getElem?_getD,List.getElem?_eq_getElem h1,List.getElem?_eq_getElem h2] at this
 exact this
theorem ux (n:Int) (l:List Int) (z:Int):(zy .falling n (l++[z])).re=(zy .falling n l).re+z*wf n l.length:=by
 rw [x8,yM]
 rfl
theorem Lg.lt {n:Int} (h1:1≤n):∀ (m:Nat) (r:List Int),r.length=m→Lg .falling n r→(zy .falling n r).re<wf n m:=by
 intro m
 induction m using Nat.strongRecOn with
 | ind m ih=>
  intro r hl h
  rcases zU r with rfl | ⟨l,z,rfl⟩
  ·subst hl; show (0:Int)<wf n 0; rw [mP]; decide
  ·have el:l.length+1=m:=by rw [List.length_append] at hl; exact hl
   have hz:=h.fig l.length (by rw [List.length_append]; simp)
   rw [getD_snoc_eq] at hz
   have hz0:0≤z:=hz.1
   have hz1:z≤n:=hz.2
   have il:=ih l.length (by omega) l rfl h.pop
   have wp:=(xC h1 l.length).1
   rw [ux,← el]
   rcases (by omega:z≤n - 1∨z=n) with c | c
   ·have k1:=Int.mul_le_mul_of_nonneg_right c (show 0≤wf n l.length by omega)
    have k2:(n - 1)*wf n l.length=n*wf n l.length - wf n l.length:=by rw [Int.sub_mul,Int.one_mul]
    have k3:n*wf n l.length<wf n (l.length+1):=by
     cases l.length with
     | zero=>rw [mO,mP]; omega
     | succ q=>rw [mM]; have:=(xC h1 q).1; omega
    omega
   ·subst c
    rcases zU l with rfl | ⟨l',y,rfl⟩
    ·show (0:Int)+z*wf z 0<wf z 1
     rw [mP,mO]; omega
    ·have hy:=h.fal rfl l'.length (by rw [List.length_append,List.length_append]; simp) (by
      have:=getD_snoc_eq (r:=l'++[y]) (z:=z)
      rw [List.length_append] at this
      exact this)
     rw [zK (by rw [List.length_append]; simp),getD_snoc_eq] at hy
     subst hy
     have i2:=ih l'.length (by rw [List.length_append] at el; simp at el; omega) l' rfl h.pop.pop
     rw [ux,Int.zero_mul,Int.add_zero,List.length_append]
     show _+z*wf z (l'.length+1)<wf z (l'.length+2)
     rw [mM]
     omega
theorem wt7 {k:Kd} {n:Int} (hn:k.ok n) (hk:k≠.pairs) {j:Nat} (hj:j≤60):(wt k n j).re.natAbs≤2 ^ (7*j):=by
 obtain ⟨b1,b2⟩:=xk hn
 by_cases hf:k=.falling
 ·subst hf
  have:=cw b1 (by have:=hn.2; exact this) j
  have p:=(xC b1 j).1
  have h2:2 ^ (4*j)≤2 ^ (7*j):=Nat.pow_le_pow_right (by decide) (by omega)
  show (wf n j).natAbs≤_
  omega
 ·have h4:k.four=true:=by cases k <;> first | rfl | exact absurd rfl hk | exact absurd rfl hf
  have h5:k.five=true:=by cases k <;> first | rfl | cases h4
  induction j with
  | zero=>
   have e:wt k n 0=.i 1:=by cases k <;> first | rfl | exact absurd rfl hf | exact absurd rfl hk
   rw [e]
   exact Nat.le_refl 1
  | succ j ih=>
   have i:=ih (by omega)
   rw [vi h5,zO]
   have hr1:(k.ratN n j).im=0:=by cases k <;> first | rfl | cases h4
   have hr2:(k.ratN n j).re.natAbs≤128:=by cases k <;> cases h4 <;> simp only [Kd.ratN,Kd.rat,Nm.re] <;> omega
   rw [hr1,Int.zero_mul,Int.sub_zero,Int.natAbs_mul,show 7*(j+1)=7+7*j by omega,Nat.pow_add]
   exact Nat.mul_le_mul hr2 i
theorem lL {k:Kd} {n:Int} {r:List Int} (hn:k.ok n) (h:zD k n r) (hl:r.length≤2000):∀ t∈r,t.natAbs≤4000:=by
 intro t ht
 obtain ⟨i,hi,e⟩:=List.getElem_of_mem ht
 have f:=h.fig i hi
 have eg:r.getD i 0=t:=by rw [List.getD_eq_getElem?_getD,List.getElem?_eq_getElem hi,e]; rfl
 rw [eg] at f
 obtain ⟨b1,b2⟩:=xk hn
 have sq:n*n≤3600:=by have:=Int.mul_le_mul b2 b2 (by omega) (by omega); omega
 cases k <;> simp only [Kd.low,Kd.high] at f <;> omega
theorem Xx {k:Kd} {n:Int} {r:List Int} (hn:k.ok n) (h:zD k n r) (hl:r.length≤2000):bdR r:=fun t ht=>
 Nat.lt_of_le_of_lt (lL hn h hl t ht) (Nat.lt_of_lt_of_le (by decide:4000<2 ^ 12) (Nat.pow_le_pow_right (by decide) (by decide)))
theorem c7 {k:Kd} {n:Int} (hn:k.ok n) {j:Nat} (hj:j≤60):(wt k n j).re.natAbs≤2 ^ (7*j)∧(wt k n j).im.natAbs≤2 ^ (7*j):=by
 by_cases hk:k=.pairs
 ·subst hk
  have h1:1≤n:=hn.1
  have h9:n≤9:=hn.2
  induction j with
  | zero=>exact ⟨Nat.le_refl 1,Nat.zero_le _⟩
  | succ j ih=>
   obtain ⟨a,b⟩:=ih (by omega)
   rw [vi rfl,zO,yc,show 7*(j+1)=7+7*j by omega,Nat.pow_add]
   show (-n*(wt .pairs n j).re - 1*(wt .pairs n j).im).natAbs≤_∧(-n*(wt .pairs n j).im+1*(wt .pairs n j).re).natAbs≤_
   generalize (wt .pairs n j).re=x at *
   generalize (wt .pairs n j).im=y at *
   generalize 2 ^ (7 * j)=X at *
   have m1:(-n*x).natAbs≤9*X:=by rw [Int.natAbs_mul]; exact Nat.mul_le_mul (by omega) a
   have m2:(-n*y).natAbs≤9*X:=by rw [Int.natAbs_mul]; exact Nat.mul_le_mul (by omega) b
   have e:(2:Nat) ^ 7=128:=rfl
   rw [e]
   omega
 ·refine ⟨wt7 hn hk hj,?_⟩
  obtain ⟨w,e⟩:=wtI (n:=n) hk j
  rw [e]
  exact Nat.zero_le _
theorem qM {k:Kd} {n:Int} {r:List Int} (hn:k.ok n) (hs:∀ t∈r,t.natAbs≤4000):∀ j,j≤60→(xl k n r j).re.natAbs≤2 ^ (7*j+13)∧(xl k n r j).im.natAbs≤2 ^ (7*j+13)
 | 0,_=>by
  show (k.zero).re.natAbs≤_∧(k.zero).im.natAbs≤_
  rw [yl,yO]
  exact ⟨Nat.zero_le _,Nat.zero_le _⟩
 | j+1,hj=>by
  obtain ⟨a,b⟩:=qM hn hs j (by omega)
  obtain ⟨w1,w2⟩:=c7 hn (show j≤60 by omega)
  have ht:(r.getD j 0).natAbs≤4000:=by
   rw [List.getD_eq_getElem?_getD]
   cases q:r[j]? with
   | none=>exact Nat.zero_le _
   | some t=>exact hs t (List.mem_of_getElem? q)
  have e:xl k n r (j+1)=(xl k n r j).add ((Nm.i (r.getD j 0)).mul (wt k n j)):=rfl
  rw [e,yM,wz,zO,yc]
  show ((xl k n r j).re+(r.getD j 0*(wt k n j).re - 0*(wt k n j).im)).natAbs≤_∧((xl k n r j).im+(r.getD j 0*(wt k n j).im+0*(wt k n j).re)).natAbs≤_
  have p1:2 ^ (7*(j+1)+13)=128*(8192*2 ^ (7*j)):=by rw [show 7*(j+1)+13=7+(13+7*j) by omega,Nat.pow_add,Nat.pow_add]
  have p2:2 ^ (7*j+13)=8192*2 ^ (7*j):=by rw [show 7*j+13=13+7*j by omega,Nat.pow_add]
  rw [p1]
  rw [p2] at a b
  have m1:(r.getD j 0*(wt k n j).re).natAbs≤4000*2 ^ (7*j):=by rw [Int.natAbs_mul]; exact Nat.mul_le_mul ht w1
  have m2:(r.getD j 0*(wt k n j).im).natAbs≤4000*2 ^ (7*j):=by rw [Int.natAbs_mul]; exact Nat.mul_le_mul ht w2
  generalize 2 ^ (7 * j)=X at *
  omega
theorem ky {k:Kd} {n:Int} (h4:k.four=true) (hn:k.ok n) (j:Nat) {a b:Int} (ha:k.low n j≤a∧a≤k.high n j) (hb:k.low n j≤b∧b≤k.high n j):(a - b).natAbs+1≤(k.rat n j).natAbs:=by
 have h1:=hn.1
 cases k <;> try (first | (cases h4; done))
 all_goals
  simp only [Kd.low,Kd.high,Kd.rat,Kd.lo] at *
  omega
theorem ou {k:Kd} {n:Int} (h4:k.four=true) (j:Nat):(wt k n (j+1)).re=k.rat n j*(wt k n j).re:=by
 have h5:k.five=true:=by cases k <;> first | rfl | cases h4
 have hp:k≠.pairs:=by rintro rfl; cases h4
 obtain ⟨w,e⟩:=wtI (n:=n) hp j
 rw [vi h5,e]
 cases k <;> first | rfl | cases h4
theorem zT {k:Kd} {n:Int} (hp:k≠.pairs) (f:Nat→Int) (j:Nat):(wF k n f (j+1)).re=(wF k n f j).re+f j*(wt k n j).re:=by
 obtain ⟨w,e⟩:=wtI (n:=n) hp j
 show ((wF k n f j).add ((Nm.i (f j)).mul (wt k n j))).re=_
 rw [yM,e]
 rfl
theorem d4 {k:Kd} {n:Int} {f g:Nat→Int} (h4:k.four=true) (hn:k.ok n):∀ j:Nat,(∀ i:Nat,i<j→(k.low n i≤f i∧f i≤k.high n i)∧(k.low n i≤g i∧g i≤k.high n i))→((wF k n f j).re - (wF k n g j).re).natAbs+1≤(wt k n j).re.natAbs
 | 0,_=>by
  show ((k.zero).re - (k.zero).re).natAbs+1≤_
  cases k <;> first | exact Nat.le_refl 1 | cases h4
 | j+1,h=>by
  have hp:k≠.pairs:=by rintro rfl; cases h4
  have ih:=d4 h4 hn j fun i hi=>h i (by omega)
  obtain ⟨ha,hb⟩:=h j (by omega)
  have sp:=ky h4 hn j ha hb
  rw [zT hp,zT hp,ou h4,Int.natAbs_mul]
  have e:(wF k n f j).re+f j*(wt k n j).re - ((wF k n g j).re+g j*(wt k n j).re)=((wF k n f j).re - (wF k n g j).re)+(f j - g j)*(wt k n j).re:=by
   rw [Int.sub_mul]
   omega
  rw [e]
  generalize (wF k n f j).re - (wF k n g j).re=D at *
  generalize (wt k n j).re=x at *
  have t1:=Int.natAbs_add_le D ((f j - g j)*x)
  have t2:((f j - g j)*x).natAbs=(f j - g j).natAbs*x.natAbs:=Int.natAbs_mul _ _
  generalize ((f j - g j) * x).natAbs=y at *
  have t3:=Nat.mul_le_mul_right x.natAbs sp
  rw [Nat.add_mul,Nat.one_mul,← t2] at t3
  omega
theorem fF {n:Int} {f:Nat→Int} (h1:1≤n):∀ j:Nat,(∀ i:Nat,i<j→0≤f i∧f i≤n)→(∀ i:Nat,i+1<j→f (i+1)=n→f i=0)→0≤(wF .falling n f j).re∧(wF .falling n f j).re<wf n j
 | 0,_,_=>⟨Int.le_refl 0,show (0:Int)<1 by decide⟩
 | j+1,h,g=>by
  have hp:Kd.falling≠.pairs:=fun z=>nomatch z
  have ew:(wF .falling n f (j+1)).re=(wF .falling n f j).re+f j*wf n j:=zT hp f j
  obtain ⟨a,b⟩:=fF h1 j (fun i hi=>h i (by omega)) (fun i hi=>g i (by omega))
  obtain ⟨c,d⟩:=h j (by omega)
  obtain ⟨w1,w2⟩:=xC h1 j
  rw [ew]
  refine ⟨Int.add_nonneg a (Int.mul_nonneg c (by omega)),?_⟩
  by_cases e:f j=n
  ·cases j with
   | zero=>
    rw [e,mO]
    have:(wF .falling n f 0).re<1:=b
    show _+n*1<_
    omega
   | succ i=>
    have z:f i=0:=g i (by omega) e
    obtain ⟨_,b'⟩:=fF h1 i (fun i hi=>h i (by omega)) (fun i hi=>g i (by omega))
    have e2:(wF .falling n f (i+1)).re=(wF .falling n f i).re+f i*wf n i:=zT hp f i
    rw [e2,z,Int.zero_mul,e,mM]
    omega
  ·have m:f j*wf n j≤(n - 1)*wf n j:=Int.mul_le_mul_of_nonneg_right (by omega) (by omega)
   rw [Int.sub_mul,Int.one_mul] at m
   have u:n*wf n j≤wf n (j+1):=by
    cases j with
    | zero=>rw [mO]; show n*1≤_; omega
    | succ i=>rw [mM]; have:=(xC h1 i).1; omega
   omega
theorem d5 {k:Kd} {n:Int} {r s:List Int} (hp:k≠.pairs) (hn:k.ok n) (hr:zD k n r) (hs:zD k n s) (j:Nat):((wF k n (fun i=>r.getD i 0) j).re - (wF k n (fun i=>s.getD i 0) j).re).natAbs+1≤(wt k n j).re.natAbs:=by
 have fg:∀ {t:List Int},zD k n t→∀ i:Nat,k.low n i≤t.getD i 0∧t.getD i 0≤k.high n i:=fun {t} ht i=>by
  by_cases hi:i<t.length
  ·exact ht.fig i hi
  ·rw [yx (by omega)]; exact qd hn i
 by_cases h4:k.four=true
 ·exact d4 h4 hn j fun i _=>⟨fg hr i,fg hs i⟩
 ·have hk:k=.falling:=by cases k <;> first | rfl | exact absurd rfl h4 | exact absurd rfl hp
  subst hk
  have h1:1≤n:=hn.1
  have lf:∀ {t:List Int},zD .falling n t→∀ i:Nat,t.getD (i+1) 0=n→t.getD i 0=0:=fun {t} ht i e=>by
   by_cases hi:i+1<t.length
   ·exact ht.fal rfl i hi e
   ·rw [yx (by omega)] at e; omega
  obtain ⟨a,b⟩:=fF h1 j (fun i _=>fg hr i) (fun i _=>lf hr i)
  obtain ⟨c,d⟩:=fF h1 j (fun i _=>fg hs i) (fun i _=>lf hs i)
  have ew:(wt .falling n j).re=wf n j:=rfl
  rw [ew]
  omega
theorem X4 {k:Kd} {n:Int} (hp:k≠.pairs) (hb:k≠.below) (hn:k.ok n):∀ j:Nat,1≤(wt k n j).re:=fun j=>by
 by_cases h4:k.four=true
 ·induction j with
  | zero=>cases k <;> first | exact Int.le_refl 1 | cases h4
  | succ j ih=>
   rw [ou h4]
   have h1:=hn.1
   have r1:1≤k.rat n j:=by
    cases k <;> first | exact absurd rfl hb | (cases h4; done) | (simp only [Kd.rat,Kd.lo] at *; omega)
   have:=Int.mul_le_mul_of_nonneg_right r1 (show (0:Int)≤(wt k n j).re by omega)
   omega
 ·have hk:k=.falling:=by cases k <;> first | rfl | exact absurd rfl h4 | exact absurd rfl hp
  subst hk
  exact (xC hn.1 j).1
theorem tm {n:Int} (hn:Kd.below.ok n):∀ j:Nat,(j % 2=0→1≤(wt .below n j).re)∧(j % 2=1→(wt .below n j).re≤-1)
 | 0=>⟨fun _=>Int.le_refl 1,fun h=>by omega⟩
 | j+1=>by
  obtain ⟨a,b⟩:=tm hn j
  have e:(wt .below n (j+1)).re=-n*(wt .below n j).re:=ou rfl j
  have h1:2≤n:=hn.1
  rw [e]
  refine ⟨fun h=>?_,fun h=>?_⟩
  ·have b:=b (by omega)
   have m:=Int.mul_le_mul_of_nonneg_right (show (1:Int)≤n by omega) (show (0:Int)≤-(wt .below n j).re by omega)
   have e2:-n*(wt .below n j).re=n * -(wt .below n j).re:=by rw [Int.neg_mul,Int.mul_neg]
   rw [e2]
   omega
  ·have a:=a (by omega)
   have m:=Int.mul_le_mul_of_nonneg_right (show (1:Int)≤n by omega) (show (0:Int)≤(wt .below n j).re by omega)
   rw [Int.neg_mul]
   omega
def sg (a b:Int):Int:=if a<b then -1 else if b<a then 1 else 0
theorem cB {X Y D a b w:Int} (e:X - Y=D+(a - b)*w) (hD:D.natAbs+1≤w.natAbs) (hw:1≤w) (hab:b<a):sg X Y=1:=by
 have m:=Int.mul_le_mul_of_nonneg_right (show (1:Int)≤a - b by omega) (show (0:Int)≤w by omega)
 have:Y<X:=by omega
 unfold sg
 rw [if_neg (by omega),if_pos this]
theorem cA {X Y D a b w:Int} (e:X - Y=D+(a - b)*w) (hD:D.natAbs+1≤w.natAbs) (hw:1≤w) (hab:a<b):sg X Y=-1:=by
 have m:=Int.mul_le_mul_of_nonneg_right (show (1:Int)≤b - a by omega) (show (0:Int)≤w by omega)
 have e2:(a - b)*w=-((b - a)*w):=by rw [← Int.neg_mul,Int.neg_sub]
 have:X<Y:=by omega
 unfold sg
 rw [if_pos this]
theorem bh {X Y D a b w:Int} (e:X - Y=D+(a - b)*w):X - Y=D+(b - a) * -w:=by
 rw [e,Int.mul_neg,← Int.neg_mul,Int.neg_sub]
theorem ka {k:Kd} {n:Int} {f g:Nat→Int} (hp:k≠.pairs) {p:Nat}:∀ d:Nat,(∀ i:Nat,p<i→f i=g i)→(wF k n f (p+1+d)).re - (wF k n g (p+1+d)).re=(wF k n f p).re - (wF k n g p).re+(f p - g p)*(wt k n p).re
 | 0,_=>by
  rw [Nat.add_zero,zT hp,zT hp,Int.sub_mul]
  omega
 | d+1,h=>by
  have ih:=ka (k:=k) (n:=n) hp d h
  rw [show p+1+(d+1)=(p+1+d)+1 from rfl,zT hp,zT hp,h (p+1+d) (by omega)]
  omega
theorem rp {k:Kd} {n:Int} {r:List Int} (hp:k≠.pairs):∀ d:Nat,(wF k n (fun i=>r.getD i 0) (r.length+d)).re=(zy k n r).re
 | 0=>by
  show (wF k n _ r.length).re=(xl k n r r.length).re
  rw [wC]
 | d+1=>by
  rw [show r.length+(d+1)=(r.length+d)+1 from rfl,zT hp,rp hp d]
  show _+r.getD (r.length+d) 0*_=_
  rw [yx (by omega),Int.zero_mul,Int.add_zero]
def pt (xs ys:List Int):Nat→Option Nat
 | 0=>none
 | n+1=>if xs.getD n 0=ys.getD n 0 then pt xs ys n else some n
theorem nQ {xs ys:List Int}:∀ {m:Nat},pt xs ys m=none→∀ i:Nat,i<m→xs.getD i 0=ys.getD i 0
 | 0,_,i,hi=>absurd hi (Nat.not_lt_zero _)
 | m+1,h,i,hi=>by
  unfold pt at h
  by_cases e:xs.getD m 0=ys.getD m 0
  ·rw [if_pos e] at h
   rcases (by omega:i<m∨i=m) with z | z
   ·exact nQ h i z
   ·rw [z]; exact e
  ·rw [if_neg e] at h; cases h
theorem nP {xs ys:List Int} {p:Nat}:∀ {m:Nat},pt xs ys m=some p→p<m∧xs.getD p 0≠ys.getD p 0∧∀ i:Nat,p<i→i<m→xs.getD i 0=ys.getD i 0
 | 0,h=>nomatch h
 | m+1,h=>by
  unfold pt at h
  by_cases e:xs.getD m 0=ys.getD m 0
  ·rw [if_pos e] at h
   obtain ⟨a,b,c⟩:=nP h
   refine ⟨by omega,b,fun i h1 h2=>?_⟩
   rcases (by omega:i<m∨i=m) with z | z
   ·exact c i h1 z
   ·rw [z]; exact e
  ·rw [if_neg e] at h
   cases h
   exact ⟨by omega,e,fun i h1 h2=>by omega⟩
theorem kM {k:Kd} {n:Int} {r s:List Int} (hr:zD k n r) (hs:zD k n s) (h:pt r s (max r.length s.length)=none):sg (zy k n r).re (zy k n s).re=0:=by
 have:r=s:=hZ (fun p=>by
  by_cases hp:p<max r.length s.length
  ·exact nQ h p hp
  ·rw [yx (by omega),yx (by omega)]) hr.end_ hs.end_
 subst this
 unfold sg
 rw [if_neg (Int.lt_irrefl _),if_neg (Int.lt_irrefl _)]
theorem kL {k:Kd} {n:Int} {r s:List Int} {p:Nat} (hp:k≠.pairs) (hn:k.ok n) (hr:zD k n r) (hs:zD k n s) (h:pt r s (max r.length s.length)=some p):
  r.getD p 0≠s.getD p 0∧(k≠.below∨p % 2=0→(s.getD p 0<r.getD p 0→sg (zy k n r).re (zy k n s).re=1)∧(r.getD p 0<s.getD p 0→sg (zy k n r).re (zy k n s).re=-1))∧
  (k=.below→p % 2=1→(s.getD p 0<r.getD p 0→sg (zy k n r).re (zy k n s).re=-1)∧(r.getD p 0<s.getD p 0→sg (zy k n r).re (zy k n s).re=1)):=by
 obtain ⟨a,b,c⟩:=nP h
 have c':∀ i:Nat,p<i→r.getD i 0=s.getD i 0:=fun i hi=>by
  by_cases z:i<max r.length s.length
  ·exact c i hi z
  ·rw [yx (by omega),yx (by omega)]
 obtain ⟨d,hd⟩:∃ d,max r.length s.length=p+1+d:=⟨max r.length s.length - (p+1),by omega⟩
 have t:=ka (k:=k) (n:=n) (f:=fun i=>r.getD i 0) (g:=fun i=>s.getD i 0) hp d c'
 have e1:p+1+d=r.length+(p+1+d - r.length):=by omega
 have e2:p+1+d=s.length+(p+1+d - s.length):=by omega
 have m1:=rp (k:=k) (n:=n) (r:=r) hp (p+1+d - r.length)
 have m2:=rp (k:=k) (n:=n) (r:=s) hp (p+1+d - s.length)
 rw [← e1] at m1
 rw [← e2] at m2
 rw [m1,m2] at t
 have D:=d5 hp hn hr hs p
 refine ⟨b,fun hb=>?_,fun hb hodd=>?_⟩
 ·have w1:1≤(wt k n p).re:=by
   by_cases z:k=.below
   ·subst z
    exact (tm hn p).1 (by rcases hb with q | q; exact absurd rfl q; exact q)
   ·exact X4 hp z hn p
  exact ⟨fun q=>cB t D w1 q,fun q=>cA t D w1 q⟩
 ·subst hb
  have w1:=(tm hn p).2 hodd
  have t':=bh t
  have D':((wF .below n (fun i=>r.getD i 0) p).re - (wF .below n (fun i=>s.getD i 0) p).re).natAbs+1≤(-(wt .below n p).re).natAbs:=by rw [Int.natAbs_neg]; exact D
  exact ⟨fun q=>cA t' D' (by omega) q,fun q=>cB t' D' (by omega) q⟩
def tl (x:Str):List Nat:=x.cps.toList
theorem rA {x y:Str} (h:tl x=tl y):x=y:=by
 cases x; cases y
 unfold tl at h
 simp only at h
 congr 1
 exact Array.ext' h
def asc (x:Str):Prop:=∀ c∈tl x,c<128
theorem cp {x:Str} (h:asc x):x.cps.all (· < 128)=true:=by
 rw [← Array.all_toList,List.all_eq_true]
 exact fun c hc=>decide_eq_true (h c hc)
theorem yX (x:Str):(tl x).length=x.length:=by unfold tl; simp [Str.length]
theorem tq (x y:Str):tl (x++y)=tl x++tl y:=by
 show (x.cps++y.cps).toList=_
 simp [tl]
theorem mW {x:Str} {l u:Option Int} {c:Nat} (h:c∈tl (Txt.slice x l u)):c∈tl x:=by
 unfold Txt.slice tl at h
 split at h
 ·exact h
 ·simp only [List.mem_filterMap] at h
  obtain ⟨i,_,hi⟩:=h
  have hi:(tl x)[i]? = some c:=by unfold tl; rw [Array.getElem?_toList]; exact hi
  exact List.mem_of_getElem? hi
theorem lX {x:Str} {l u:Option Int} (h:asc x):asc (Txt.slice x l u):=fun c hc=>h c (mW hc)
theorem mX (x:Str) (l u:Option Int):(Txt.slice x l u).length≤x.length:=Txt.slice_le x l u
theorem tx {x:Str} {i:Int} (h0:0≤i) (h1:i≤(tl x).length):tl (Txt.slice x (some i) none)=(tl x).drop i.toNat:=by
 have e:Txt.slice x (some i) none=StrLaws.sliceText x (some i) none:=rfl
 rw [e,StrLaws.sliceText_from ⟨h0,h1⟩]
 show (((tl x).drop i.toNat).take ((((tl x).length:Nat):Int) - i).toNat)=_
 rw [List.take_of_length_le]
 rw [List.length_drop]; omega
theorem nG (x y:Str):(x == y)=decide (tl x=tl y):=by
 by_cases h:x=y
 ·subst h; simp
 ·rw [beq_eq_false_iff_ne.mpr h,decide_eq_false fun z=>h (rA z)]
theorem qU (x:Str):Txt.startswith x "-"=decide ((tl x).head? = some 45):=by
 unfold Txt.startswith Builtin.Str.subAt
 have e:(("-":Str)).cps=#[45]:=by decide +kernel
 have el:(("-":Str)).length=1:=by decide +kernel
 rw [e,el]
 obtain ⟨⟨l⟩⟩:=x
 cases l with
 | nil=>rfl
 | cons c r=>
  show (decide (0+1≤r.length+1) && ((⟨c::r⟩:Array Nat).extract 0 (0+1) == #[45]))=decide (some c=some 45)
  rw [decide_eq_true (by omega),Bool.true_and]
  have e2:(⟨c::r⟩:Array Nat).extract 0 (0+1)=#[c]:=by simp
  rw [e2]
  by_cases h:c=45
  ·subst h; rfl
  ·rw [decide_eq_false (by simpa using h)]
   simpa using h
theorem gw (c:Nat):occ ⟨#[c]⟩ "0123456789"=(decide (48≤c) && decide (c≤57)):=by
 unfold occ
 rw [StrLaws.found_one]
 have e:(("0123456789":Str)).cps.toList=[48,49,50,51,52,53,54,55,56,57]:=by decide +kernel
 rw [e]
 by_cases h:48≤c∧c≤57
 ·rw [decide_eq_true h.1,decide_eq_true h.2]
  rcases (by omega:c=48∨c=49∨c=50∨c=51∨c=52∨c=53∨c=54∨c=55∨c=56∨c=57) with rfl | rfl | rfl | rfl | rfl | rfl | rfl | rfl | rfl | rfl <;> rfl
 ·have:c∉[48,49,50,51,52,53,54,55,56,57]:=fun hc=>h (by simp at hc; omega)
  rw [decide_eq_false this]
  by_cases h1:48≤c
  ·rw [decide_eq_true h1,decide_eq_false (by omega)]; rfl
  ·rw [decide_eq_false h1]; rfl
def lM (c:Nat):Bool:=decide (48≤c) && decide (c≤57)
theorem figB_iff {c:Nat}:lM c=true↔yH c:=by
 unfold lM yH
 rw [Bool.and_eq_true,decide_eq_true_iff,decide_eq_true_iff]
def fg (x:Str):List Nat:=if (tl x).head? = some 45 then (tl x).drop 1 else tl x
open Classical in
noncomputable def wv (x:Str):Option Int:=if Numl (tl x)∧(fg x).length≤60 then some (dgVal (tl x)) else none
theorem cL {x:Str} {f:List Nat} (hf:f=fg x):(tl x=f∧(tl x).head?≠some 45)∨tl x=45::f:=by
 subst hf
 unfold fg
 by_cases h:(tl x).head? = some 45
 ·rw [if_pos h]
  cases e:tl x with
  | nil=>rw [e] at h; cases h
  | cons c r=>rw [e] at h; cases h; exact .inr rfl
 ·rw [if_neg h]; exact .inl ⟨rfl,h⟩
theorem yu {x:Str} {f:List Nat} (hf:f=fg x):Numl (tl x)↔(f≠[]∧(∀ c∈f,yH c)∧(f.head? = some 48→tl x=[48])):=by
 constructor
 ·intro h
  rcases h with h | ⟨c,r,c1,c2,hr,h | h⟩
  ·have e:f=[48]:=by rw [hf]; unfold fg; rw [h]; rfl
   subst e
   exact ⟨fun z=>(nomatch z),fun c hc=>by rw [List.mem_singleton.mp hc]; exact ⟨by decide,by decide⟩,fun _=>h⟩
  ·have e:f=c::r:=by
    rw [hf]; unfold fg; rw [h,if_neg]
    intro z
    have:c=45:=Option.some.inj z
    omega
   subst e
   refine ⟨fun z=>(nomatch z),fun x hx=>?_,fun z=>absurd (Option.some.inj z) (by omega)⟩
   rcases List.mem_cons.mp hx with rfl | hx
   ·exact ⟨by omega,by omega⟩
   ·exact hr x hx
  ·have e:f=c::r:=by rw [hf]; unfold fg; rw [h]; rfl
   subst e
   refine ⟨fun z=>(nomatch z),fun x hx=>?_,fun z=>absurd (Option.some.inj z) (by omega)⟩
   rcases List.mem_cons.mp hx with rfl | hx
   ·exact ⟨by omega,by omega⟩
   ·exact hr x hx
 ·rintro ⟨h1,h2,h3⟩
  cases f with
  | nil=>exact absurd rfl h1
  | cons c r=>
   by_cases hc:c=48
   ·subst hc; exact .inl (h3 rfl)
   ·have d:=h2 c List.mem_cons_self
    unfold yH at d
    refine .inr ⟨c,r,by omega,by omega,fun x hx=>h2 x (List.mem_cons_of_mem _ hx),?_⟩
    rcases cL hf with ⟨e,_⟩ | e
    ·exact .inl e
    ·exact .inr e
def dg (n:Nat):List Nat:=(Nat.toDigits 10 n).map Char.toNat
theorem cy (s:String):tl (Str.ofString s)=s.toList.map Char.toNat:=by unfold tl; rw [PySem.Str.ofString_eq_toList]
theorem rq (n:Nat):tl (Str.ofString (toString (n:Int)))=dg n:=by
 rw [cy]
 have e:(toString (n:Int))=Nat.repr n:=rfl
 rw [e,Nat.toList_repr]; rfl
theorem kf (n:Nat) (h:0<n):tl (Str.ofString (toString (-(n:Int))))=45::dg n:=by
 rw [cy]
 obtain ⟨m,rfl⟩:∃ m,n=m+1:=⟨n - 1,by omega⟩
 have e:(toString (-((m+1:Nat):Int)))="-"++Nat.repr (m+1):=rfl
 rw [e,String.toList_append,Nat.toList_repr]; rfl
theorem qu (n:Nat):∀ c∈dg n,yH c:=fun c hc=>by
 obtain ⟨d,hd,rfl⟩:=List.mem_map.mp hc
 have:=Nat.isDigit_of_mem_toDigits (b:=10) (by decide) (by decide) hd
 unfold Char.isDigit at this
 rw [Bool.and_eq_true,decide_eq_true_iff,decide_eq_true_iff] at this
 exact ⟨this.1,this.2⟩
theorem ig {n k:Nat} (hk:0<k) (h:n<10 ^ k):(dg n).length≤k:=by
 unfold dg
 rw [List.length_map]
 exact (Nat.length_toDigits_le_iff (by decide) hk).mpr h
theorem d8 (n:Nat):∃ c r,dg n=c::r∧yH c:=by
 cases e:dg n with
 | nil=>unfold dg at e; exact absurd (List.map_eq_nil_iff.mp e) Nat.toDigits_ne_nil
 | cons c r=>exact ⟨c,r,rfl,qu n c (by rw [e]; exact List.mem_cons_self)⟩
theorem iX:∀ ts:List Str,tl (Txt.join ("":Str) ts)=(ts.map tl).flatten
 | []=>rfl
 | [x]=>by
  show tl (Builtin.Str.glued _ [x])=_
  rw [StrLaws.glued_eq_join]
  show tl x=_
  simp
 | x::y::r=>by
  have ih:=iX (y::r)
  have e1:Txt.join ("":Str) (x::y::r)=x++("":Str)++Txt.join ("":Str) (y::r):=by
   show Builtin.Str.glued _ _=_++_++Builtin.Str.glued _ _
   rw [StrLaws.glued_eq_join,StrLaws.glued_eq_join]; rfl
  rw [e1,tq,tq,ih]
  have e2:tl ("":Str)=[]:=by decide +kernel
  rw [e2,List.append_nil]
  show _=(tl x::(y::r).map tl).flatten
  rw [List.flatten_cons]
def shw (i:Int):Str:=Str.ofString (toString i)
theorem rC (i:Int) {k:Nat} (hk:0<k) (h:i.natAbs<10 ^ k):(shw i).length≤k+1:=by
 rw [← yX]
 rcases (by omega:0≤i∨i<0) with hi | hi
 ·obtain ⟨n,rfl⟩:=Int.eq_ofNat_of_zero_le hi
  unfold shw; rw [rq]
  have:=ig hk (n:=n) (by omega)
  omega
 ·obtain ⟨n,rfl,hn⟩:∃ n:Nat,i=-(n:Int)∧0<n:=⟨i.natAbs,by omega,by omega⟩
  unfold shw; rw [kf n hn]
  have:=ig hk (n:=n) (by omega)
  rw [List.length_cons]; omega
theorem i6 (i:Int):asc (shw i):=fun c hc=>by
 rcases (by omega:0≤i∨i<0) with hi | hi
 ·obtain ⟨n,rfl⟩:=Int.eq_ofNat_of_zero_le hi
  unfold shw at hc; rw [rq] at hc
  have:=qu n c hc
  unfold yH at this; omega
 ·obtain ⟨n,rfl,hn⟩:∃ n:Nat,i=-(n:Int)∧0<n:=⟨i.natAbs,by omega,by omega⟩
  unfold shw at hc; rw [kf n hn] at hc
  rcases List.mem_cons.mp hc with rfl | hc
  ·decide
  ·have:=qu n c hc
   unfold yH at this; omega
def oi (x:Str):Bool:=(tl x).all lM
def qI:DSp:=fun ds Q=>∃ x,ds=[.str x]∧asc x∧Q (.bl (oi x))
theorem allFg_iff {x:Str}:oi x=true↔∀ c∈tl x,yH c:=by
 unfold oi
 rw [List.all_eq_true]
 exact ⟨fun h c hc=>figB_iff.mp (h c hc),fun h c hc=>figB_iff.mpr (h c hc)⟩
theorem rk {x:Str} (h:Numl (tl x)) (hl:(fg x).length≤60):wv x=some (dgVal (tl x)):=if_pos ⟨h,hl⟩
theorem xi {x:Str} (h:¬ (Numl (tl x)∧(fg x).length≤60)):wv x=none:=if_neg h
theorem nK {f:Str}:(f == ("":Str))=decide (tl f=[]):=by
 rw [nG]
 have e:tl ("":Str)=[]:=by decide +kernel
 rw [e]
theorem p8 {f:Str} {c:Nat} {r:List Nat} (h:tl f=c::r):f.cps[Int.toNat 0]? = some c:=by
 have:f.cps.toList[0]? = some c:=by show (tl f)[0]? = _; rw [h]; rfl
 simpa using this
theorem tH (c:Nat):((⟨#[c]⟩:Str) == ("0":Str))=decide (c=48):=by
 rw [nG]
 have e:tl ("0":Str)=[48]:=by decide +kernel
 rw [e]
 show decide ([c]=[48])=_
 simp
theorem sY (x:Str):(x == ("0":Str))=decide (tl x=[48]):=by
 rw [nG]
 have e:tl ("0":Str)=[48]:=by decide +kernel
 rw [e]
def Kd.nam:Kd→Str
 | .plain=>.ofString "plain"
 | .below=>.ofString "below"
 | .balanced=>.ofString "balanced"
 | .growing=>.ofString "growing"
 | .falling=>.ofString "falling"
 | .pairs=>.ofString "pairs"
def xD (k:Kd) (n:Int):Dt:=.tup [.str k.nam,.int n]
theorem uh {k:Kd} {n:Int} {r:List Int} (hn:k.ok n) (h:∀ p,p<r.length→k.low n p≤r.getD p 0∧r.getD p 0≤k.high n p) (hl:r.length≤700):∀ z∈r,z.natAbs<1000:=fun z hz=>by
 obtain ⟨p,hp,e⟩:=List.getElem_of_mem hz
 obtain ⟨f1,f2⟩:=h p hp
 rw [List.getD_eq_getElem?_getD,List.getElem?_eq_getElem hp,e] at f1 f2
 have f1:k.low n p≤z:=f1
 have f2:z≤k.high n p:=f2
 obtain ⟨b1,b2⟩:=hn
 cases k <;> simp only [Kd.lo,Kd.hi,Kd.low,Kd.high] at * <;> first | omega | (have:=Int.mul_le_mul b2 b2 (by omega) (by omega); omega)
theorem dI:∀ n:_root_.Fin 61,1≤n.val→(dg n.val).all lM=true∧(dg n.val).head?≠some 48∧dgs (dg n.val)=n.val∧(dg n.val).length≤2:=by decide +kernel
theorem lq:∀ n:_root_.Fin 61,1≤n.val→∀ x∈[Str.ofString "plain",Str.ofString "below",Str.ofString "balanced",Str.ofString "growing",Str.ofString "falling",Str.ofString "pairs"],Txt.rstripChars (x++⟨(dg n.val).toArray⟩) (Str.ofString "0123456789")=x:=by decide +kernel
theorem lZ {m:Nat} (h1:1≤m) (h2:m≤60):wv (shw (m:Int))=some (m:Int):=by
 obtain ⟨d1,d2,d3,d4⟩:=dI ⟨m,by omega⟩ h1
 have d1:∀ c∈dg m,yH c:=qu m
 have et:tl (shw (m:Int))=dg m:=by unfold shw; exact rq m
 obtain ⟨c,r,ec,hc⟩:=d8 m
 have hc':=hc
 unfold yH at hc'
 have hd:(tl (shw (m:Int))).head?≠some 45:=by
  rw [et,ec]
  intro z
  have:c=45:=Option.some.inj z
  omega
 have ef:fg (shw (m:Int))=dg m:=by unfold fg; rw [if_neg hd,et]
 have hn:Numl (tl (shw (m:Int))):=(yu ef.symm).mpr ⟨(by rw [ec]; exact List.cons_ne_nil _ _),d1,fun z=>absurd z d2⟩
 rw [rk hn (by rw [ef]; exact Nat.le_trans d4 (by decide)),et]
 have e:dgVal (dg m)=(dgs (dg m):Int):=by
  rw [ec]
  unfold dgVal
  split
  ·rename_i heq; injection heq with h1 h2; omega
  ·rfl
 rw [e,d3]
theorem qP {i:Nat} {D:vK} {ρ:DS} {ms:List Int} (hi:ρ[i]? = some (.own (ms.map Dt.int))) (q:D.nx (ρ.set i (.own ((trim ms).map Dt.int)))):
  nC (cT (XW (uE (dOp gNe (XH i) (XT V2))) (uE (dOp gEq (dIx (XH i) (XQ (dC (Dt.int 1)))) (dC (Dt.int 0)))))) (XN i) D ρ:=by
 have hl:i<ρ.length:=by
  rcases Nat.lt_or_ge i ρ.length with h | h
  ·exact h
  ·rw [List.getElem?_eq_none h] at hi; cases hi
 refine ⟨fun m ρ'=>∃ l:List Int,ρ'=ρ.set i (.own (l.map Dt.int))∧l.length=m∧trim l=trim ms,⟨_,ms,?_,rfl,rfl⟩,?_⟩
 ·apply List.ext_getElem?
  intro j
  by_cases hj:i=j
  ·subst hj; rw [List.getElem?_set_self hl]; exact hi
  ·rw [List.getElem?_set_ne hj]
 ·rintro m ρ' ⟨l,rfl,rfl,ht⟩
  have hg:(ρ.set i (.own (l.map Dt.int)))[i]? = some (.own (l.map Dt.int)):=List.getElem?_set_self hl
  have hg':((ρ.set i (.own (l.map Dt.int))).map fz)[i]? = some (.some (.lst (l.map Dt.int))):=by rw [List.getElem?_map,hg]; rfl
  refine ⟨_,hg',rfl,vt _,rfl,_,rfl,?_⟩
  rcases zU l with rfl | ⟨l',z,rfl⟩
  ·refine ifF rfl (ifF rfl ?_)
   rw [← ht,qS] at q
   exact q
  ·refine ifT (by cases l' <;> rfl) ?_
   refine ⟨_,hg',_,rfl,_,_,_,rfl,rfl,xf,rfl,rfl,_,rfl,?_⟩
   by_cases hz:z=0
   ·refine ifT (eqI hz) ?_
    subst hz
    refine ⟨_,hg,by simp,l'.length,by rw [List.length_append]; exact Nat.lt_succ_self _,l',?_,rfl,?_⟩
    ·rw [s_,List.dropLast_concat,List.set_set]
    ·rw [← ht,wD]
   ·refine ifF (neI hz) ?_
    rw [← ht,uX hz] at q
    exact q
theorem mY {lo hi f m:Int} (l1:lo≤0) (l2:0≤hi) (x0:lo≤f) (x1:f≤hi):∃ g,atI [Dt.int lo,.int hi,.int 0,.int f,.int f,.int f,.int f] (m.fmod 7)=some (.int g)∧lo≤g∧g≤hi:=by
 have a0:=Int.fmod_nonneg_of_pos m (show (0:Int)<7 by decide)
 have a1:=Int.fmod_lt_of_pos m (show (0:Int)<7 by decide)
 rcases (by omega:m.fmod 7=0∨m.fmod 7=1∨m.fmod 7=2∨m.fmod 7=3∨m.fmod 7=4∨m.fmod 7=5∨m.fmod 7=6) with e | e | e | e | e | e | e <;> rw [e]
 ·exact ⟨_,rfl,Int.le_refl _,by omega⟩
 ·exact ⟨_,rfl,by omega,Int.le_refl _⟩
 ·exact ⟨_,rfl,l1,l2⟩
 all_goals exact ⟨_,rfl,x0,x1⟩
theorem each_t {ρ:DS} {Q:Bool→Prop} (h:Q true):uF ρ Q:=h
def qH:DSp:=fun ds Q=>∃ k n,ds=[xD k n]∧Q (.int (k.low n 0))
def td:DSp:=fun ds Q=>∃ k n p,ds=[xD k n,.int p]∧Kd.ok k n∧Q (.int (k.high n p))
def mJ:DSp:=fun ds Q=>∃ k n cs,ds=[xD k n,zu cs]∧Kd.ok k n∧cs.length≤100∧∀ r,zD k n r→r.length≤cs.length→Q (zu r)
def iQ:DSp:=fun ds Q=>∃ k n r,ds=[xD k n,zu r]∧Kd.ok k n∧r.length≤1000∧Q (.bl (uB k n r))
def UN:Option Nat→Dt
 | none=>.non
 | some k=>.int k
theorem jV {k:Kd} {n:Int} {r:List Int} (hn:k.ok n) (h:zD k n r) (hl:r.length≤700):∀ t∈r,t.natAbs≤4000:=fun t ht=>by
 have:=uh hn h.fig hl t ht
 omega
theorem i7 (a b:Int):sg b a=0 - sg a b:=by
 unfold sg
 repeat' split
 all_goals omega
theorem i8 {a b:Int}:decide (sg a b<0)=decide (a<b):=by
 unfold sg
 by_cases h:a<b
 ·rw [if_pos h,decide_eq_true h]; rfl
 ·rw [if_neg h,decide_eq_false h]
  split <;> rfl
theorem oQ {f:List Int→Int} {ts:List (List Int)} {r:List Int} {j:Nat} (hj:j≤ts.length) (hs:ts.Pairwise fun a b=>f a≤f b) (h1:∀ t∈ts.take j,f t<f r) (h2:∀ h:j<ts.length,f r≤f ts[j]):
  (ts.take j++r::ts.drop j).Pairwise fun a b=>f a≤f b:=by
 have hs':=hs
 rw [← List.take_append_drop j ts,List.pairwise_append] at hs'
 obtain ⟨p1,p2,p3⟩:=hs'
 refine List.pairwise_append.mpr ⟨p1,List.pairwise_cons.mpr ⟨fun b hb=>?_,p2⟩,fun a ha b hb=>?_⟩
 ·have hlt:j<ts.length:=by
   rcases Nat.lt_or_ge j ts.length with z | z
   ·exact z
   ·rw [List.drop_eq_nil_of_le z] at hb; cases hb
  have hr:=h2 hlt
  rw [List.drop_eq_getElem_cons hlt] at hb p2
  rcases List.mem_cons.mp hb with rfl | hb
  ·exact hr
  ·exact Int.le_trans hr ((List.pairwise_cons.mp p2).1 b hb)
 ·have ha':=h1 a ha
  rcases List.mem_cons.mp hb with rfl | hb
  ·exact Int.le_of_lt ha'
  ·exact p3 a ha b hb
theorem tT {l:List (List Int)} {z:List Int}:atI ((l++[z]).map zu) (-1)=some (zu z):=by
 unfold atI
 rw [pQ (by rw [List.length_map,List.length_append]; exact Nat.succ_pos _)]
 simp
theorem kT {k:Kd} {n:Int} {r:List Int} (h:uB k n r=true):zD k n r:=by
 apply Classical.byContradiction
 intro z
 rw [wG z] at h
 cases h
theorem XX (xs:List Dt):(nE xs none (some 24)).length≤24:=by
 unfold nE
 have e2:HT.sIx xs.length xs.length (some 24)=min 24 xs.length:=HT.sIx_nat _ _ 24
 rw [e2,List.length_take]
 omega
def two (k:Kd):Prop:=k=.below∨k=.balanced
def wo (k:Kd) (n:Int) (r:List Int):Int:=(zy k n r).re
theorem qk (xs:List Int) (i:Nat):(xs.map Dt.int).getD i (.int 0)=.int (xs.getD i 0):=by
 rw [List.getD_eq_getElem?_getD,List.getD_eq_getElem?_getD,List.getElem?_map]
 cases xs[i]? <;> rfl
def iN:DSp:=fun ds Q=>∃ xs ys,ds=[zu xs,zu ys]∧xs.length≤1000∧ys.length≤1000∧Q (UN (pt xs ys (max xs.length ys.length)))
def iM:DSp:=fun ds Q=>∃ a b,ds=[.int a,.int b]∧Q (.int (sg a b))
def mC:DSp:=fun ds Q=>∃ c:Int,ds=[.int c]∧c.fmod 6<5∧∀ k n,k≠.pairs→Kd.ok k n→Q (xD k n)
def om:DSp:=fun ds Q=>∃ n r,ds=[.int n,zu r]∧Kd.falling.ok n∧r.length≤20∧(∀ t∈r,t.natAbs<1000)∧Q (.int (wo .falling n r))
def ol:DSp:=fun ds Q=>∃ k n r,ds=[xD k n,zu r]∧k≠.pairs∧Kd.ok k n∧r.length≤20∧(∀ t∈r,t.natAbs<1000)∧Q (.int (wo k n r))
def iP:DSp:=fun ds Q=>∃ k n,∃ c:Int,∃ rs:List (List Int),ds=[xD k n,.int c,.lst (rs.map zu)]∧k≠.pairs∧Kd.ok k n∧0≤c∧(∀ r∈rs,zD k n r∧r.length≤20)∧∀ r,zD k n r→r.length≤20→Q (zu r)
theorem UM (c:Int):∃ k2 n2,two k2∧Kd.ok k2 n2∧atI [.tup [.str (Str.ofString "below"),.int (2+(c.fdiv 7).fmod 59)],.tup [.str (Str.ofString "balanced"),.int (1+(c.fdiv 7).fmod 30)]] ((c.fdiv 3).fmod 2)=some (xD k2 n2):=by
 have s0:=Int.fmod_nonneg_of_pos (c.fdiv 3) (show (0:Int)<2 by decide)
 have s1:=Int.fmod_lt_of_pos (c.fdiv 3) (show (0:Int)<2 by decide)
 have b0:=Int.fmod_nonneg_of_pos (c.fdiv 7) (show (0:Int)<59 by decide)
 have b1:=Int.fmod_lt_of_pos (c.fdiv 7) (show (0:Int)<59 by decide)
 have c0:=Int.fmod_nonneg_of_pos (c.fdiv 7) (show (0:Int)<30 by decide)
 have c1:=Int.fmod_lt_of_pos (c.fdiv 7) (show (0:Int)<30 by decide)
 rcases (by omega:(c.fdiv 3).fmod 2=0∨(c.fdiv 3).fmod 2=1) with e | e <;> rw [e]
 ·exact ⟨.below,_,.inl rfl,⟨by show (2:Int)≤2+_; omega,by show 2+_≤(60:Int); omega⟩,rfl⟩
 ·exact ⟨.balanced,_,.inr rfl,⟨by show (1:Int)≤1+_; omega,by show 1+_≤(30:Int); omega⟩,rfl⟩
theorem m9 (r:List Int):(r.map Dt.int).all qY=true:=List.all_eq_true.mpr fun x hx=>by
 obtain ⟨z,_,rfl⟩:=List.mem_map.mp hx
 rfl
theorem c9 {k:Kd} (h:two k):k≠.pairs:=by rcases h with rfl | rfl <;> exact fun z=>nomatch z
theorem dH {k:Kd} {n:Int} (hn:Kd.ok k n):n.natAbs < 10 ^ 3:=by obtain ⟨x1,x2⟩:=hn; cases k <;> simp only [Kd.lo,Kd.hi] at x1 x2 <;> omega
theorem pb {a b:List Int} (hp:a.Perm b) (ha:a.Pairwise (·≤·)) (hb:b.Pairwise (·≤·)):a=b:=hp.eq_of_pairwise (fun x y _ _ h1 h2=>Int.le_antisymm h1 h2) ha hb
theorem kx {ls:List (List Int)} {p:Nat} (h:p<ls.length):atI (ls.map zu) (p:Int)=some (zu ls[p]):=wO (by rw [List.getElem?_map,List.getElem?_eq_getElem h]; rfl)
structure Adr where
 Plain:Addr
 Below:Addr
 Balanced:Addr
 Growing:Addr
 Falling:Addr
 Pairs:Addr
 NoWay:Addr
 NoText:Addr
structure Txt (K:PySem.W.Frag) (mg:Str→Option Value) (A:Adr):Prop where
 kt:cu K
 isinstance:mg "isinstance"=none
 n_int:mg "int"=none
 n_bool:mg "bool"=none
 n_tuple:mg "tuple"=none
 n_list:mg "list"=none
 len:mg "len"=none
 range:mg "range"=none
 n_zip:mg "zip"=none
 n_enumerate:mg "enumerate"=none
 n_reversed:mg "reversed"=none
 n_max:mg "max"=none
 n_str:mg "str"=none
 n_sorted:mg "sorted"=none
 gs_FIGURES:∃ tk,mg "FIGURES"=some (.str "0123456789" tk)
 TF:Cls K A.Plain
 SC:NoAttr K A.Plain "base"
 TH:Cls K A.Below
 SD:NoAttr K A.Below "base"
 TD:Cls K A.Balanced
 Sj:NoAttr K A.Balanced "half"
 TJ:Cls K A.Growing
 SE:NoAttr K A.Growing "first"
 TK:Cls K A.Falling
 Sk:NoAttr K A.Falling "most"
 Tx:Cls K A.Pairs
 TL:NoAttr K A.Pairs "most"
 SF:mg "Falling"=some (.ref A.Falling)
 RG:mg "Pairs"=some (.ref A.Pairs)
 RI:mg "Below"=some (.ref A.Below)
 RJ:uH K A.Plain
 TZ:PySem.W.kitOne K (.ref A.Plain) (.ref A.Falling)=some false
 T0:PySem.W.kitOne K (.ref A.Plain) (.ref A.Pairs)=some false
 T3:PySem.W.kitOne K (.ref A.Plain) (.ref A.Below)=some false
 RK:uH K A.Below
 T4:PySem.W.kitOne K (.ref A.Below) (.ref A.Falling)=some false
 T5:PySem.W.kitOne K (.ref A.Below) (.ref A.Pairs)=some false
 T6:PySem.W.kitOne K (.ref A.Below) (.ref A.Below)=some true
 RL:uH K A.Balanced
 T7:PySem.W.kitOne K (.ref A.Balanced) (.ref A.Falling)=some false
 T8:PySem.W.kitOne K (.ref A.Balanced) (.ref A.Pairs)=some false
 T9:PySem.W.kitOne K (.ref A.Balanced) (.ref A.Below)=some false
 RM:uH K A.Growing
 T_:PySem.W.kitOne K (.ref A.Growing) (.ref A.Falling)=some false
 Sa:PySem.W.kitOne K (.ref A.Growing) (.ref A.Pairs)=some false
 Sb:PySem.W.kitOne K (.ref A.Growing) (.ref A.Below)=some false
 RN:uH K A.Falling
 Sc:PySem.W.kitOne K (.ref A.Falling) (.ref A.Falling)=some true
 Sd:PySem.W.kitOne K (.ref A.Falling) (.ref A.Pairs)=some false
 Se:PySem.W.kitOne K (.ref A.Falling) (.ref A.Below)=some false
 RO:uH K A.Pairs
 Sf:PySem.W.kitOne K (.ref A.Pairs) (.ref A.Falling)=some false
 Sg:PySem.W.kitOne K (.ref A.Pairs) (.ref A.Pairs)=some true
 Sh:PySem.W.kitOne K (.ref A.Pairs) (.ref A.Below)=some false
 Qv:mg "NoWay"=some (.ref A.NoWay)
 RH:mg "NoText"=some (.ref A.NoText)
 TY:ExcK K A.NoText
 Sm:cY K A.NoText
 Sn:PySem.W.exmOne K (.ref A.NoText) (.ref A.NoWay)=some false
 So:PySem.W.kitOne K (.ref A.NoText) (.ref A.NoWay)=some false
 Sq:PySem.W.kitOne K (.ref A.NoText) (.ref A.NoText)=some true
def Adr.at (A:Adr):Kd→Addr
 | .plain=>A.Plain | .below=>A.Below | .balanced=>A.Balanced | .growing=>A.Growing | .falling=>A.Falling | .pairs=>A.Pairs
def zM (A:Adr) (k:Kd) (n:Int):Dt:=.way (A.at k) k.fld n
def xz (A:Adr) (k:Kd) (g:Int→Int→Int):DSp:=fun ds Q=>∃ n p,ds=[zM A k n,.int p]∧k.ok n∧Q (.int (g n p))
def wA (A:Adr) (k:Kd) (g:Int→Int→Nm):DSp:=fun ds Q=>∃ n p,ds=[zM A k n,.int p]∧k.ok n∧Q (g n p).dt
def X0:DSp:=fun ds Q=>∃ o p,ds=[o,p]∧Q (.int 0)
def Uu:DSp:=fun ds Q=>∃ o,ds=[o]∧Q (.int 0)
def Ut:DSp:=fun ds Q=>∃ o,ds=[o]∧Q (.tup [.int 0,.int 0])
def cr (k:Kd):DSp:=fun ds Q=>∃ o,ds=[o]∧Q k.zero.dt
def Tr (A:Adr):DSp:=fun ds Q=>∃ k n m,ds=[zM A k n,.int m]∧k.five=true∧k.ok n∧0≤m∧m≤1000∧Q (.lst (wts k n m.toNat))
def Us (A:Adr):DSp:=fun ds Q=>∃ n m,ds=[zM A .falling n,.int m]∧Kd.falling.ok n∧0≤m∧m≤1000∧Q (.lst (wts .falling n m.toNat))
def cW (A:Adr) (k:Kd):DSp:=fun ds Q=>∃ n m,ds=[zM A k n,.int m]∧k.ok n∧0≤m∧m≤1000∧Q (.lst (wts k n m.toNat))
theorem sX {K:PySem.W.Frag} {mg:Str→Option Value} {A:Adr} (T:Txt K mg A) (k:Kd):uH K (A.at k):=by
 cases k
 ·exact T.RJ
 ·exact T.RK
 ·exact T.RL
 ·exact T.RM
 ·exact T.RN
 ·exact T.RO
theorem kiF {K:PySem.W.Frag} {mg:Str→Option Value} {A:Adr} (T:Txt K mg A) (k:Kd):PySem.W.kitOne K (.ref (A.at k)) (.ref A.Falling)=some k.isF:=by
 cases k
 ·exact T.TZ
 ·exact T.T4
 ·exact T.T7
 ·exact T.T_
 ·exact T.Sc
 ·exact T.Sf
def cX (A:Adr):DSp:=fun ds Q=>∃ k n r,ds=[zM A k n,zu r]∧k.ok n∧r.length≤1000∧Q (.bl (uB k n r))
def nI (A:Adr):DSp:=fun ds Q=>∃ k n r,ds=[zM A k n,zu r]∧k.ok n∧r.length≤1000∧∀ b:Bool,(b=true↔∀ p,p<r.length→k.low n p≤r.getD p 0∧r.getD p 0≤k.high n p)→Q (.bl b)
def mF (A:Adr):DSp:=fun ds Q=>∃ n r,ds=[zM A .falling n,zu r]∧Kd.falling.ok n∧r.length≤1000∧∀ b:Bool,(b=true↔∀ p,p+1<r.length→r.getD (p+1) 0=n→r.getD p 0=0)→Q (.bl b)
theorem cO (k:Kd):(("low":Str) == k.fld)=false:=by cases k <;> decide +kernel
theorem j0 (k:Kd):(("high":Str) == k.fld)=false:=by cases k <;> decide +kernel
def iK (A:Adr):DSp:=fun ds Q=>∃ k n t j,ds=[zM A k n,.int t,.int ((j:Nat):Int)]∧k.four=true∧k.ok n∧j≤100000∧Q (.tup [.int (sF k n j (.i t)),(sC k n j (.i t)).dt])
def iL (A:Adr):DSp:=fun ds Q=>∃ n d m j,ds=[zM A .pairs n,d,.int ((j:Nat):Int)]∧tO d=some m∧Kd.pairs.ok n∧Q (.tup [.int (sF .pairs n j m),(sC .pairs n j m).dt])
def mE (A:Adr) (k:Kd):DSp:=fun ds Q=>∃ n m j,ds=[zM A k n,Nm.dt m,.int ((j:Nat):Int)]∧m.ty k∧k.ok n∧j≤100000∧Q (.tup [.int (sF k n j m),(sC k n j m).dt])
theorem dX (k:Kd):(("split":Str) == k.fld)=false:=by cases k <;> decide +kernel
theorem dY (k:Kd):(("ratio":Str) == k.fld)=false:=by cases k <;> decide +kernel
theorem vE (k:Kd):(("nought":Str) == k.fld)=false:=by cases k <;> decide +kernel
theorem cP (k:Kd):(("has":Str) == k.fld)=false:=by cases k <;> decide +kernel
theorem lN (k:Kd):(("weights":Str) == k.fld)=false:=by cases k <;> decide +kernel
def Uv (A:Adr):DSp:=fun ds Q=>∃ k n ts J,ds=[zM A k n,iW ts]∧k.five=true∧k.ok n∧(∀ t∈ts,tot k t)∧Fin k n ts J∧J≤50000∧Q (.tup [zu (x5 k n ts J),.lst (p7 k n ts (J+1))])
def rj (A:Adr):DSp:=fun ds Q=>∃ k n ts J,ds=[zM A k n,iW ts]∧k.five=true∧k.ok n∧(∀ t∈ts,tot k t)∧Fin k n ts J∧J≤50000∧Q (zu (i_ k n ts J))
theorem kiP {K:PySem.W.Frag} {mg:Str→Option Value} {A:Adr} (T:Txt K mg A) (k:Kd):PySem.W.kitOne K (.ref (A.at k)) (.ref A.Pairs)=some (match k with | .pairs=>true | _=>false):=by
 cases k
 ·exact T.T0
 ·exact T.T5
 ·exact T.T8
 ·exact T.Sa
 ·exact T.Sd
 ·exact T.Sg
def nH (A:Adr):DSp:=fun ds Q=>∃ k n,∃ rs:List (List Int),ds=[zM A k n,.lst (rs.map zu)]∧k.ok n∧(∀ r∈rs,zD k n r∧r.length≤1000)∧Q .non
def mw (A:Adr):xh:=fun ds Q R=>∃ x,ds=[.str x]∧asc x∧x.length≤5000∧(∀ i,wv x=some i→Q (.int i))∧(wv x=none→R A.NoText)
def qF (A:Adr):DSp:=fun ds Q=>∃ k n r s,ds=[zM A k n,zu r,zu s]∧k≠.pairs∧k.ok n∧zD k n r∧zD k n s∧r.length≤1000∧s.length≤1000∧Q (.int (sg (wo k n r) (wo k n s)))
def mx (A:Adr):DSp:=fun ds Q=>∃ k n ns,ds=[zM A k n,zu ns]∧k.ok n∧ns.length≤1000∧bdR ns∧Q (zy k n ns).dt
def mD (A:Adr):DSp:=fun ds Q=>∃ k n,∃ m:Int,ds=[zM A k n,.int m]∧two k∧Q (.int m)
def mv (A:Adr):DSp:=fun ds Q=>∃ k n,∃ m:Int,ds=[zM A k n,.int m]∧two k∧k.ok n∧m.natAbs≤2 ^ 200∧∀ r,zD k n r→zy k n r=.i m→r.length≤1000→Q (zu r)
def iO (A:Adr):DSp:=fun ds Q=>∃ k n r k2 n2,ds=[zM A k n,zu r,zM A k2 n2]∧k≠.pairs∧k.ok n∧two k2∧k2.ok n2∧zD k n r∧r.length≤20∧∀ r2,zD k2 n2 r2→wo k2 n2 r2=wo k n r→r2.length≤1000→Q (zu r2)
def mz (A:Adr):DSp:=fun ds Q=>∃ k n,ds=[.str (Kd.nam k),.int n]∧k.ok n∧Q (zM A k n)
def mB (A:Adr):DSp:=fun ds Q=>∃ k n,ds=[.str (Kd.nam k++shw n)]∧k.ok n∧Q (zM A k n)
def mH (A:Adr):DSp:=fun ds Q=>∃ k n r s,ds=[zM A k n,zu r,zu s,.int (sg (wo k n r) (wo k n s))]∧k≠.pairs∧Kd.ok k n∧zD k n r∧zD k n s∧r.length≤1000∧s.length≤1000∧Q (.bl true)
def mG (A:Adr):DSp:=fun ds Q=>∃ k n,∃ rs:List (List Int),ds=[zM A k n,.lst (rs.map zu)]∧k≠.pairs∧Kd.ok k n∧rs.length≤100∧(∀ r∈rs,zD k n r∧r.length≤20)∧∀ ts:List (List Int),ts.Perm rs→ts.Pairwise (fun a b=>wo k n a≤wo k n b)→Q (.lst (ts.map zu))
theorem kiB {K:PySem.W.Frag} {mg:Str→Option Value} {A:Adr} (T:Txt K mg A) (k:Kd):PySem.W.kitOne K (.ref (A.at k)) (.ref A.Below)=some (match k with | .below=>true | _=>false):=by
 cases k
 ·exact T.T3
 ·exact T.T6
 ·exact T.T9
 ·exact T.Sb
 ·exact T.Se
 ·exact T.Sh
section
variable {P:Program} {w:World} {K:PySem.W.Frag} {mg:Str→Option Value} {base:Heap} {f:Addr} {fd:FuncData} {A:Adr}
abbrev xm:Stmt:=top 53
theorem tD:zh ["_law_script","_law_k"] ["_law_script","_law_k"] (defScope xm):=by walk_at "sc"
theorem tI (T:Txt K mg A) (F:Fun K "_law_cell_at" "_law_cell_at" xm f fd):FnOk P w K mg base CX0 1 f fd ["_law_script","_law_k"] (zo K (iR)):=by
 refine okD F tD (by walk_at "ln") fun _ _ _ _ _ _ hr ds Q h=>?_
 obtain ⟨ns,k,rfl,hk,q⟩:=h
 refine ⟨_,(zd (zz (zr (rX) (dv 1) (yC rfl T.len (dv 0)) (zl _)) (ze (zk (zq (dv 0) (dv 1) (fun _ _=>rfl)))) zp)
 (ze (zk zc))),?_⟩
 walk_at "rd"
 refine VJ (fun hlt=>?_) (fun _=>q 0)
 have hlt:k<(ns.map Dt.int).length:=of_decide_eq_true hlt
 rw [List.length_map] at hlt
 exact ⟨_,rfl,_,rfl,_,_,_,rfl,rfl,qB hk hlt,q _⟩
abbrev vU:Stmt:=top 54
theorem sc_law_way:zh ["_law_cell","_law_kind","_law_number"] ["_law_cell"] (defScope vU):=by walk_at "sc"
theorem oX (T:Txt K mg A) (F:Fun K "_law_way" "_law_way" vU f fd):FnOk P w K mg base CX0 1 f fd ["_law_cell"] (zo K (mC)):=by
 refine okD F sc_law_way (by walk_at "ln") fun _ _ _ _ _ _ hr ds Q h=>?_
 obtain ⟨c,rfl,hc,q⟩:=h
 refine ⟨_,(zd (zm (i:=1) sc_law_way.nd rfl (Or.inl rfl) (zi yd (dv 0) zc))
 (zd (zm (i:=2) sc_law_way.nd rfl (Or.inl rfl) (zi yL (dv 0) zc))
 (zd (zz (zr (rX) (dv 1) zc (zl _)) (ze (zk (zW (za (zq (xw (za zA (za zA zf))) (dv 1) (fun _ _=>rfl)) (za (zi zJ zc (zi yd (dv 2) zc)) zf))))) zp)
 (zd (zz (zr (vc hr) (dv 1) zc (zl _)) (ze (zk (zW (za zA (za (zi zJ zc (zi yd (dv 2) zc)) zf))))) zp)
 (zd (zz (zr (vc hr) (dv 1) zc (zl _)) (ze (zk (zW (za zA (za (zi zJ zc (zi yd (dv 2) zc)) zf))))) zp)
 (ze (zk (zW (za (zq (xw (za zA (za zA zf))) (zi zR (dv 1) zc) (fun _ _=>rfl)) (za (zi zJ zc (zi yd (dv 2) zc)) zf)))))))))),?_⟩
 have a0:=Int.fmod_nonneg_of_pos c (show (0:Int)<6 by decide)
 have b0:=Int.fmod_nonneg_of_pos (c.fdiv 6) (show (0:Int)<59 by decide)
 have b1:=Int.fmod_lt_of_pos (c.fdiv 6) (show (0:Int)<59 by decide)
 have c0:=Int.fmod_nonneg_of_pos (c.fdiv 6) (show (0:Int)<30 by decide)
 have c1:=Int.fmod_lt_of_pos (c.fdiv 6) (show (0:Int)<30 by decide)
 have d0:=Int.fmod_nonneg_of_pos (c.fdiv 6) (show (0:Int)<9 by decide)
 have d1:=Int.fmod_lt_of_pos (c.fdiv 6) (show (0:Int)<9 by decide)
 refine ⟨_,rfl,_,_,rfl,rfl,se (by decide),?_⟩
 dsimp only
 generalize c.fmod 6=j at *
 rcases (by omega:j=0∨j=1∨j=2∨j=3∨j=4) with rfl | rfl | rfl | rfl | rfl
 all_goals repeat (first | (walk_at "rd1") | refine ⟨_,_,_,rfl,rfl,rfl,?_⟩)
 ·exact q .plain _ (fun h=>nomatch h) ⟨by show (2:Int)≤2+_; omega,by show 2+_≤(60:Int); omega⟩
 ·exact q .below _ (fun h=>nomatch h) ⟨by show (2:Int)≤2+_; omega,by show 2+_≤(60:Int); omega⟩
 ·exact q .balanced _ (fun h=>nomatch h) ⟨by show (1:Int)≤1+_; omega,by show 1+_≤(30:Int); omega⟩
 ·exact q .growing _ (fun h=>nomatch h) ⟨by show (2:Int)≤2+_; omega,by show 2+_≤(60:Int); omega⟩
 ·exact q .falling _ (fun h=>nomatch h) ⟨by show (1:Int)≤1+_; omega,by show 1+_≤(9:Int); omega⟩
abbrev zN:Stmt:=top 47
theorem sc_has_figures_alone_texts:zh ["text","sign"] ["text"] (defScope zN):=by walk_at "sc"
theorem y8 (T:Txt K mg A) (F:Fun K "has_figures_alone" "has_figures_alone" zN f fd):FnOk P w K mg base CX0 1 f fd ["text"] (zo K (qI)):=by
 refine okD F sc_has_figures_alone_texts (by walk_at "ln") fun _ _ _ _ _ _ hr ds Q h=>?_
 obtain ⟨x,rfl,hx,q⟩:=h
 refine ⟨_,(zd (d6 (j:=1) rfl sc_has_figures_alone_texts.nd rfl (Or.inl rfl) PassesOwn.never (dv 0) (ze (zz (zr kU (dv 1) (p5 rfl T.gs_FIGURES) (by with_unfolding_all rfl)) (ze (zk xY)) zp)))
 (ze (zk xY))),?_⟩
 refine ⟨_,rfl,x,fun i ρ=>∃ v,ρ=[.some (.str x),v]∧∀ c∈(tl x).take i,lM c=true,rfl,cp hx,⟨_,rfl,fun c hc=>by cases hc⟩,?_,?_⟩
 ·rintro i c ρ' hc ⟨v,rfl,hb⟩
  have hc':(tl x)[i]? = some c:=by unfold tl; rw [Array.getElem?_toList]; exact hc
  refine ⟨_,rfl,_,_,rfl,rfl,_,rfl,?_⟩
  rw [gw]
  refine ifB (fun h=>?_) (fun h=>⟨_,rfl,fun c' hc2=>?_⟩)
  ·have:oi x=false:=by
    rw [← Bool.not_eq_true]
    intro z
    have:=List.all_eq_true.mp z c (List.mem_of_getElem? hc')
    unfold lM at this
    rw [this] at h; cases h
   rw [this] at q
   exact q
  ·rw [List.take_succ,hc'] at hc2
   rcases List.mem_append.mp hc2 with h2 | h2
   ·exact hb c' h2
   ·rw [List.mem_singleton.mp h2]
    exact vv h
 ·rintro ρ' ⟨v,rfl,hb⟩
  have:oi x=true:=List.all_eq_true.mpr fun c hc=>hb c (by
   rw [List.take_of_length_le (by unfold tl; simp)]; exact hc)
  rw [this] at q
  exact q
abbrev xF:Stmt:=top 49
theorem sc_whole_read:zh ["text","figures"] ["text"] (defScope xF):=by walk_at "sc"
theorem sD (T:Txt K mg A) (G_has_figures_alone_texts:DOk P w K mg base 1 "has_figures_alone_texts" (qI)) (F:Fun K "whole_read" "whole_read" xF f fd):FnOk P w K mg base (CX1 P w) 2 f fd ["text"] (vJ K (mw A)):=by
 refine UO F sc_whole_read (by walk_at "ln") fun _ _ _ _ _ _ hr ds Q R h rz=>?_
 obtain ⟨x,rfl,hx,hl,q,hR⟩:=h
 refine ⟨_,(zd (zm (i:=1) sc_whole_read.nd rfl (Or.inl rfl) (pZ (zI (lQ (dv 0) zA)) (ra (dv 0) (qs zc) qt) (dv 0)))
 (yg (zz (DW.dt (vF (zr (yt) (dv 1) zA (zl _)) (vF (zr (rY) (ml rfl T.len (dv 1)) zc (zl _)) (uo (xv (zI (zj G_has_figures_alone_texts (hr.mono (by decide)) rfl (za (dv 1) zf)))))))) (ze (pX rfl rfl T.RH T.TY zA)) zp)
 (yg (zz (DW.dt (zS (zr (yt) (XG (dv 1) zc) zA (zl _)) (zV (zr (WE) (dv 0) zA (zl _))))) (ze (pX rfl rfl T.RH T.TY zA)) zp)
 (ze (zk (ca rfl T.n_int (dv 0))))))),?_⟩
 have hxl:=yX x
 have hx60:(fg x).length≤60→x.length≤61:=fun h=>by
  rw [← hxl]
  rcases cL (x:=x) rfl with ⟨e,_⟩ | e
  ·rw [e]; omega
  ·rw [e,List.length_cons]; omega
 refine ⟨_,rfl,_,rfl,by omega,_,rfl,_,rfl,?_⟩
 rw [qU]
 refine ifB (fun h=>?_) (fun h=>?_)
 ·have h:=of_decide_eq_true h
  have h1:1≤(tl x).length:=by
   cases e:tl x with
   | nil=>rw [e] at h; cases h
   | cons c r=>rw [List.length_cons]; omega
  refine ⟨_,rfl,_,rfl,_,rfl,by omega,?_⟩
  obtain ⟨f,hf⟩:∃ f,Txt.slice x (some 1) none=f:=⟨_,rfl⟩
  have t1:tl f=fg x:=by rw [← hf,tx (by decide) (by omega)]; unfold fg; rw [if_pos h]; rfl
  have a1:asc f:=hf ▸ lX hx
  have l1:f.length≤5000:=by have:=mX x (some 1) none; rw [hf] at this; omega
  rw [hf]
  have hfl:=yX f
  refine ⟨fun ρ=>ρ=[.some (.str x),.some (.str f)]∧fg x≠[]∧(fg x).length≤60∧∀ c∈fg x,yH c,?_,?_⟩
  ·refine ⟨_,rfl,_,_,rfl,rfl,_,rfl,?_⟩
   rw [nK,t1]
   refine ifB (fun h=>ifT rfl (rz _ (hR (xi fun z=>((yu rfl).mp z.1).1 (of_decide_eq_true h))))) (fun h=>?_)
   refine ⟨_,rfl,_,rfl,by omega,_,_,rfl,rfl,_,rfl,ifB (fun h2=>ifT rfl (rz _ (hR (xi fun z=>?_)))) (fun h2=>?_)⟩
   ·have h2:(60:Int)<(f.length:Int):=of_decide_eq_true h2
    have:=z.2
    rw [← t1] at this
    omega
   have h2:¬ (60:Int)<(f.length:Int):=of_decide_eq_false h2
   refine ⟨_,rfl,f,rfl,a1,_,rfl,ifB (fun h3=>(rz _ (hR (xi fun z=>?_)))) (fun h3=>⟨rfl,of_decide_eq_false h,by rw [← t1]; omega,by rw [← t1]; exact allFg_iff.mp (vv h3)⟩)⟩
   have z2:=((yu rfl).mp z.1).2.1
   rw [← t1] at z2
   rw [allFg_iff.mpr z2] at h3
   cases h3
  rintro ρ ⟨rfl,f1,f2,f3⟩
  obtain ⟨c,r,ec⟩:∃ c r,fg x=c::r:=by
   cases e:fg x with
   | nil=>exact absurd e f1
   | cons c r=>exact ⟨c,r,rfl⟩
  refine ⟨fun ρ=>ρ=[.some (.str x),.some (.str f)]∧(c=48→tl x=[48]),?_,?_⟩
  ·refine ⟨_,rfl,_,_,c,rfl,rfl,by decide,by decide,by rw [← yX,t1,ec,List.length_cons]; omega,p8 (t1.trans ec),_,_,rfl,rfl,_,rfl,?_⟩
   rw [tH]
   refine ifB (fun h=>?_) (fun h=>ifF rfl ⟨rfl,fun z=>absurd z (of_decide_eq_false h)⟩)
   refine ⟨_,rfl,_,_,rfl,rfl,_,rfl,?_⟩
   rw [sY]
   refine ifB (fun h2=>rz _ (hR (xi fun z=>?_))) (fun h2=>⟨rfl,fun _=>of_decide_eq_true (vv h2)⟩)
   have z3:=((yu rfl).mp z.1).2.2 (by rw [ec,of_decide_eq_true h]; rfl)
   rw [decide_eq_true z3] at h2
   cases h2
  rintro ρ ⟨rfl,hc⟩
  have hn:Numl (tl x):=(yu rfl).mpr ⟨f1,f3,fun z=>hc (by rw [ec] at z; exact Option.some.inj z)⟩
  exact ⟨_,rfl,x,rfl,hn,by show (tl x).length≤640; rw [hxl]; have:=hx60 f2; omega,q _ (rk hn f2)⟩
 ·refine ⟨_,rfl,?_⟩
  have t1:tl x=fg x:=by unfold fg; rw [if_neg (of_decide_eq_false h)]
  have a1:=hx
  have l1:=hl
  have hfl:=yX x
  refine ⟨fun ρ=>ρ=[.some (.str x),.some (.str x)]∧fg x≠[]∧(fg x).length≤60∧∀ c∈fg x,yH c,?_,?_⟩
  ·refine ⟨_,rfl,_,_,rfl,rfl,_,rfl,?_⟩
   rw [nK,t1]
   refine ifB (fun h=>ifT rfl (rz _ (hR (xi fun z=>((yu rfl).mp z.1).1 (of_decide_eq_true h))))) (fun h=>?_)
   refine ⟨_,rfl,_,rfl,by omega,_,_,rfl,rfl,_,rfl,ifB (fun h2=>ifT rfl (rz _ (hR (xi fun z=>?_)))) (fun h2=>?_)⟩
   ·have h2:(60:Int)<(x.length:Int):=of_decide_eq_true h2
    have:=z.2
    rw [← t1] at this
    omega
   have h2:¬ (60:Int)<(x.length:Int):=of_decide_eq_false h2
   refine ⟨_,rfl,x,rfl,a1,_,rfl,ifB (fun h3=>(rz _ (hR (xi fun z=>?_)))) (fun h3=>⟨rfl,of_decide_eq_false h,by rw [← t1]; omega,by rw [← t1]; exact allFg_iff.mp (vv h3)⟩)⟩
   have z2:=((yu rfl).mp z.1).2.1
   rw [← t1] at z2
   rw [allFg_iff.mpr z2] at h3
   cases h3
  rintro ρ ⟨rfl,f1,f2,f3⟩
  obtain ⟨c,r,ec⟩:∃ c r,fg x=c::r:=by
   cases e:fg x with
   | nil=>exact absurd e f1
   | cons c r=>exact ⟨c,r,rfl⟩
  refine ⟨fun ρ=>ρ=[.some (.str x),.some (.str x)]∧(c=48→tl x=[48]),?_,?_⟩
  ·refine ⟨_,rfl,_,_,c,rfl,rfl,by decide,by decide,by rw [← yX,t1,ec,List.length_cons]; omega,p8 (t1.trans ec),_,_,rfl,rfl,_,rfl,?_⟩
   rw [tH]
   refine ifB (fun h=>?_) (fun h=>ifF rfl ⟨rfl,fun z=>absurd z (of_decide_eq_false h)⟩)
   refine ⟨_,rfl,_,_,rfl,rfl,_,rfl,?_⟩
   rw [sY]
   refine ifB (fun h2=>rz _ (hR (xi fun z=>?_))) (fun h2=>⟨rfl,fun _=>of_decide_eq_true (vv h2)⟩)
   have z3:=((yu rfl).mp z.1).2.2 (by rw [ec,of_decide_eq_true h]; rfl)
   rw [decide_eq_true z3] at h2
   cases h2
  rintro ρ ⟨rfl,hc⟩
  have hn:Numl (tl x):=(yu rfl).mpr ⟨f1,f3,fun z=>hc (by rw [ec] at z; exact Option.some.inj z)⟩
  exact ⟨_,rfl,x,rfl,hn,by show (tl x).length≤640; rw [hxl]; have:=hx60 f2; omega,q _ (rk hn f2)⟩
abbrev w8:Stmt:=top 13
theorem q_:zh ["value"] ["value"] (defScope w8):=by walk_at "sc"
theorem pK (T:Txt K mg A) (F:Fun K "is_whole" "is_whole" w8 f fd):FnOk P w K mg base CX0 1 f fd ["value"] (zo K (yW)):=by
 refine okD F q_ (by walk_at "ln") fun _ _ _ _ _ _ hr ds Q h=>?_
 obtain ⟨d,b,rfl,hw,q⟩:=h
 refine ⟨_,(ze (zk (t_ (tZ (T:=.int) T.kt T.isinstance T.n_int PyProof.Rows.boot_int (dv 0)) (qv (io (tZ (T:=.bool) T.kt T.isinstance T.n_bool PyProof.Rows.boot_bool (dv 0))))))),?_⟩
 cases d <;> cases hw
 all_goals
  walk_at "rd"
  exact q
abbrev vX:Stmt:=top 19
theorem oK:zh ["number","least","most"] ["number","least","most"] (defScope vX):=by walk_at "sc"
theorem o3 (T:Txt K mg A) (G_is_whole:DOk P w K mg base 1 "is_whole" (yW)) (F:Fun K "bounded" "bounded" vX f fd):FnOk P w K mg base CX0 2 f fd ["number","least","most"] (zo K (yD)):=by
 refine okD F oK (by walk_at "ln") fun _ _ _ _ _ _ hr ds Q h=>?_
 obtain ⟨n,lo,hi,rfl,h1,h2,q⟩:=h
 refine ⟨_,(zd (zz (DW.dt (vF (xv (zI (zj G_is_whole (hr.mono (by decide)) rfl (za (dv 0) zf)))) (vF (zr (rX) (dv 0) (dv 1) (zl _)) (uo (zr (rY) (dv 0) (dv 2) (zl _)))))) (ze yI) zp)
 (ze (zk (dv 0)))),?_⟩
 walk_at "rd"
 rw [decide_eq_false (by omega:¬ n<lo)]
 walk_at "rd"
 rw [decide_eq_false (by omega:¬ hi<n)]
 walk_at "rd"
 exact q
abbrev yP:Stmt:=inClass (top 21) 0
theorem sv:zh ["self","base"] ["self","base"] (defScope yP):=by walk_at "sc"
theorem sI (T:Txt K mg A) (G_bounded:DOk P w K mg base 2 "bounded" (yD)) (F:Fun K "__init__" "Plain.__init__" yP f fd):FnOk P w K mg base CX0 3 f fd ["self","base"] (xj A.Plain "base" (Kd.ok .plain)):=by
 refine wH F sv T.TF T.SC (fun cdv A outer s H E hr=>?_)
 obtain ⟨te,p,l⟩:=((zj G_bounded (hr.mono (by decide)) rfl (za (dv 1) (za zc (za zc zf)))):DE (yV CX0 P w K mg base ["self","base"] "Plain.__init__" (defScope yP) f cdv A outer s H E).nox _ _)
 refine ⟨te,_,xN (ub (pv 0) p rfl),l,fun i hi=>?_⟩
 exact ⟨_,rfl,_,_,_,rfl,hi.1,hi.2,rfl⟩
abbrev yR:Stmt:=inClass (top 22) 0
theorem sA:zh ["self","base"] ["self","base"] (defScope yR):=by walk_at "sc"
theorem sM (T:Txt K mg A) (G_bounded:DOk P w K mg base 2 "bounded" (yD)) (F:Fun K "__init__" "Below.__init__" yR f fd):FnOk P w K mg base CX0 3 f fd ["self","base"] (xj A.Below "base" (Kd.ok .below)):=by
 refine wH F sA T.TH T.SD (fun cdv A outer s H E hr=>?_)
 obtain ⟨te,p,l⟩:=((zj G_bounded (hr.mono (by decide)) rfl (za (dv 1) (za zc (za zc zf)))):DE (yV CX0 P w K mg base ["self","base"] "Below.__init__" (defScope yR) f cdv A outer s H E).nox _ _)
 refine ⟨te,_,xN (ub (pv 0) p rfl),l,fun i hi=>?_⟩
 exact ⟨_,rfl,_,_,_,rfl,hi.1,hi.2,rfl⟩
abbrev yh:Stmt:=inClass (top 23) 0
theorem vO:zh ["self","half"] ["self","half"] (defScope yh):=by walk_at "sc"
theorem ue (T:Txt K mg A) (G_bounded:DOk P w K mg base 2 "bounded" (yD)) (F:Fun K "__init__" "Balanced.__init__" yh f fd):FnOk P w K mg base CX0 3 f fd ["self","half"] (xj A.Balanced "half" (Kd.ok .balanced)):=by
 refine wH F vO T.TD T.Sj (fun cdv A outer s H E hr=>?_)
 obtain ⟨te,p,l⟩:=((zj G_bounded (hr.mono (by decide)) rfl (za (dv 1) (za zc (za zc zf)))):DE (yV CX0 P w K mg base ["self","half"] "Balanced.__init__" (defScope yh) f cdv A outer s H E).nox _ _)
 refine ⟨te,_,xN (ub (pv 0) p rfl),l,fun i hi=>?_⟩
 exact ⟨_,rfl,_,_,_,rfl,hi.1,hi.2,rfl⟩
abbrev yn:Stmt:=inClass (top 24) 0
theorem uJ:zh ["self","first"] ["self","first"] (defScope yn):=by walk_at "sc"
theorem uQ (T:Txt K mg A) (G_bounded:DOk P w K mg base 2 "bounded" (yD)) (F:Fun K "__init__" "Growing.__init__" yn f fd):FnOk P w K mg base CX0 3 f fd ["self","first"] (xj A.Growing "first" (Kd.ok .growing)):=by
 refine wH F uJ T.TJ T.SE (fun cdv A outer s H E hr=>?_)
 obtain ⟨te,p,l⟩:=((zj G_bounded (hr.mono (by decide)) rfl (za (dv 1) (za zc (za zc zf)))):DE (yV CX0 P w K mg base ["self","first"] "Growing.__init__" (defScope yn) f cdv A outer s H E).nox _ _)
 refine ⟨te,_,xN (ub (pv 0) p rfl),l,fun i hi=>?_⟩
 exact ⟨_,rfl,_,_,_,rfl,hi.1,hi.2,rfl⟩
abbrev yp:Stmt:=inClass (top 25) 0
theorem uL:zh ["self","most"] ["self","most"] (defScope yp):=by walk_at "sc"
theorem uS (T:Txt K mg A) (G_bounded:DOk P w K mg base 2 "bounded" (yD)) (F:Fun K "__init__" "Falling.__init__" yp f fd):FnOk P w K mg base CX0 3 f fd ["self","most"] (xj A.Falling "most" (Kd.ok .falling)):=by
 refine wH F uL T.TK T.Sk (fun cdv A outer s H E hr=>?_)
 obtain ⟨te,p,l⟩:=((zj G_bounded (hr.mono (by decide)) rfl (za (dv 1) (za zc (za zc zf)))):DE (yV CX0 P w K mg base ["self","most"] "Falling.__init__" (defScope yp) f cdv A outer s H E).nox _ _)
 refine ⟨te,_,xN (ub (pv 0) p rfl),l,fun i hi=>?_⟩
 exact ⟨_,rfl,_,_,_,rfl,hi.1,hi.2,rfl⟩
abbrev yQ:Stmt:=inClass (top 26) 0
theorem sx:zh ["self","most"] ["self","most"] (defScope yQ):=by walk_at "sc"
theorem sK (T:Txt K mg A) (G_bounded:DOk P w K mg base 2 "bounded" (yD)) (F:Fun K "__init__" "Pairs.__init__" yQ f fd):FnOk P w K mg base CX0 3 f fd ["self","most"] (xj A.Pairs "most" (Kd.ok .pairs)):=by
 refine wH F sx T.Tx T.TL (fun cdv A outer s H E hr=>?_)
 obtain ⟨te,p,l⟩:=((zj G_bounded (hr.mono (by decide)) rfl (za (dv 1) (za zc (za zc zf)))):DE (yV CX0 P w K mg base ["self","most"] "Pairs.__init__" (defScope yQ) f cdv A outer s H E).nox _ _)
 refine ⟨te,_,xN (ub (pv 0) p rfl),l,fun i hi=>?_⟩
 exact ⟨_,rfl,_,_,_,rfl,hi.1,hi.2,rfl⟩
abbrev wV:Stmt:=top 50
theorem qZ:zh ["name","number"] ["name","number"] (defScope wV):=by walk_at "sc"
theorem pF (T:Txt K mg A) (SG:KOk P w K mg base 3 "Plain" A.Plain "base" (Kd.ok .plain)) (SH:KOk P w K mg base 3 "Below" A.Below "base" (Kd.ok .below)) (SI:KOk P w K mg base 3 "Balanced" A.Balanced "half" (Kd.ok .balanced)) (SJ:KOk P w K mg base 3 "Growing" A.Growing "first" (Kd.ok .growing)) (SK:KOk P w K mg base 3 "Falling" A.Falling "most" (Kd.ok .falling)) (SL:KOk P w K mg base 3 "Pairs" A.Pairs "most" (Kd.ok .pairs)) (F:Fun K "way_made" "way_made" wV f fd):FnOk P w K mg base CX0 5 f fd ["name","number"] (zo K (mz A)):=by
 refine okD F qZ (by walk_at "ln") fun _ _ _ _ _ _ hr ds Q h=>?_
 obtain ⟨k,n,rfl,hn,q⟩:=h
 refine ⟨_,(zd (zz (zr (yt) (dv 0) zA (zl _)) (ze (zk (wL SG (hr.mono (by decide)) rfl (za (dv 1) zf)))) zp)
 (zd (zz (zr (yt) (dv 0) zA (zl _)) (ze (zk (wL SH (hr.mono (by decide)) rfl (za (dv 1) zf)))) zp)
 (zd (zz (zr (yt) (dv 0) zA (zl _)) (ze (zk (wL SI (hr.mono (by decide)) rfl (za (dv 1) zf)))) zp)
 (zd (zz (zr (yt) (dv 0) zA (zl _)) (ze (zk (wL SJ (hr.mono (by decide)) rfl (za (dv 1) zf)))) zp)
 (zd (zz (zr (yt) (dv 0) zA (zl _)) (ze (zk (wL SK (hr.mono (by decide)) rfl (za (dv 1) zf)))) zp)
 (zd (zz (zr (yt) (dv 0) zA (zl _)) (ze (zk (wL SL (hr.mono (by decide)) rfl (za (dv 1) zf)))) zp)
 (ze yI))))))),?_⟩
 cases k
 all_goals
  walk_at "rd"
  exact ⟨hn,q⟩
abbrev wU:Stmt:=top 51
theorem sc_way_read:zh ["text","name","number"] ["text"] (defScope wU):=by walk_at "sc"
theorem pE (T:Txt K mg A) (G_whole_read:DOkX P w K mg base 2 "whole_read" (mw A)) (G_way_made:DOk P w K mg base 5 "way_made" (mz A)) (F:Fun K "way_read" "way_read" wU f fd):FnOk P w K mg base CX0 6 f fd ["text"] (zo K (mB A)):=by
 refine okD F sc_way_read (by walk_at "ln") fun _ _ _ _ _ _ hr ds Q h=>?_
 obtain ⟨k,n,rfl,hn,q⟩:=h
 refine ⟨_,(zd (zm (i:=1) sc_way_read.nd rfl (Or.inl rfl) (nB (dv 0) (p5 rfl T.gs_FIGURES)))
 (zd (zm (i:=2) sc_way_read.nd rfl (Or.inl rfl) (iq G_whole_read (hr.mono (by decide)) rfl (za (ra (dv 0) (qs (ml rfl T.len (dv 1))) qt) zf)))
 (ze (nw (zj G_way_made (hr.mono (by decide)) rfl (za (dv 1) (za (dv 2) zf))))))),?_⟩
 obtain ⟨b1,b2⟩:=xk hn
 obtain ⟨m,rfl⟩:∃ m:Nat,n=m:=⟨n.toNat,by omega⟩
 have m1:1≤m:=by obtain ⟨x1,_⟩:=hn; cases k <;> simp only [Kd.lo] at x1 <;> omega
 have m2:m≤60:=by obtain ⟨_,x1⟩:=hn; cases k <;> simp only [Kd.hi] at x1 <;> omega
 have es:shw (m:Int)=⟨(dg m).toArray⟩:=rA (by unfold shw; rw [rq]; rfl)
 have hst:Txt.rstripChars (k.nam++shw (m:Int)) (Str.ofString "0123456789")=k.nam:=by
  rw [es]
  exact lq ⟨m,by omega⟩ m1 k.nam (by cases k <;> simp [Kd.nam])
 have ln:k.nam.length≤8:=by cases k <;> decide +kernel
 have lw:=rC (k:=2) (m:Int) (by decide) (by rw [Int.natAbs_natCast]; omega)
 have le:∀ u v:Str,(u++v).length=u.length+v.length:=fun u v=>by rw [← yX,tq,List.length_append,yX,yX]
 have hsl:Txt.slice (k.nam++shw (m:Int)) (some (k.nam.length:Int)) none=shw (m:Int):=rA (by
  rw [tx (by omega) (by rw [tq,List.length_append,yX]; omega),tq,Int.toNat_natCast,← yX,List.drop_left])
 refine ⟨_,rfl,_,rfl,by rw [le]; omega,_,rfl,?_⟩
 dsimp only
 rw [hst]
 refine ⟨_,rfl,_,rfl,_,rfl,by omega,_,rfl,_,rfl,by rw [le]; omega,?_⟩
 rw [hsl]
 refine ⟨_,rfl,i6 _,by omega,fun i hi=>?_,fun hnone=>?_⟩
 ·rw [lZ m1 m2] at hi
  cases hi
  exact ⟨_,rfl,_,rfl,k,_,rfl,hn,q⟩
 ·rw [lZ m1 m2] at hnone
  cases hnone
abbrev vV:Stmt:=top 55
theorem oI:zh ["_law_way_here"] ["_law_way_here"] (defScope vV):=by walk_at "sc"
theorem oZ (T:Txt K mg A) (F:Fun K "_law_low" "_law_low" vV f fd):FnOk P w K mg base CX0 1 f fd ["_law_way_here"] (zo K (qH)):=by
 refine okD F oI (by walk_at "ln") fun _ _ _ _ _ _ hr ds Q h=>?_
 obtain ⟨k,n,rfl,q⟩:=h
 refine ⟨_,(zd (zz (zr (yt) (zq (dv 0) zc (fun _ _=>rfl)) zA (zl _)) (ze (zk (zi zR zc (zq (dv 0) zc (fun _ _=>rfl))))) zp)
 (ze (zk zc))),?_⟩
 have e0:(0:Int) - n=-n:=by omega
 cases k
 all_goals
  walk_at "rd"
  first
  | exact q
  | (dsimp only; rw [e0]; exact q)
abbrev wY:Stmt:=top 56
theorem q9:zh ["_law_way_here","_law_place"] ["_law_way_here","_law_place"] (defScope wY):=by walk_at "sc"
theorem pI (T:Txt K mg A) (F:Fun K "_law_high" "_law_high" wY f fd):FnOk P w K mg base CX0 1 f fd ["_law_way_here","_law_place"] (zo K (td)):=by
 refine okD F q9 (by walk_at "ln") fun _ _ _ _ _ _ hr ds Q h=>?_
 obtain ⟨k,n,p,rfl,hn,q⟩:=h
 refine ⟨_,(zd (zz (zr WG (zq (dv 0) zc (fun _ _=>rfl)) (zW (za zA (za zA zf))) (by with_unfolding_all rfl)) (ze (zk (zi zR (zq (dv 0) zc (fun _ _=>rfl)) zc))) zp)
 (zd (zz (zr (yt) (zq (dv 0) zc (fun _ _=>rfl)) zA (zl _)) (ze (zk (zi zR (zi zJ (zq (dv 0) zc (fun _ _=>rfl)) (dv 1)) zc))) zp)
 (zd (zz (zr (yt) (zq (dv 0) zc (fun _ _=>rfl)) zA (zl _)) (ze (zk (zi zZ (zq (dv 0) zc (fun _ _=>rfl)) (zq (dv 0) zc (fun _ _=>rfl))))) zp)
 (ze (zk (zq (dv 0) zc (fun _ _=>rfl))))))),?_⟩
 obtain ⟨b1,b2⟩:=xk hn
 cases k
 all_goals
  repeat (first | (walk_at "rd1") | refine ⟨small (by omega) (by omega) _,?_⟩)
  exact q
abbrev wa:Stmt:=top 57
theorem sc_law_drawn:zh ["_law_way_here","_law_cells","_law_row_here","_law_cell","_law_mixed","_law_low_here","_law_high_here","_law_free","_law_figure"] ["_law_way_here","_law_cells"] (defScope wa):=by walk_at "sc"
theorem rR (T:Txt K mg A) (G__law_low:DOk P w K mg base 1 "_law_low" (qH)) (G__law_high:DOk P w K mg base 1 "_law_high" (td)) (F:Fun K "_law_drawn" "_law_drawn" wa f fd):FnOk P w K mg base CX0 2 f fd ["_law_way_here","_law_cells"] (z9 K (mJ)):=by
 refine okF F sc_law_drawn (by walk_at "ln") fun _ _ _ _ _ _ hr ds Q h=>?_
 obtain ⟨k,n,cs,rfl,hn,hl,q⟩:=h
 refine ⟨_,(zd (yj (i:=2) sc_law_drawn.nd rfl (Or.inl rfl) (xT zf))
 (zd (ur (j:=3) rfl sc_law_drawn.nd rfl (Or.inl rfl) PassesOwn.never (dv 1) (zd (zm (i:=4) sc_law_drawn.nd rfl (Or.inl rfl) (zi yd (zi zZ (dv 3) zc) zc))
 (zd (zm (i:=5) sc_law_drawn.nd rfl (Or.inl rfl) (zj G__law_low (hr.mono (by decide)) rfl (za (dv 0) zf)))
 (zd (zm (i:=6) sc_law_drawn.nd rfl (Or.inl rfl) (zj G__law_high (hr.mono (by decide)) rfl (za (dv 0) (za (xW 2 rfl T.len) zf))))
 (zd (zm (i:=7) sc_law_drawn.nd rfl (Or.inl rfl) (zi zJ (dv 5) (zi yd (zi yL (dv 4) zc) (zi zJ (zi zR (dv 6) (dv 5)) zc))))
 (zd (zm (i:=8) sc_law_drawn.nd rfl (Or.inl rfl) (zq (xw (za (dv 5) (za (dv 6) (za zc (za (dv 7) (za (dv 7) (za (dv 7) (za (dv 7) zf)))))))) (zi yd (dv 4) zc) (fun _ _=>rfl)))
 (yg (zz (DW.dt (zS (zr (yt) (zq (dv 0) zc (fun _ _=>rfl)) zA (zl _)) (zS (zr (vc hr) (dv 8) (zq (dv 0) zc (fun _ _=>rfl)) (zl _)) (zS (zr (rY) (xW 2 rfl T.len) zc (zl _)) (zV (zr (pL hr) (ww 2 (zX zc) (fun _ _=>rfl)) zc (zl _))))))) (ze (zm (i:=8) sc_law_drawn.nd rfl (Or.inl rfl) (zi zR (zq (dv 0) zc (fun _ _=>rfl)) zc))) zp)
 (ze (wu 2 (dv 8))))))))))
 (zd (vG PassesOwn.never (j5 (DW.dt (zS (zr (pL hr) (dv 2) (xw zf) (zl _)) (zV (zr (vc hr) (zq (dv 2) (zX zc) (fun _ _=>rfl)) zc (zl _)))))) (ze (j6 2)))
 (ze (xS 2))))),?_⟩
 have ll:=yb cs
 obtain ⟨b1,b2⟩:=xk hn
 walk_at "rd"
 refine ⟨_,fun i ρ=>∃ (r:List Int) (v3 v4 v5 v6 v7 v8:Sl),ρ=[.some (xD k n),.some (zu cs),.own (r.map Dt.int),v3,v4,v5,v6,v7,v8]∧r.length=i∧Lg k n r,rfl,⟨[],_,_,_,_,_,_,rfl,rfl,Lg.nil k n⟩,?_,?_⟩
 ·rintro i e ρ' he ⟨r,v3,v4,v5,v6,v7,v8,rfl,hlr,hL⟩
  have he:(cs.map Dt.int)[i]? = some e:=he
  rw [List.getElem?_map] at he
  obtain ⟨c,hc,rfl⟩:=Option.map_eq_some_iff.mp he
  have hi:i<cs.length:=(List.getElem?_eq_some_iff.mp hc).1
  have lr:=yb r
  refine ⟨_,rfl,_,_,rfl,rfl,small (by decide) (by decide) _,_,_,rfl,rfl,se (by decide),?_⟩
  dsimp only
  generalize (c*48271).fmod 2147483647=m
  refine ⟨_,rfl,k,n,rfl,?_⟩
  refine ⟨_,rfl,_,rfl,k,n,_,rfl,hn,?_⟩
  rw [lr,hlr]
  have el:k.low n 0=k.low n i:=by cases k <;> rfl
  rw [el]
  obtain ⟨l1,l2⟩:=qd hn i
  have hp0:(0:Int)<k.high n i - k.low n i+1:=by omega
  have f0:=Int.fmod_nonneg_of_pos (m.fdiv 7) hp0
  have f1:=Int.fmod_lt_of_pos (m.fdiv 7) hp0
  obtain ⟨g,eg,hg⟩:=mY (m:=m) l1 l2 (f:=k.low n i+(m.fdiv 7).fmod (k.high n i - k.low n i+1)) (by omega) (by omega)
  walk_at "rd"
  refine ⟨(by show k.high n i - k.low n i+1≠0; omega),?_⟩
  walk_at "rd"
  refine ⟨_,_,_,rfl,rfl,eg,?_⟩
  refine ⟨fun ρ=>∃ (g':Int) (v3 v4 v5 v6 v7:Sl),ρ=[.some (xD k n),.some (zu cs),.own (r.map Dt.int),v3,v4,v5,v6,v7,.some (.int g')]∧Lg k n (r++[g']),?_,?_⟩
  ·refine ⟨_,rfl,_,_,_,rfl,rfl,rfl,_,_,rfl,rfl,_,rfl,?_⟩
   have hg':k.low n r.length≤g∧g≤k.high n r.length:=by rw [hlr]; exact hg
   by_cases hk:k=.falling
   ·subst hk
    refine ifT rfl ?_
    refine ⟨_,rfl,_,rfl,_,_,_,rfl,rfl,rfl,rfl,rfl,_,rfl,ifB (fun h1=>?_) (fun h1=>?_)⟩
    rotate_left
    ·exact ifF rfl ⟨g,_,_,_,_,_,rfl,hL.push hg' fun _ e=>absurd (eqI e) (by rw [h1]; exact Bool.false_ne_true)⟩
    refine ⟨_,rfl,_,_,rfl,rfl,_,rfl,?_⟩
    rcases zU r with rfl | ⟨r',z,rfl⟩
    ·exact ifF rfl (ifF rfl ⟨g,_,_,_,_,_,rfl,hL.push hg' fun _ _=>.inl rfl⟩)
    ·have ez:(r'++[z]).getD ((r'++[z]).length - 1) 0=z:=by rw [List.length_append]; simp [List.getD_eq_getElem?_getD]
     refine ifT (by rw [decide_eq_true_iff,List.length_map,List.length_append]; simp) ?_
     refine ⟨_,rfl,_,rfl,_,_,rfl,xf,rfl,rfl,_,rfl,?_⟩
     by_cases hz:z=0
     ·refine ifF (nT (eqI hz)) ?_
      exact ⟨g,_,_,_,_,_,rfl,hL.push hg' fun _ _=>.inr (by rw [ez]; exact hz)⟩
     ·refine ifT (nF (neI hz)) ?_
      refine ⟨_,rfl,_,_,_,rfl,rfl,rfl,_,_,rfl,rfl,n - 1,_,_,_,_,_,rfl,hL.push ⟨?_,?_⟩ fun _ e=>?_⟩
      ·show (0:Int)≤n - 1
       have:(1:Int)≤n:=hn.1
       omega
      ·show n - 1≤n
       omega
      ·omega
   ·refine ifF (by cases k <;> first | rfl | exact absurd rfl hk) (ifF rfl ⟨g,_,_,_,_,_,rfl,hL.push hg' fun hf=>absurd (by cases k <;> first | rfl | cases hf) hk⟩)
  ·rintro ρ ⟨g',w3,w4,w5,w6,w7,rfl,hL'⟩
   refine ⟨_,rfl,_,rfl,by rw [yb]; omega,r++[g'],w3,w4,w5,w6,w7,.some (.int g'),?_,by rw [List.length_append,hlr]; rfl,hL'⟩
   rw [← sj]
   rfl
 ·rintro ρ' ⟨r,v3,v4,v5,v6,v7,v8,rfl,hl0,hL⟩
  refine qP rfl ?_
  have:=qT r
  exact ⟨_,rfl,q _ hL.trim (by omega)⟩
abbrev yA:Stmt:=top 60
theorem sc_law_is_writing:zh ["_law_way_here","_law_row_here","_law_k"] ["_law_way_here","_law_row_here"] (defScope yA):=by walk_at "sc"
theorem vp (T:Txt K mg A) (G__law_low:DOk P w K mg base 1 "_law_low" (qH)) (G__law_high:DOk P w K mg base 1 "_law_high" (td)) (F:Fun K "_law_is_writing" "_law_is_writing" yA f fd):FnOk P w K mg base CX0 2 f fd ["_law_way_here","_law_row_here"] (zo K (iQ)):=by
 refine okD F sc_law_is_writing (by walk_at "ln") fun _ _ _ _ _ _ hr ds Q h=>?_
 obtain ⟨k,n,r,rfl,hn,hl,q⟩:=h
 refine ⟨_,(zd (qp (j:=2) rfl sc_law_is_writing.nd rfl (Or.inl rfl) PassesOwn.never rfl T.range (yC rfl T.len (dv 1)) (zd (zz (xv (j4 (WF) (WF) (zj G__law_low (hr.mono (by decide)) rfl (za (dv 0) zf)) (zq (dv 1) (dv 2) (fun _ _=>rfl)) (zj G__law_high (hr.mono (by decide)) rfl (za (dv 0) (za (dv 2) zf))))) (ze (zk xY)) zp)
 (ze (zz (DW.dt (zS (zr (yt) (zq (dv 0) zc (fun _ _=>rfl)) zA (zl _)) (zS (zr (vc hr) (zq (dv 1) (dv 2) (fun _ _=>rfl)) (zq (dv 0) zc (fun _ _=>rfl)) (zl _)) (zS (zr (rY) (dv 2) zc (zl _)) (zV (zr (pL hr) (zq (dv 1) (zi zR (dv 2) zc) (fun _ _=>rfl)) zc (zl _))))))) (ze (zk xY)) zp))))
 (ze (zk (VW (xx (vc hr) (dv 1) (xw zf) (zl _)) (qv (xx (pL hr) (zq (dv 1) (zX zc) (fun _ _=>rfl)) zc (zl _))))))),?_⟩
 have ll:=yb r
 have qf:¬ zD k n r→Q (.bl false):=fun z=>by rw [wG z] at q; exact q
 walk_at "rd"
 refine ⟨_,fun i ρ=>∃ v,ρ=[.some (xD k n),.some (zu r),v]∧(∀ p,p<i→k.low n p≤r.getD p 0∧r.getD p 0≤k.high n p)∧(k.isF=true→∀ p,p+1<i→r.getD (p+1) 0=n→r.getD p 0=0),rfl,by omega,by omega,⟨_,rfl,fun p hp=>absurd hp (Nat.not_lt_zero _),fun _ p hp=>absurd hp (Nat.not_lt_zero _)⟩,?_,?_⟩
 ·rintro i ρ' hi ⟨v,rfl,h1,h2⟩
  have hi':i<r.length:=by omega
  have el:k.low n 0=k.low n i:=by cases k <;> rfl
  refine ⟨_,rfl,k,n,rfl,_,rfl,_,rfl,_,_,_,rfl,rfl,w9 hi',_,_,rfl,rfl,_,rfl,?_⟩
  rw [el]
  refine ifB (fun g1=>?_) (fun g1=>?_)
  rotate_left
  ·have g1:=of_decide_eq_false g1
   refine ⟨_,rfl,ifT rfl (qf fun L=>g1 (L.fig i hi').1)⟩
  have g1:=of_decide_eq_true g1
  refine ⟨_,rfl,_,rfl,k,n,_,rfl,hn,_,_,rfl,rfl,_,rfl,?_⟩
  refine ifB (fun g2=>qf fun L=>of_decide_eq_false (kS g2) (L.fig i hi').2) (fun g2=>?_)
  have g2:=of_decide_eq_true (vv g2)
  have h1':∀ p,p<i+1→k.low n p≤r.getD p 0∧r.getD p 0≤k.high n p:=fun p hp=>by
   rcases (by omega:p<i∨p=i) with z | z
   ·exact h1 p z
   ·subst z; exact ⟨g1,g2⟩
  have done:(k.isF=true→r.getD i 0=n→∀ p,p+1=i→r.getD p 0=0)→(k.isF=true→∀ p,p+1<i+1→r.getD (p+1) 0=n→r.getD p 0=0):=fun z hk p hp e=>by
   rcases (by omega:p+1<i∨p+1=i) with y | y
   ·exact h2 hk p y e
   ·exact z hk (by rw [← y]; exact e) p y
  refine ⟨_,rfl,_,_,_,rfl,rfl,rfl,_,_,rfl,rfl,_,rfl,?_⟩
  by_cases hk:k=.falling
  ·subst hk
   refine ifT rfl ?_
   refine ⟨_,rfl,_,rfl,_,_,_,rfl,rfl,w9 hi',_,rfl,_,_,_,rfl,rfl,rfl,rfl,rfl,_,rfl,ifB (fun e1=>?_) (fun e1=>?_)⟩
   rotate_left
   ·exact ifF rfl ⟨_,rfl,h1',done fun _ e=>absurd (eqI e) (by rw [e1]; exact Bool.false_ne_true)⟩
   refine ⟨_,rfl,_,_,rfl,rfl,_,rfl,ifB (fun e2=>?_) (fun e2=>?_)⟩
   rotate_left
   ·exact ifF rfl ⟨_,rfl,h1',done fun _ _ p hp=>absurd (of_decide_eq_false e2) (by omega)⟩
   have e2:(0:Int)<i:=of_decide_eq_true e2
   obtain ⟨j,rfl⟩:∃ j,i=j+1:=⟨i - 1,by omega⟩
   have ej:((j+1:Nat):Int) - 1=(j:Int):=by omega
   refine ⟨_,rfl,_,rfl,_,_,rfl,rfl,_,_,_,rfl,rfl,(by rw [ej]; exact w9 (by omega)),rfl,rfl,_,rfl,ifB (fun e3=>?_) (fun e3=>?_)⟩
   ·refine qf fun L=>?_
    have z:=L.fal rfl j hi' (tN e1)
    rw [eqI z] at e3
    cases e3
   ·exact ⟨_,rfl,h1',done fun _ _ p hp=>by obtain rfl:p=j:=(by omega); exact tN (vv e3)⟩
  ·exact ifF (by cases k <;> first | rfl | exact absurd rfl hk) (ifF rfl ⟨_,rfl,h1',done fun hf=>absurd (by cases k <;> first | rfl | cases hf) hk⟩)
 ·rintro ρ' ⟨v,rfl,h1,h2⟩
  have en:(((r.map Dt.int).length:Int)).toNat=r.length:=by omega
  rw [en] at h1 h2
  walk_at "rd"
  refine ⟨vt _,rfl,_,rfl,?_⟩
  rcases zU r with rfl | ⟨l,z,rfl⟩
  ·refine ifT rfl ?_
   rw [u4 ⟨h1,h2,.inl rfl⟩] at q
   exact q
  ·have ez:(l++[z]).getD ((l++[z]).length - 1) 0=z:=by rw [List.length_append]; simp [List.getD_eq_getElem?_getD]
   refine ifF (by cases l <;> rfl) ?_
   refine ⟨_,rfl,_,rfl,_,_,_,rfl,rfl,xf,rfl,rfl,?_⟩
   by_cases hz:z=0
   ·rw [wG (fun L=>by
     rcases L.end_ with h | h
     ·simp at h
     ·rw [ez] at h; exact h hz)] at q
    rw [show eqD (.int z) (.int 0)=true from eqI hz]
    exact q
   ·rw [u4 ⟨h1,h2,.inr (by rw [ez]; exact hz)⟩] at q
    rw [show eqD (.int z) (.int 0)=false from neI hz]
    exact q
abbrev wE:Stmt:=top 61
theorem sc_law_row:zh ["_law_own","_law_cell","_law_rows","_law_size","_law_row_here","_law_changed","_law_at","_law_low_here"] ["_law_own","_law_cell","_law_rows"] (defScope wE):=by walk_at "sc"
theorem oY (T:Txt K mg A) (G__law_drawn:FOk P w K mg base 2 "_law_drawn" (mJ)) (G__law_low:DOk P w K mg base 1 "_law_low" (qH)) (G__law_high:DOk P w K mg base 1 "_law_high" (td)) (G__law_is_writing:DOk P w K mg base 2 "_law_is_writing" (iQ)) (F:Fun K "_law_row" "_law_row" wE f fd):FnOk P w K mg base CX0 3 f fd ["_law_own","_law_cell","_law_rows"] (z9 K (iP)):=by
 refine okF F sc_law_row (by walk_at "ln") fun _ _ _ _ _ _ hr ds Q h=>?_
 obtain ⟨k,n,c,rs,rfl,hp,hn,hc,hrs,q⟩:=h
 refine ⟨_,(zd (zm (i:=3) sc_law_row.nd rfl (Or.inl rfl) (zi yd (zi yd (zi zZ (dv 1) zc) zc) zc))
 (zd (yj (i:=4) sc_law_row.nd rfl (Or.inl rfl) (xV G__law_drawn (hr.mono (by decide)) rfl (za (dv 0) (za (DF.de (Up (ii (osc:=defScope wE) (N0:=["_law_own","_law_cell","_law_rows","_law_size","_law_row_here","_law_changed","_law_at","_law_low_here"]) (bs:=["_law_k"]) (caps:=["_law_cell"]) (js:=[1]) rfl (by decide +kernel) rfl rfl rfl (ic rfl T.range (dv 3)) (fun _ _ _ _ _=>(yq (i:=0) (show List.Nodup [("_law_k":Str),("_law_cell":Str)] by decide +kernel) rfl (Or.inl (lookup_relabel_local rfl)) (.inl rfl))) nY (fun _ _ _ _ _=>ir) (fun _ _ _ _ _=>(zi zJ (zi yL (dv 1) (zi zJ (dv 0) zc)) (zi zZ (zi zZ zc (dv 0)) (dv 0))))))) zf))))
 (yg (zz (DW.dt (zS (zr (vc hr) (zi yd (dv 1) zc) zc (zl _)) (zS (zr (rY) (yC rfl T.len (dv 2)) zc (zl _)) (zV (zr (rY) (yC rfl T.len (zq (dv 2) (zX zc) (fun _ _=>rfl))) zc (zl _)))))) (zd (yj (i:=5) sc_law_row.nd rfl (Or.inl rfl) (xU rfl T.n_list (zq (dv 2) (zX zc) (fun _ _=>rfl))))
 (zd (zm (i:=6) sc_law_row.nd rfl (Or.inl rfl) (zi yd (zi yL (dv 1) zc) (xW 5 rfl T.len)))
 (zd (zm (i:=7) sc_law_row.nd rfl (Or.inl rfl) (zj G__law_low (hr.mono (by decide)) rfl (za (dv 0) zf)))
 (zd (XC 5 (dv 6) (zi zJ (dv 7) (zi yd (zi yL (dv 1) zc) (zi zJ (zi zR (zj G__law_high (hr.mono (by decide)) rfl (za (dv 0) (za (dv 6) zf))) (dv 7)) zc))))
 (ze (zz (j5 (zI (zj G__law_is_writing (hr.mono (by decide)) rfl (za (dv 0) (za (dv 5) zf))))) (ze (xS 5)) zp)))))) zp)
 (ze (xS 4))))),?_⟩
 obtain ⟨b1,b2⟩:=xk hn
 refine ⟨_,rfl,_,_,rfl,rfl,small (by decide) (by decide) _,_,_,rfl,rfl,se (by decide),_,_,rfl,rfl,se (by decide),?_⟩
 dsimp only
 have s0:=Int.fmod_nonneg_of_pos ((c*16807).fmod 2147483587) (show (0:Int)<15 by decide)
 have s1:=Int.fmod_lt_of_pos ((c*16807).fmod 2147483587) (show (0:Int)<15 by decide)
 generalize ((c * 16807).fmod 2147483587).fmod 15=m at *
 refine ⟨_,rfl,_,rfl,m,fun i es=>∃ zs:List Int,es=zs.map Dt.int∧zs.length=i,rfl,by omega,by omega,⟨[],rfl,rfl⟩,?_,?_⟩
 ·rintro i es hi ⟨zs,rfl,hz⟩
  refine ⟨_,rfl,_,rfl,_,_,rfl,rfl,_,_,rfl,rfl,(by show (i:Int)+1≠0∧((i:Int)+1).natAbs<1073741824; omega),_,rfl,_,_,rfl,rfl,small (by omega) (by omega) _,_,rfl,_,_,rfl,rfl,small (by omega) (by omega) _,_,_,rfl,rfl,?_⟩
  exact ⟨zs++[_],sj zs _,by rw [List.length_append,hz]; rfl⟩
 rintro es ⟨zs,rfl,hz⟩
 refine ⟨k,n,zs,rfl,hn,by omega,fun r0 hL0 hl0=>?_⟩
 refine ⟨_,rfl,?_⟩
 have lrs:(rs.map zu).length=rs.length:=List.length_map _
 refine ⟨fun ρ=>∃ v5 v6 v7,ρ=[.some (xD k n),.some (.int c),.some (.lst (rs.map zu)),.some (.int m),.own (r0.map Dt.int),v5,v6,v7],?_,?_⟩
 ·refine ⟨_,rfl,_,_,rfl,rfl,se (by decide),rfl,rfl,_,rfl,ifB (fun _=>?_) (fun _=>?_)⟩
  rotate_left
  ·exact ifF rfl ⟨_,_,_,rfl⟩
  refine ⟨_,rfl,_,rfl,_,_,rfl,rfl,_,rfl,?_⟩
  rcases List.eq_nil_or_concat rs with rfl | ⟨l,z,hlz⟩
  ·exact ifF rfl (ifF rfl ⟨_,_,_,rfl⟩)
  rw [List.concat_eq_append] at hlz
  subst hlz
  obtain ⟨hLz,llz⟩:=hrs z (List.mem_append_right _ (List.mem_singleton.mpr rfl))
  have lz:=yb z
  refine ifT (decide_eq_true (by rw [lrs,List.length_append]; exact Int.natCast_pos.mpr (Nat.succ_pos _))) ?_
  refine ⟨_,rfl,_,rfl,_,_,_,rfl,rfl,tT,_,rfl,_,_,rfl,rfl,_,rfl,ifB (fun h1=>?_) (fun h1=>⟨_,_,_,rfl⟩)⟩
  have h1:(0:Int)<((z.map Dt.int).length:Int):=of_decide_eq_true h1
  refine ⟨_,rfl,_,rfl,_,_,_,rfl,rfl,tT,_,rfl,_,rfl,?_⟩
  refine ⟨_,rfl,_,_,rfl,rfl,iF (by decide),_,rfl,_,_,rfl,rfl,(by show ((z.map Dt.int).length:Int)≠0; omega),?_⟩
  dsimp only
  have f0:=Int.fmod_nonneg_of_pos (c.fdiv 3) h1
  have f1:=Int.fmod_lt_of_pos (c.fdiv 3) h1
  generalize (c.fdiv 3).fmod ((z.map Dt.int).length:Int)=a at *
  obtain ⟨a',rfl⟩:∃ a':Nat,a=a':=⟨a.toNat,by omega⟩
  obtain ⟨g1,g2⟩:=qd hn a'
  have el:k.low n 0=k.low n a':=by cases k <;> rfl
  refine ⟨_,rfl,k,n,rfl,?_⟩
  rw [el]
  refine ⟨_,rfl,_,rfl,_,rfl,_,_,rfl,rfl,iF (by decide),_,rfl,_,rfl,k,n,_,rfl,hn,_,rfl,_,_,rfl,rfl,_,_,rfl,rfl,_,_,rfl,rfl,(by show k.high n a' - k.low n a'+1≠0; omega),_,_,rfl,rfl,_,rfl,_,_,rfl,dM (by omega) (by omega),?_⟩
  dsimp only
  rw [Int.toNat_natCast,kq]
  generalize k.low n a'+(c.fdiv 300).fmod (k.high n a' - k.low n a'+1)=y
  have ly:(z.set a' y).length=z.length:=List.length_set
  refine ⟨_,rfl,_,rfl,k,n,z.set a' y,rfl,hn,by omega,_,rfl,?_⟩
  cases hlg:uB k n (z.set a' y) with
  | true=>exact ⟨_,rfl,q _ (kT hlg) (by omega)⟩
  | false=>exact ⟨_,_,_,rfl⟩
 ·rintro ρ ⟨v5,v6,v7,rfl⟩
  exact ⟨_,rfl,q r0 hL0 (by omega)⟩
abbrev ye:Stmt:=top 58
theorem sc_law_falling_worth:zh ["_law_most","_law_row_here","_law_total","_law_weight","_law_behind","_law_figure"] ["_law_most","_law_row_here"] (defScope ye):=by walk_at "sc"
theorem wk (T:Txt K mg A) (F:Fun K "_law_falling_worth" "_law_falling_worth" ye f fd):FnOk P w K mg base CX0 1 f fd ["_law_most","_law_row_here"] (zo K (om)):=by
 refine okD F sc_law_falling_worth (by walk_at "ln") fun _ _ _ _ _ _ hr ds Q h=>?_
 obtain ⟨n,r,rfl,hn,hl,hb,q⟩:=h
 refine ⟨_,(zd (zm (i:=2) sc_law_falling_worth.nd rfl (Or.inl rfl) zc)
 (zd (zm (i:=3) sc_law_falling_worth.nd rfl (Or.inl rfl) zc)
 (zd (zm (i:=4) sc_law_falling_worth.nd rfl (Or.inl rfl) zc)
 (zd (ur (j:=5) rfl sc_law_falling_worth.nd rfl (Or.inl rfl) PassesOwn.never (dv 1) (zd (zm (i:=2) sc_law_falling_worth.nd rfl (Or.inl rfl) (zi zJ (dv 2) (zi zZ (dv 5) (dv 3))))
 (ze (j7 (i:=3) (j:=4) rfl sc_law_falling_worth.nd rfl rfl (by decide) rfl rfl (za (zi zJ (zi zZ (dv 0) (dv 3)) (dv 4)) (za (dv 3) zf)) rfl))))
 (ze (zk (dv 2))))))),?_⟩
 obtain ⟨b1,b2⟩:=xk hn
 walk_at "rd"
 refine ⟨_,fun i ρ=>∃ v,ρ=[.some (.int n),.some (zu r),.some (.int (xl .falling n r i).re),.some (.int (wtF n i).2),.some (.int (wtF n i).1),v]∧i≤r.length,rfl,⟨_,rfl,Nat.zero_le _⟩,?_,?_⟩
 ·rintro i e ρ' he ⟨v,rfl,hi⟩
  obtain ⟨rfl,hi'⟩:=nN he
  have hf:=hb (r.getD i 0) (by
   rw [List.getD_eq_getElem?_getD,List.getElem?_eq_getElem hi']
   exact List.getElem_mem hi')
  have e1:(xl .falling n r (i+1)).re=(xl .falling n r i).re+r.getD i 0*(wtF n i).2:=by
   show ((xl .falling n r i).add ((Nm.i (r.getD i 0)).mul (wt .falling n i))).re=_
   rw [yM,zO]
   show _+(r.getD i 0*(wtF n i).2 - 0*0)=_
   omega
  refine ⟨_,rfl,_,rfl,_,rfl,_,_,rfl,rfl,ym (by omega) (by omega) _,_,_,rfl,rfl,?_⟩
  refine ⟨_,rfl,_,rfl,_,_,rfl,rfl,ym (by omega) (by omega) _,_,rfl,_,_,rfl,rfl,_,rfl,_,_,rfl,.some (.int (r.getD i 0)),?_,hi'⟩
  rw [e1]
  rfl
 ·rintro ρ' ⟨v,rfl,hi⟩
  rw [yb]
  exact ⟨_,rfl,q⟩
abbrev x_:Stmt:=top 59
theorem sc_law_worth:zh ["_law_way_here","_law_row_here","_law_x","_law_y","_law_k"] ["_law_way_here","_law_row_here"] (defScope x_):=by walk_at "sc"
theorem rQ (T:Txt K mg A) (G__law_falling_worth:DOk P w K mg base 1 "_law_falling_worth" (om)) (F:Fun K "_law_worth" "_law_worth" x_ f fd):FnOk P w K mg base CX0 2 f fd ["_law_way_here","_law_row_here"] (zo K (ol)):=by
 refine okD F sc_law_worth (by walk_at "ln") fun _ _ _ _ _ _ hr ds Q h=>?_
 obtain ⟨k,n,r,rfl,hp,hn,hl,hb,q⟩:=h
 refine ⟨_,(zd (zz (zr (yt) (zq (dv 0) zc (fun _ _=>rfl)) zA (zl _)) (ze (zk (zj G__law_falling_worth (hr.mono (by decide)) rfl (za (zq (dv 0) zc (fun _ _=>rfl)) (za (dv 1) zf))))) zp)
 (zd (zm (i:=2) sc_law_worth.nd rfl (Or.inl rfl) zc)
 (zd (zm (i:=3) sc_law_worth.nd rfl (Or.inl rfl) zc)
 (zd (ma (j:=4) rfl sc_law_worth.nd rfl (Or.inl rfl) PassesOwn.never rfl T.range (za (zi zR (yC rfl T.len (dv 1)) zc) (za (zX zc) (za (zX zc) zf))) (ze (zz (zr (yt) (zq (dv 0) zc (fun _ _=>rfl)) zA (zl _)) (ze (j7 (i:=2) (j:=3) rfl sc_law_worth.nd rfl rfl (by decide) rfl rfl (za (zi zR (zi zR (zq (dv 1) (dv 4) (fun _ _=>rfl)) (zi zZ (zq (dv 0) zc (fun _ _=>rfl)) (dv 2))) (dv 3)) (za (zi zR (dv 2) (zi zZ (zq (dv 0) zc (fun _ _=>rfl)) (dv 3))) zf)) rfl)) (ze (zz (zr (yt) (zq (dv 0) zc (fun _ _=>rfl)) zA (zl _)) (ze (zm (i:=2) sc_law_worth.nd rfl (Or.inl rfl) (zi zR (zq (dv 1) (dv 4) (fun _ _=>rfl)) (zi zZ (zq (dv 0) zc (fun _ _=>rfl)) (dv 2))))) (ze (zz (zr (yt) (zq (dv 0) zc (fun _ _=>rfl)) zA (zl _)) (ze (zm (i:=2) sc_law_worth.nd rfl (Or.inl rfl) (zi zJ (zq (dv 1) (dv 4) (fun _ _=>rfl)) (zi zZ (zi zJ (zi zZ zc (zq (dv 0) zc (fun _ _=>rfl))) zc) (dv 2))))) (ze (zm (i:=2) sc_law_worth.nd rfl (Or.inl rfl) (zi zJ (zq (dv 1) (dv 4) (fun _ _=>rfl)) (zi zZ (zi zJ (zq (dv 0) zc (fun _ _=>rfl)) (zi zZ (dv 4) (qw rfl T.n_int (xx (yt) (zq (dv 0) zc (fun _ _=>rfl)) zA (zl _))))) (dv 2))))))))))))
 (zd (zz (zr (yt) (zq (dv 0) zc (fun _ _=>rfl)) zA (zl _)) (ze (zk (zW (za (dv 2) (za (dv 3) zf))))) zp)
 (ze (zk (dv 2)))))))),?_⟩
 have ll:=yb r
 obtain ⟨b1,b2⟩:=xk hn
 refine ⟨_,rfl,_,_,_,rfl,rfl,rfl,_,_,rfl,rfl,_,rfl,?_⟩
 by_cases hk:k=.falling
 ·subst hk
  exact ifT rfl ⟨_,rfl,_,_,_,rfl,rfl,rfl,_,rfl,n,r,rfl,hn,hl,hb,q⟩
 ·refine ifF (by cases k <;> first | rfl | exact absurd rfl hk) ?_
  have h5:k.five=true:=by cases k <;> first | rfl | exact absurd rfl hk
  walk_at "rd"
  refine ⟨_,_,fun i ρ=>∃ v,ρ=[.some (xD k n),.some (zu r),.some (.int (Vt k n (r.length - i) (r.drop (r.length - i))).re),.some (.int 0),v],rfl,by omega,by omega,by decide,by decide,⟨.none,?_⟩,?_,?_⟩
  ·rw [Nat.sub_zero,List.drop_length]
   show _=[_,_,Sl.some (.int (k.zero).re),_,_]
   rw [yl]
   rfl
  ·rintro i ρ' hi ⟨v,rfl⟩
   obtain ⟨p,hp'⟩:∃ p:Nat,p+i+1=r.length:=⟨r.length - 1 - i,by omega⟩
   have ep:((List.map Dt.int r).length:Int) - 1 - i=p:=by omega
   rw [ep]
   have e1:r.length - i=p+1:=by omega
   have e2:r.length - (i+1)=p:=by omega
   have hpl:p<r.length:=by omega
   have ev:(Vt k n p (r.drop p)).re=r.getD p 0+(k.ratN n p).re*(Vt k n (p+1) (r.drop (p+1))).re:=by
    rw [List.drop_eq_getElem_cons hpl]
    show ((Nm.i r[p]).add ((k.ratN n p).mul (Vt k n (p+1) (r.drop (p+1))))).re=_
    rw [yM,zO]
    have ei:(k.ratN n p).im=0:=by cases k <;> first | rfl | exact absurd rfl hp
    have eg:r.getD p 0=r[p]:=by rw [List.getD_eq_getElem?_getD,List.getElem?_eq_getElem hpl]; rfl
    rw [ei,eg]
    show r[p]+(_ - 0*_)=_
    omega
   obtain ⟨x,hx⟩:∃ x,(Vt k n (p+1) (r.drop (p+1))).re=x:=⟨_,rfl⟩
   rw [e1,hx]
   rw [hx] at ev
   have fin:∀ y:Int,y=r.getD p 0+(k.ratN n p).re*x→∃ v,[Sl.some (xD k n),.some (zu r),.some (.int y),.some (.int 0),.some (.int p)]=[.some (xD k n),.some (zu r),.some (.int (Vt k n (r.length - (i+1)) (r.drop (r.length - (i+1)))).re),.some (.int 0),v]:=fun y hy=>⟨.some (.int p),by rw [e2,ev,hy]⟩
   cases k with
   | pairs=>exact absurd rfl hp
   | falling=>exact absurd rfl hk
   | plain=>
    repeat (first | (walk_at "rd1") | refine ⟨_,_,_,rfl,rfl,w9 hpl,?_⟩ | refine ⟨ym (by omega) (by omega) _,?_⟩)
    have e0:(n+(p:Int)*if (Kd.plain.nam == Str.ofString "growing")=true then 1 else 0)=n:=by
     rw [if_neg (by decide +kernel)]; omega
    rw [e0]
    refine ⟨ym (by omega) (by omega) _,?_⟩
    exact ⟨_,_,rfl,rfl,fin _ rfl⟩
   | below=>
    repeat (first | (walk_at "rd1") | refine ⟨_,_,_,rfl,rfl,w9 hpl,?_⟩ | refine ⟨ym (by omega) (by omega) _,?_⟩)
    exact fin _ (by show r.getD p 0 - n*x=r.getD p 0 + -n*x; rw [Int.neg_mul]; omega)
   | balanced=>
    repeat (first | (walk_at "rd1") | refine ⟨_,_,_,rfl,rfl,w9 hpl,?_⟩ | refine ⟨ym (by omega) (by omega) _,?_⟩)
    exact fin _ rfl
   | growing=>
    repeat (first | (walk_at "rd1") | refine ⟨_,_,_,rfl,rfl,w9 hpl,?_⟩ | refine ⟨ym (by omega) (by omega) _,?_⟩)
    have e0:(n+(p:Int)*if (Kd.growing.nam == Str.ofString "growing")=true then 1 else 0)=n+p:=by
     rw [if_pos (by decide +kernel)]; omega
    rw [e0]
    refine ⟨ym (by omega) (by omega) _,?_⟩
    exact ⟨_,_,rfl,rfl,fin _ rfl⟩
  ·rintro ρ' ⟨v,rfl⟩
   have e:r.length - (((List.map Dt.int r).length:Int) - 1 - (-1)).toNat=0:=by omega
   rw [e,List.drop_zero,← l7 h5]
   walk_at "rd"
   refine ifF (by cases k <;> first | rfl | exact absurd rfl hp) ?_
   exact ⟨_,rfl,q⟩
abbrev zC:Stmt:=top 33
theorem sc_has_mosts_above_noughts_alone:zh ["way","row","place"] ["way","row"] (defScope zC):=by walk_at "sc"
theorem yr (T:Txt K mg A) (F:Fun K "has_mosts_above_noughts_alone" "has_mosts_above_noughts_alone" zC f fd):FnOk P w K mg base CX0 1 f fd ["way","row"] (zo K (mF A)):=by
 refine okD F sc_has_mosts_above_noughts_alone (by walk_at "ln") fun _ _ _ _ _ _ hr ds Q h=>?_
 obtain ⟨n,r,rfl,hn,hl,q⟩:=h
 refine ⟨_,(zd (j8 (j:=2) rfl sc_has_mosts_above_noughts_alone.nd rfl (Or.inl rfl) PassesOwn.never rfl T.range (za zc (za (yC rfl T.len (dv 1)) zf)) (ze (zz (DW.dt (zS (zr (vc hr) (zq (dv 1) (dv 2) (fun _ _=>rfl)) (zY (dv 0)) (zl _)) (zV (zr (pL hr) (zq (dv 1) (zi zR (dv 2) zc) (fun _ _=>rfl)) zc (zl _))))) (ze (zk xY)) zp)))
 (ze (zk xY))),?_⟩
 walk_at "rd"
 have ll:=yb r
 refine ⟨_,_,fun i ρ=>∃ v,ρ=[.some (zM A .falling n),.some (zu r),v]∧∀ p:Nat,p<i→r.getD (p+1) 0=n→r.getD p 0=0,rfl,by decide,by decide,by omega,by omega,⟨_,rfl,fun p hp=>absurd hp (Nat.not_lt_zero _)⟩,?_,?_⟩
 ·rintro i ρ' hi ⟨v,rfl,hp⟩
  rw [ll] at hi
  have e1:(1+(i:Int)).toNat=i+1:=by omega
  have e2:(1+(i:Int) - 1).toNat=i:=by omega
  refine ⟨_,rfl,_,rfl,_,_,_,rfl,rfl,qB (by omega) (by omega),_,rfl,_,_,_,rfl,rfl,T.TK,T.Sk,rfl,rfl,_,rfl,?_⟩
  rw [e1]
  refine ifB (fun h=>?_) (fun h=>ifF rfl ?_)
  ·refine ⟨_,rfl,_,rfl,_,_,rfl,rfl,_,_,_,rfl,rfl,qB (by omega) (by omega),rfl,rfl,_,rfl,?_⟩
   rw [e2]
   refine ifB (fun h'=>?_) (fun h'=>?_)
   ·refine q false ⟨fun z=>(Bool.false_ne_true z).elim,fun z=>?_⟩
    exact absurd (z i (by omega) (tN h)) (o7 (kS h'))
   ·refine ⟨.some (.int (1+i)),rfl,fun p hp'=>?_⟩
    rcases (by omega:p<i∨p=i) with z | z
    ·exact hp p z
    ·subst z
     exact fun _=>tN (vv h')
  ·refine ⟨.some (.int (1+i)),rfl,fun p hp'=>?_⟩
   rcases (by omega:p<i∨p=i) with z | z
   ·exact hp p z
   ·subst z
    exact fun z=>absurd z (o7 h)
 ·rintro ρ' ⟨v,rfl,hp⟩
  rw [ll] at hp
  exact q true ⟨fun _ p hp'=>hp p (by omega),fun _=>rfl⟩
abbrev vZ:Stmt:=inClass (top 20) 1
theorem oN:zh ["self","place"] ["self","place"] (defScope vZ):=by walk_at "sc"
theorem y9 (T:Txt K mg A) (F:Fun K "low" "Way.low" vZ f fd):FnOk P w K mg base CX0 1 f fd ["self","place"] (zo K (X0)):=by
 refine okD F oN (by walk_at "ln") fun _ _ _ _ _ _ hr ds Q h=>?_
 obtain ⟨o,p,rfl,q⟩:=h
 refine ⟨_,(ze (zk zc)),?_⟩
 exact q
abbrev y4:Stmt:=inClass (top 23) 1
theorem uN:zh ["self","place"] ["self","place"] (defScope y4):=by walk_at "sc"
theorem uU (T:Txt K mg A) (F:Fun K "low" "Balanced.low" y4 f fd):FnOk P w K mg base CX0 1 f fd ["self","place"] (zo K (xz A .balanced (Kd.low .balanced))):=by
 refine okD F uN (by walk_at "ln") fun _ _ _ _ _ _ hr ds Q h=>?_
 obtain ⟨n,p,rfl,hn,q⟩:=h
 refine ⟨_,(ze (zk (zX (zY (dv 0))))),?_⟩
 exact ⟨_,rfl,_,_,_,rfl,rfl,T.TD,T.Sj,_,rfl,q⟩
abbrev xK:Stmt:=inClass (top 21) 1
theorem sw:zh ["self","place"] ["self","place"] (defScope xK):=by walk_at "sc"
theorem sJ (T:Txt K mg A) (F:Fun K "high" "Plain.high" xK f fd):FnOk P w K mg base CX0 1 f fd ["self","place"] (zo K (xz A .plain (Kd.high .plain))):=by
 refine okD F sw (by walk_at "ln") fun _ _ _ _ _ _ hr ds Q h=>?_
 obtain ⟨n,p,rfl,hn,q⟩:=h
 refine ⟨_,(ze (zk (zi zR (zY (dv 0)) zc))),?_⟩
 exact ⟨_,rfl,_,_,_,rfl,rfl,T.TF,T.SC,_,_,rfl,rfl,q⟩
abbrev xM:Stmt:=inClass (top 22) 1
theorem sB:zh ["self","place"] ["self","place"] (defScope xM):=by walk_at "sc"
theorem sN (T:Txt K mg A) (F:Fun K "high" "Below.high" xM f fd):FnOk P w K mg base CX0 1 f fd ["self","place"] (zo K (xz A .below (Kd.high .below))):=by
 refine okD F sB (by walk_at "ln") fun _ _ _ _ _ _ hr ds Q h=>?_
 obtain ⟨n,p,rfl,hn,q⟩:=h
 refine ⟨_,(ze (zk (zi zR (zY (dv 0)) zc))),?_⟩
 exact ⟨_,rfl,_,_,_,rfl,rfl,T.TH,T.SD,_,_,rfl,rfl,q⟩
abbrev yK:Stmt:=inClass (top 23) 2
theorem vP:zh ["self","place"] ["self","place"] (defScope yK):=by walk_at "sc"
theorem uf (T:Txt K mg A) (F:Fun K "high" "Balanced.high" yK f fd):FnOk P w K mg base CX0 1 f fd ["self","place"] (zo K (xz A .balanced (Kd.high .balanced))):=by
 refine okD F vP (by walk_at "ln") fun _ _ _ _ _ _ hr ds Q h=>?_
 obtain ⟨n,p,rfl,hn,q⟩:=h
 refine ⟨_,(ze (zk (zY (dv 0)))),?_⟩
 exact ⟨_,rfl,_,_,_,rfl,rfl,T.TD,T.Sj,q⟩
abbrev y2:Stmt:=inClass (top 24) 1
theorem uK:zh ["self","place"] ["self","place"] (defScope y2):=by walk_at "sc"
theorem uR (T:Txt K mg A) (F:Fun K "high" "Growing.high" y2 f fd):FnOk P w K mg base CX0 1 f fd ["self","place"] (zo K (xz A .growing (Kd.high .growing))):=by
 refine okD F uK (by walk_at "ln") fun _ _ _ _ _ _ hr ds Q h=>?_
 obtain ⟨n,p,rfl,hn,q⟩:=h
 refine ⟨_,(ze (zk (zi zR (zi zJ (zY (dv 0)) (dv 1)) zc))),?_⟩
 exact ⟨_,rfl,_,_,_,rfl,rfl,T.TJ,T.SE,_,rfl,_,_,rfl,rfl,_,_,rfl,rfl,q⟩
abbrev y3:Stmt:=inClass (top 25) 1
theorem uM:zh ["self","place"] ["self","place"] (defScope y3):=by walk_at "sc"
theorem uT (T:Txt K mg A) (F:Fun K "high" "Falling.high" y3 f fd):FnOk P w K mg base CX0 1 f fd ["self","place"] (zo K (xz A .falling (Kd.high .falling))):=by
 refine okD F uM (by walk_at "ln") fun _ _ _ _ _ _ hr ds Q h=>?_
 obtain ⟨n,p,rfl,hn,q⟩:=h
 refine ⟨_,(ze (zk (zY (dv 0)))),?_⟩
 exact ⟨_,rfl,_,_,_,rfl,rfl,T.TK,T.Sk,q⟩
abbrev xL:Stmt:=inClass (top 26) 2
theorem sy:zh ["self","place"] ["self","place"] (defScope xL):=by walk_at "sc"
theorem sL (T:Txt K mg A) (F:Fun K "high" "Pairs.high" xL f fd):FnOk P w K mg base CX0 1 f fd ["self","place"] (zo K (xz A .pairs (Kd.high .pairs))):=by
 refine okD F sy (by walk_at "ln") fun _ _ _ _ _ _ hr ds Q h=>?_
 obtain ⟨n,p,rfl,hn,q⟩:=h
 refine ⟨_,(ze (zk (zi zZ (zY (dv 0)) (zY (dv 0))))),?_⟩
 obtain ⟨h1,h2⟩:=xk hn
 exact ⟨_,rfl,_,_,_,rfl,rfl,T.Tx,T.TL,_,rfl,_,_,_,rfl,rfl,T.Tx,T.TL,_,_,rfl,rfl,small (by omega) (by omega) _,q⟩
abbrev zG:Stmt:=top 31
theorem sc_has_figures_alone_writings:zh ["way","row","place","thing"] ["way","row"] (defScope zG):=by walk_at "sc"
theorem yG (T:Txt K mg A) (HLo:∀ k:Kd,MOk P w K mg base 1 (A.at k) "low" (xz A k (k.low))∧MOk P w K mg base 1 (A.at k) "high" (xz A k (k.high))) (F:Fun K "has_figures_alone" "has_figures_alone" zG f fd):FnOk P w K mg base CX0 2 f fd ["way","row"] (zo K (nI A)):=by
 refine okD F sc_has_figures_alone_writings (by walk_at "ln") fun _ _ _ _ _ _ hr ds Q h=>?_
 obtain ⟨k,n,r,rfl,hn,hl,q⟩:=h
 refine ⟨_,(zd (uq (i:=2) (j:=3) rfl sc_has_figures_alone_writings.nd rfl rfl (Or.inl rfl) (Or.inl rfl) PassesOwn.never rfl T.n_enumerate (za (dv 1) zf) (ze (zz (DW.dt (vF (zr (rX) (dv 3) (yU hr (dv 0) (za (dv 2) zf)) (zl _)) (uo (zr (rY) (dv 3) (yU hr (dv 0) (za (dv 2) zf)) (zl _))))) (ze (zk xY)) zp)))
 (ze (zk xY))),?_⟩
 obtain ⟨M1,M2⟩:=HLo k
 walk_at "rd"
 refine ⟨_,_,fun i ρ=>∃ v u,ρ=[.some (zM A k n),.some (zu r),v,u]∧∀ p:Nat,p<i→k.low n p≤r.getD p 0∧r.getD p 0≤k.high n p,rfl,rfl,⟨_,_,rfl,fun p hp=>absurd hp (Nat.not_lt_zero _)⟩,?_,?_⟩
 ·rintro i x ρ' hx ⟨v,u,rfl,hp⟩
  obtain ⟨rfl,hi⟩:=jQ hx
  refine ⟨_,rfl,_,rfl,_,_,_,_,rfl,cO k,M1.mono (by decide),_,rfl,n,i,rfl,hn,_,_,rfl,rfl,_,rfl,?_⟩
  refine ifB (fun h=>ifT rfl ?_) (fun h=>?_)
  ·refine q false ⟨fun z=>(Bool.false_ne_true z).elim,fun z=>?_⟩
   have:=z i hi
   have h:=of_decide_eq_true h
   omega
  ·refine ⟨_,rfl,_,rfl,_,_,_,_,rfl,j0 k,M2.mono (by decide),_,rfl,n,i,rfl,hn,_,_,rfl,rfl,_,rfl,?_⟩
   have h:=of_decide_eq_false h
   refine ifB (fun h'=>?_) (fun h'=>?_)
   ·refine q false ⟨fun z=>(Bool.false_ne_true z).elim,fun z=>?_⟩
    have:=z i hi
    have h':=of_decide_eq_true h'
    omega
   ·have h':=of_decide_eq_false h'
    refine ⟨.some (.int i),.some (.int (r.getD i 0)),rfl,fun p hp'=>?_⟩
    rcases (by omega:p<i∨p=i) with z | z
    ·exact hp p z
    ·subst z
     omega
 ·rintro ρ' ⟨v,u,rfl,hp⟩
  rw [yb] at hp
  exact q true ⟨fun _=>hp,fun _=>rfl⟩
abbrev xI:Stmt:=top 34
theorem ss:zh ["way","row"] ["way","row"] (defScope xI):=by walk_at "sc"
theorem sH (T:Txt K mg A) (G_has_mosts_above_noughts_alone:DOk P w K mg base 1 "has_mosts_above_noughts_alone" (mF A)) (G_has_figures_alone_writings:DOk P w K mg base 2 "has_figures_alone_writings" (nI A)) (F:Fun K "is_writing" "is_writing" xI f fd):FnOk P w K mg base CX0 3 f fd ["way","row"] (zo K (cX A)):=by
 refine okD F ss (by walk_at "ln") fun _ _ _ _ _ _ hr ds Q h=>?_
 obtain ⟨k,n,r,rfl,hn,hl,q⟩:=h
 refine ⟨_,(yg (zz (DW.dt (zS (XA (dv 1)) (zV (zr (vc hr) (zq (dv 1) (zX zc) (fun _ _=>rfl)) zc (zl _))))) (ze (zk xY)) zp)
 (yg (zz (DW.dt (zS (zI (wM T.isinstance T.SF (dv 0))) (zV (xv (zI (zj G_has_mosts_above_noughts_alone (hr.mono (by decide)) rfl (za (dv 0) (za (dv 1) zf)))))))) (ze (zk xY)) zp)
 (ze (zk (zj G_has_figures_alone_writings (hr.mono (by decide)) rfl (za (dv 0) (za (dv 1) zf))))))),?_⟩
 refine ⟨fun ρ=>ρ=[.some (zM A k n),.some (zu r)]∧(r=[]∨r.getD (r.length - 1) 0≠0),?_,?_⟩
 ·walk_at "rd"
  rcases zU r with rfl | ⟨l,z,rfl⟩
  ·exact ifF rfl (ifF rfl ⟨rfl,.inl rfl⟩)
  ·have ez:(l++[z]).getD ((l++[z]).length - 1) 0=z:=by rw [List.length_append]; simp [List.getD_eq_getElem?_getD]
   refine ifT (by simp) ⟨_,rfl,_,rfl,_,_,_,rfl,rfl,xf,rfl,rfl,_,rfl,?_⟩
   by_cases hz:z=0
   ·refine ifT (eqI hz) ?_
    rw [wG (fun L=>by
     rcases L.end_ with h | h
     ·simp at h
     ·rw [ez] at h; exact h hz)] at q
    exact q
   ·refine ifF (neI hz) ⟨rfl,.inr (by rw [ez]; exact hz)⟩
 ·rintro ρ' ⟨rfl,hend⟩
  refine ⟨fun ρ=>ρ=[.some (zM A k n),.some (zu r)]∧(k.isF=true→∀ p,p+1<r.length→r.getD (p+1) 0=n→r.getD p 0=0),?_,?_⟩
  ·refine ⟨_,rfl,_,_,_,_,rfl,sX T k,kiF T k,_,rfl,?_⟩
   cases hk:k.isF with
   | false=>exact ifF rfl (ifF rfl ⟨rfl,fun z=>(Bool.false_ne_true z).elim⟩)
   | true=>
    have ek:k=.falling:=by cases k <;> first | rfl | cases hk
    subst ek
    refine ifT rfl ⟨_,rfl,_,rfl,n,r,rfl,hn,hl,fun b hb=>⟨_,rfl,?_⟩⟩
    cases b with
    | true=>exact ifF rfl ⟨rfl,fun _=>hb.mp rfl⟩
    | false=>
     refine ifT rfl ?_
     rw [wG (fun L=>Bool.false_ne_true (hb.mpr (L.fal rfl)))] at q
     exact q
  ·rintro ρ' ⟨rfl,hf⟩
   refine ⟨_,rfl,_,rfl,k,n,r,rfl,hn,hl,fun b hb=>?_⟩
   cases b with
   | true=>rw [u4 ⟨hb.mp rfl,hf,hend⟩] at q; exact q
   | false=>rw [wG (fun L=>Bool.false_ne_true (hb.mpr L.fig))] at q; exact q
abbrev z4:Stmt:=top 35
theorem sc_held_to_be_writings:zh ["way","rows","row"] ["way","rows"] (defScope z4):=by walk_at "sc"
theorem xO (T:Txt K mg A) (G_is_writing:DOk P w K mg base 3 "is_writing" (cX A)) (F:Fun K "held_to_be_writings" "held_to_be_writings" z4 f fd):FnOk P w K mg base CX0 4 f fd ["way","rows"] (zo K (nH A)):=by
 refine okD F sc_held_to_be_writings (by walk_at "ln") fun _ _ _ _ _ _ hr ds Q h=>?_
 obtain ⟨k,n,rs,rfl,hn,hrs,q⟩:=h
 refine ⟨_,(ze (ur (j:=2) rfl sc_held_to_be_writings.nd rfl (Or.inl rfl) PassesOwn.never (dv 1) (ze (zz (xv (zI (zj G_is_writing (hr.mono (by decide)) rfl (za (dv 0) (za (dv 2) zf))))) (ze yI) zp)))),?_⟩
 refine ⟨_,rfl,_,fun i ρ=>∃ v,ρ=[.some (zM A k n),.some (.lst (rs.map zu)),v],rfl,⟨_,rfl⟩,?_,?_⟩
 ·rintro i e ρ' he ⟨v,rfl⟩
  obtain ⟨r,hm,rfl⟩:=List.mem_map.mp (List.mem_of_getElem? he)
  obtain ⟨hL,hl⟩:=hrs r hm
  refine ⟨_,rfl,_,rfl,k,n,r,rfl,hn,hl,_,rfl,?_⟩
  rw [u4 hL]
  exact ifF rfl ⟨_,rfl⟩
 ·rintro ρ' ⟨v,rfl⟩
  exact q
abbrev vR:Stmt:=top 11
theorem sc_trimmed:zh ["row","things"] ["row"] (defScope vR):=by walk_at "sc"
theorem oU (T:Txt K mg A) (F:Fun K "trimmed" "trimmed" vR f fd):FnOk P w K mg base CX0 1 f fd ["row"] (z9 K (iJ)):=by
 refine okF F sc_trimmed (by walk_at "ln") fun _ _ _ _ _ _ hr ds Q h=>?_
 obtain ⟨r,rfl,q⟩:=h
 refine ⟨_,(zd (yj (i:=1) sc_trimmed.nd rfl (Or.inl rfl) (xU rfl T.n_list (dv 0)))
 (zd (vG PassesOwn.never (DW.dt (zS (dZ 1) (zV (zr (vc hr) (ww 1 (zX zc) (fun _ _=>rfl)) zc (zl _))))) (ze (j6 1)))
 (ze (xS 1)))),?_⟩
 refine ⟨_,rfl,_,rfl,_,rfl,?_⟩
 exact qQ rfl ⟨_,rfl,q⟩
abbrev vY:Stmt:=top 15
theorem oM:zh ["number"] ["number"] (defScope vY):=by walk_at "sc"
theorem o6 (T:Txt K mg A) (G_is_whole:DOk P w K mg base 1 "is_whole" (yW)) (F:Fun K "as_pair" "as_pair" vY f fd):FnOk P w K mg base CX0 2 f fd ["number"] (zo K (xA)):=by
 refine okD F oM (by walk_at "ln") fun _ _ _ _ _ _ hr ds Q h=>?_
 obtain ⟨d,m,rfl,hm,q⟩:=h
 refine ⟨_,(zd (zz (zI (zj G_is_whole (hr.mono (by decide)) rfl (za (dv 0) zf))) (ze (zk (zW (za (dv 0) (za zc zf))))) zp)
 (ze (zk (dv 0)))),?_⟩
 obtain rfl:=yE hm
 cases m with
 | i n=>
  walk_at "rd"
  exact q
 | p a b=>
  walk_at "rd"
  exact q
abbrev rL:Stmt:=top 16
theorem sc_added:zh ["one","other","left","right"] ["one","other"] (defScope rL):=by walk_at "sc"
theorem kR (T:Txt K mg A) (G_is_whole:DOk P w K mg base 1 "is_whole" (yW)) (G_as_pair:DOk P w K mg base 2 "as_pair" (xA)) (F:Fun K "added" "added" rL f fd):FnOk P w K mg base CX0 3 f fd ["one","other"] (zo K (tj)):=by
 refine okD F sc_added (by walk_at "ln") fun _ _ _ _ _ _ hr ds Q h=>?_
 obtain ⟨d,e,m,n,rfl,hm,hn,q⟩:=h
 refine ⟨_,(zd (zz (DW.dt (zS (zI (zj G_is_whole (hr.mono (by decide)) rfl (za (dv 0) zf))) (zV (zI (zj G_is_whole (hr.mono (by decide)) rfl (za (dv 1) zf)))))) (ze (zk (zi zJ (dv 0) (dv 1)))) zp)
 (zd (zm (i:=2) sc_added.nd rfl (Or.inl rfl) (zj G_as_pair (hr.mono (by decide)) rfl (za (dv 0) zf)))
 (zd (zm (i:=3) sc_added.nd rfl (Or.inl rfl) (zj G_as_pair (hr.mono (by decide)) rfl (za (dv 1) zf)))
 (ze (zk (zW (za (zi zJ (zq (dv 2) zc (fun _ _=>rfl)) (zq (dv 3) zc (fun _ _=>rfl))) (za (zi zJ (zq (dv 2) zc (fun _ _=>rfl)) (zq (dv 3) zc (fun _ _=>rfl))) zf)))))))),?_⟩
 obtain rfl:=yE hm
 obtain rfl:=yE hn
 cases m <;> cases n
 all_goals
  walk_at "rd"
  exact q
abbrev wW:Stmt:=top 10
theorem q0:zh ["row","place"] ["row","place"] (defScope wW):=by walk_at "sc"
theorem pG (T:Txt K mg A) (F:Fun K "thing_at" "thing_at" wW f fd):FnOk P w K mg base CX0 1 f fd ["row","place"] (zo K (xX)):=by
 refine okD F q0 (by walk_at "ln") fun _ _ _ _ _ _ hr ds Q h=>?_
 obtain ⟨xs,p,rfl,hp,q⟩:=h
 refine ⟨_,(zd (zz (zr (rX) (dv 1) (yC rfl T.len (dv 0)) (zl _)) (ze (zk (zq (dv 0) (dv 1) (fun _ _=>rfl)))) zp)
 (ze (zk zc))),?_⟩
 refine ⟨_,rfl,_,rfl,_,rfl,_,_,rfl,rfl,_,rfl,VJ (fun h=>?_) (fun h=>?_)⟩
 ·have h:p<(xs.length:Int):=of_decide_eq_true h
  have hl:p.toNat<xs.length:=by omega
  have e:((p.toNat:Nat):Int)=p:=Int.toNat_of_nonneg hp
  have:=wO (List.getElem?_eq_getElem hl)
  rw [e] at this
  rw [List.getD_eq_getElem?_getD,List.getElem?_eq_getElem hl] at q
  exact ⟨_,rfl,_,rfl,_,_,_,rfl,rfl,this,q⟩
 ·have h:¬ p<(xs.length:Int):=fun z=>h (decide_eq_true z)
  rw [List.getD_eq_getElem?_getD,List.getElem?_eq_none (by omega)] at q
  exact q
abbrev xJ:Stmt:=inClass (top 20) 0
theorem su:zh ["self"] ["self"] (defScope xJ):=by walk_at "sc"
theorem yf (T:Txt K mg A) (F:Fun K "nought" "Way.nought" xJ f fd):FnOk P w K mg base CX0 1 f fd ["self"] (zo K (Uu)):=by
 refine okD F su (by walk_at "ln") fun _ _ _ _ _ _ hr ds Q h=>?_
 obtain ⟨o,rfl,q⟩:=h
 refine ⟨_,(ze (zk zc)),?_⟩
 exact q
abbrev yZ:Stmt:=inClass (top 26) 1
theorem uI:zh ["self"] ["self"] (defScope yZ):=by walk_at "sc"
theorem uP (T:Txt K mg A) (F:Fun K "nought" "Pairs.nought" yZ f fd):FnOk P w K mg base CX0 1 f fd ["self"] (zo K (Ut)):=by
 refine okD F uI (by walk_at "ln") fun _ _ _ _ _ _ hr ds Q h=>?_
 obtain ⟨o,rfl,q⟩:=h
 refine ⟨_,(ze (zk (zW (za zc (za zc zf))))),?_⟩
 exact ⟨rfl,q⟩
abbrev ua:Stmt:=inClass (top 20) 5
theorem oO:zh ["self","number"] ["self","number"] (defScope ua):=by walk_at "sc"
theorem va (T:Txt K mg A) (G_is_whole:DOk P w K mg base 1 "is_whole" (yW)) (F:Fun K "has" "Way.has" ua f fd):FnOk P w K mg base CX0 2 f fd ["self","number"] (zo K (vh .plain)):=by
 refine okD F oO (by walk_at "ln") fun _ _ _ _ _ _ hr ds Q h=>?_
 obtain ⟨o,d,m,rfl,hm,q⟩:=h
 refine ⟨_,(ze (zk (t_ (zj G_is_whole (hr.mono (by decide)) rfl (za (dv 1) zf)) (qv (xx (WH) (dv 1) zc (zl _)))))),?_⟩
 obtain rfl:=yE hm
 cases m
 all_goals
  walk_at "rd"
  exact q
abbrev wg:Stmt:=inClass (top 22) 3
theorem rG:zh ["self","number"] ["self","number"] (defScope wg):=by walk_at "sc"
theorem rV (T:Txt K mg A) (G_is_whole:DOk P w K mg base 1 "is_whole" (yW)) (F:Fun K "has" "Below.has" wg f fd):FnOk P w K mg base CX0 2 f fd ["self","number"] (zo K (vh .below)):=by
 refine okD F rG (by walk_at "ln") fun _ _ _ _ _ _ hr ds Q h=>?_
 obtain ⟨o,d,m,rfl,hm,q⟩:=h
 refine ⟨_,(ze (zk (zj G_is_whole (hr.mono (by decide)) rfl (za (dv 1) zf)))),?_⟩
 obtain rfl:=yE hm
 cases m
 all_goals
  walk_at "rd"
  exact q
abbrev y6:Stmt:=inClass (top 23) 4
theorem uO:zh ["self","number"] ["self","number"] (defScope y6):=by walk_at "sc"
theorem uV (T:Txt K mg A) (G_is_whole:DOk P w K mg base 1 "is_whole" (yW)) (F:Fun K "has" "Balanced.has" y6 f fd):FnOk P w K mg base CX0 2 f fd ["self","number"] (zo K (vh .balanced)):=by
 refine okD F uO (by walk_at "ln") fun _ _ _ _ _ _ hr ds Q h=>?_
 obtain ⟨o,d,m,rfl,hm,q⟩:=h
 refine ⟨_,(ze (zk (zj G_is_whole (hr.mono (by decide)) rfl (za (dv 1) zf)))),?_⟩
 obtain rfl:=yE hm
 cases m
 all_goals
  walk_at "rd"
  exact q
abbrev vW:Stmt:=top 14
theorem oJ:zh ["value"] ["value"] (defScope vW):=by walk_at "sc"
theorem o0 (T:Txt K mg A) (G_is_whole:DOk P w K mg base 1 "is_whole" (yW)) (F:Fun K "is_pair" "is_pair" vW f fd):FnOk P w K mg base CX0 2 f fd ["value"] (zo K (uv)):=by
 refine okD F oJ (by walk_at "ln") fun _ _ _ _ _ _ hr ds Q h=>?_
 obtain ⟨d,m,rfl,hm,q⟩:=h
 refine ⟨_,(ze (zk (t_ (tZ (T:=.tuple) T.kt T.isinstance T.n_tuple PyProof.Rows.boot_tuple (dv 0)) (t_ (xx (vc hr) (yC rfl T.len (dv 0)) zc (zl _)) (t_ (zj G_is_whole (hr.mono (by decide)) rfl (za (zq (dv 0) zc (fun _ _=>rfl)) zf)) (qv (zj G_is_whole (hr.mono (by decide)) rfl (za (zq (dv 0) zc (fun _ _=>rfl)) zf)))))))),?_⟩
 obtain rfl:=yE hm
 cases m
 all_goals
  walk_at "rd"
  exact q
abbrev wd:Stmt:=inClass (top 26) 5
theorem rF:zh ["self","number"] ["self","number"] (defScope wd):=by walk_at "sc"
theorem rT (T:Txt K mg A) (G_is_pair:DOk P w K mg base 2 "is_pair" (uv)) (F:Fun K "has" "Pairs.has" wd f fd):FnOk P w K mg base CX0 3 f fd ["self","number"] (zo K (vh .pairs)):=by
 refine okD F rF (by walk_at "ln") fun _ _ _ _ _ _ hr ds Q h=>?_
 obtain ⟨o,d,m,rfl,hm,q⟩:=h
 refine ⟨_,(ze (zk (zj G_is_pair (hr.mono (by decide)) rfl (za (dv 1) zf)))),?_⟩
 obtain rfl:=yE hm
 refine ⟨_,rfl,_,m,rfl,hm,?_⟩
 cases m <;> exact q
abbrev xo:Stmt:=inClass (top 21) 2
theorem tE:zh ["self","place"] ["self","place"] (defScope xo):=by walk_at "sc"
theorem tJ (T:Txt K mg A) (F:Fun K "ratio" "Plain.ratio" xo f fd):FnOk P w K mg base CX0 1 f fd ["self","place"] (zo K (wA A .plain (Kd.ratN .plain))):=by
 refine okD F tE (by walk_at "ln") fun _ _ _ _ _ _ hr ds Q h=>?_
 obtain ⟨n,p,rfl,hn,q⟩:=h
 refine ⟨_,(ze (zk (zY (dv 0)))),?_⟩
 exact ⟨_,rfl,_,_,_,rfl,rfl,T.TF,T.SC,q⟩
abbrev xr:Stmt:=inClass (top 22) 2
theorem tG:zh ["self","place"] ["self","place"] (defScope xr):=by walk_at "sc"
theorem tM (T:Txt K mg A) (F:Fun K "ratio" "Below.ratio" xr f fd):FnOk P w K mg base CX0 1 f fd ["self","place"] (zo K (wA A .below (Kd.ratN .below))):=by
 refine okD F tG (by walk_at "ln") fun _ _ _ _ _ _ hr ds Q h=>?_
 obtain ⟨n,p,rfl,hn,q⟩:=h
 refine ⟨_,(ze (zk (zX (zY (dv 0))))),?_⟩
 exact ⟨_,rfl,_,_,_,rfl,rfl,T.TH,T.SD,_,rfl,q⟩
abbrev yB:Stmt:=inClass (top 23) 3
theorem vn:zh ["self","place"] ["self","place"] (defScope yB):=by walk_at "sc"
theorem vq (T:Txt K mg A) (F:Fun K "ratio" "Balanced.ratio" yB f fd):FnOk P w K mg base CX0 1 f fd ["self","place"] (zo K (wA A .balanced (Kd.ratN .balanced))):=by
 refine okD F vn (by walk_at "ln") fun _ _ _ _ _ _ hr ds Q h=>?_
 obtain ⟨n,p,rfl,hn,q⟩:=h
 refine ⟨_,(ze (zk (zi zJ (zi zZ zc (zY (dv 0))) zc))),?_⟩
 exact ⟨_,rfl,_,_,_,rfl,rfl,T.TD,T.Sj,_,_,rfl,rfl,Xl (by decide),_,_,rfl,rfl,q⟩
abbrev yJ:Stmt:=inClass (top 24) 2
theorem vN:zh ["self","place"] ["self","place"] (defScope yJ):=by walk_at "sc"
theorem ud (T:Txt K mg A) (F:Fun K "ratio" "Growing.ratio" yJ f fd):FnOk P w K mg base CX0 1 f fd ["self","place"] (zo K (wA A .growing (Kd.ratN .growing))):=by
 refine okD F vN (by walk_at "ln") fun _ _ _ _ _ _ hr ds Q h=>?_
 obtain ⟨n,p,rfl,hn,q⟩:=h
 refine ⟨_,(ze (zk (zi zJ (zY (dv 0)) (dv 1)))),?_⟩
 exact ⟨_,rfl,_,_,_,rfl,rfl,T.TJ,T.SE,_,rfl,_,_,rfl,rfl,q⟩
abbrev xq:Stmt:=inClass (top 26) 3
theorem tF:zh ["self","place"] ["self","place"] (defScope xq):=by walk_at "sc"
theorem tL (T:Txt K mg A) (F:Fun K "ratio" "Pairs.ratio" xq f fd):FnOk P w K mg base CX0 1 f fd ["self","place"] (zo K (wA A .pairs (Kd.ratN .pairs))):=by
 refine okD F tF (by walk_at "ln") fun _ _ _ _ _ _ hr ds Q h=>?_
 obtain ⟨n,p,rfl,hn,q⟩:=h
 refine ⟨_,(ze (zk (zW (za (zX (zY (dv 0))) (za zc zf))))),?_⟩
 exact ⟨_,rfl,_,_,_,rfl,rfl,T.Tx,T.TL,_,rfl,rfl,q⟩
abbrev wc:Stmt:=inClass (top 20) 4
theorem sc_Way_split:zh ["self","total","place","low","figures","figure"] ["self","total","place"] (defScope wc):=by walk_at "sc"
theorem yS (T:Txt K mg A) (HLo:∀ k:Kd,MOk P w K mg base 1 (A.at k) "low" (xz A k (k.low))∧MOk P w K mg base 1 (A.at k) "high" (xz A k (k.high))) (HR:∀ k:Kd,k.five=true→MOk P w K mg base 1 (A.at k) "ratio" (wA A k (k.ratN))) (F:Fun K "split" "Way.split" wc f fd):FnOk P w K mg base CX0 2 f fd ["self","total","place"] (zo K (iK A)):=by
 refine okD F sc_Way_split (by walk_at "ln") fun _ _ _ _ _ _ hr ds Q h=>?_
 obtain ⟨k,n,t,j,rfl,h4,hn,hj,q⟩:=h
 refine ⟨_,(zd (zm (i:=3) sc_Way_split.nd rfl (Or.inl rfl) (yU hr (dv 0) (za (dv 2) zf)))
 (zd (zm (i:=4) sc_Way_split.nd rfl (Or.inl rfl) (zi zJ (zi zR (yU hr (dv 0) (za (dv 2) zf)) (dv 3)) zc))
 (zd (zm (i:=5) sc_Way_split.nd rfl (Or.inl rfl) (zi zJ (dv 3) (zi yd (zi zR (dv 1) (dv 3)) (dv 4))))
 (ze (zk (zW (za (dv 5) (za (zi yL (zi zR (dv 1) (dv 5)) (yU hr (dv 0) (za (dv 2) zf))) zf)))))))),?_⟩
 obtain ⟨M1,M2⟩:=HLo k
 have h5:k.five=true:=by cases k <;> first | rfl | cases h4
 have M3:=HR k h5
 obtain ⟨e1,e2⟩:=nM h4 n j
 have hp:=tz h4 hn j
 have hr:k.ratN n j=.i (k.rat n j):=by cases k <;> first | rfl | cases h4
 have hb:(k.rat n j).natAbs<1073741824:=by
  obtain ⟨b1,b2⟩:=xk hn
  cases k <;> cases h4 <;> simp only [Kd.rat] <;> omega
 refine ⟨_,rfl,_,_,_,_,rfl,cO k,M1.mono (by decide),_,rfl,n,j,rfl,hn,?_⟩
 refine ⟨_,rfl,_,_,_,_,rfl,j0 k,M2.mono (by decide),_,rfl,n,j,rfl,hn,_,rfl,_,_,rfl,rfl,_,_,rfl,rfl,?_⟩
 refine ⟨_,rfl,_,rfl,_,rfl,_,_,rfl,rfl,_,rfl,_,_,rfl,rfl,(show k.high n j - k.low n j+1≠0 by omega),_,_,rfl,rfl,?_⟩
 refine ⟨_,rfl,_,rfl,_,rfl,_,_,rfl,rfl,_,rfl,_,_,_,_,rfl,dY k,M3.mono (by decide),_,rfl,n,j,rfl,hn,?_⟩
 rw [hr]
 refine ⟨_,_,rfl,rfl,⟨by omega,hb⟩,rfl,?_⟩
 cases k <;> cases h4 <;> exact q
abbrev xG:Stmt:=top 17
theorem sc_multiplied:zh ["one","other","left","right"] ["one","other"] (defScope xG):=by walk_at "sc"
theorem sE (T:Txt K mg A) (G_is_whole:DOk P w K mg base 1 "is_whole" (yW)) (G_as_pair:DOk P w K mg base 2 "as_pair" (xA)) (F:Fun K "multiplied" "multiplied" xG f fd):FnOk P w K mg base CX0 3 f fd ["one","other"] (zo K (qG)):=by
 refine okD F sc_multiplied (by walk_at "ln") fun _ _ _ _ _ _ hr ds Q h=>?_
 obtain ⟨d,e,m,n,rfl,hm,hn,k1,q⟩:=h
 refine ⟨_,(zd (zz (DW.dt (zS (zI (zj G_is_whole (hr.mono (by decide)) rfl (za (dv 0) zf))) (zV (zI (zj G_is_whole (hr.mono (by decide)) rfl (za (dv 1) zf)))))) (ze (zk (zi zZ (dv 0) (dv 1)))) zp)
 (zd (zm (i:=2) sc_multiplied.nd rfl (Or.inl rfl) (zj G_as_pair (hr.mono (by decide)) rfl (za (dv 0) zf)))
 (zd (zm (i:=3) sc_multiplied.nd rfl (Or.inl rfl) (zj G_as_pair (hr.mono (by decide)) rfl (za (dv 1) zf)))
 (ze (zk (zW (za (zi zR (zi zZ (zq (dv 2) zc (fun _ _=>rfl)) (zq (dv 3) zc (fun _ _=>rfl))) (zi zZ (zq (dv 2) zc (fun _ _=>rfl)) (zq (dv 3) zc (fun _ _=>rfl)))) (za (zi zJ (zi zZ (zq (dv 2) zc (fun _ _=>rfl)) (zq (dv 3) zc (fun _ _=>rfl))) (zi zZ (zq (dv 2) zc (fun _ _=>rfl)) (zq (dv 3) zc (fun _ _=>rfl)))) zf)))))))),?_⟩
 obtain rfl:=yE hm
 obtain rfl:=yE hn
 obtain ⟨h1,h2,h3,h4⟩:=k1
 cases m <;> cases n
 all_goals
  walk_at "rd"
  first | refine ⟨h1,?_⟩ | skip
  walk_at "rd"
  first | exact q | skip
  try refine ⟨h2,?_⟩
  walk_at "rd"
  try refine ⟨h3,?_⟩
  walk_at "rd"
  try refine ⟨h4,?_⟩
  walk_at "rd"
  try exact q
abbrev xp:Stmt:=inClass (top 26) 4
theorem Si:zh ["self","total","place","pair","figures","figure","turned"] ["self","total","place"] (defScope xp):=by walk_at "sc"
theorem tK (T:Txt K mg A) (G_as_pair:DOk P w K mg base 2 "as_pair" (xA)) (G_multiplied:DOk P w K mg base 3 "multiplied" (qG)) (F:Fun K "split" "Pairs.split" xp f fd):FnOk P w K mg base CX0 4 f fd ["self","total","place"] (zo K (iL A)):=by
 refine okD F Si (by walk_at "ln") fun _ _ _ _ _ _ hr ds Q h=>?_
 obtain ⟨n,d,m,j,rfl,hm,hn,q⟩:=h
 refine ⟨_,(zd (zm (i:=3) Si.nd rfl (Or.inl rfl) (zj G_as_pair (hr.mono (by decide)) rfl (za (dv 1) zf)))
 (zd (zm (i:=4) Si.nd rfl (Or.inl rfl) (zi zJ (zi zZ (zY (dv 0)) (zY (dv 0))) zc))
 (zd (zm (i:=5) Si.nd rfl (Or.inl rfl) (zi yd (zi zJ (zq (dv 3) zc (fun _ _=>rfl)) (zi zZ (zY (dv 0)) (zq (dv 3) zc (fun _ _=>rfl)))) (dv 4)))
 (zd (zm (i:=6) Si.nd rfl (Or.inl rfl) (zj G_multiplied (hr.mono (by decide)) rfl (za (zW (za (zi zR (zq (dv 3) zc (fun _ _=>rfl)) (dv 5)) (za (zq (dv 3) zc (fun _ _=>rfl)) zf))) (za (zW (za (zX (zY (dv 0))) (za (zX zc) zf))) zf))))
 (ze (zk (zW (za (dv 5) (za (zW (za (zi yL (zq (dv 6) zc (fun _ _=>rfl)) (dv 4)) (za (zi yL (zq (dv 6) zc (fun _ _=>rfl)) (dv 4)) zf))) zf))))))))),?_⟩
 have hn1:1≤n:=hn.1
 have hn2:n≤9:=hn.2
 have sq:n*n≤81:=by
  have:=Int.mul_le_mul hn2 hn2 (by omega) (by omega)
  omega
 have sq0:0≤n*n:=Int.mul_nonneg (by omega) (by omega)
 have hN:mK 0 (n*n+1):=⟨by omega,by omega⟩
 refine ⟨_,rfl,_,m,rfl,hm,?_⟩
 refine ⟨_,rfl,_,_,_,rfl,rfl,T.Tx,T.TL,_,rfl,_,_,_,rfl,rfl,T.Tx,T.TL,_,_,rfl,rfl,small (by omega) (by omega) _,_,_,rfl,rfl,?_⟩
 refine ⟨_,rfl,_,_,_,rfl,rfl,rfl,_,rfl,_,_,_,rfl,rfl,T.Tx,T.TL,_,rfl,_,_,_,rfl,rfl,rfl,_,_,rfl,rfl,ym (by omega) (by omega) _,_,_,rfl,rfl,_,rfl,_,_,rfl,rfl,(show n*n+1≠0 by omega),?_⟩
 repeat (first | (walk_at "rd1") | refine ⟨_,_,_,rfl,rfl,T.Tx,T.TL,?_⟩)
 refine ⟨⟨small (show -1000000≤-n by omega) (show -n≤1000000 by omega) _,small (show (-1000000:Int)≤-1 by decide) (show (-1:Int)≤1000000 by decide) _,small (show (-1000000:Int)≤-1 by decide) (show (-1:Int)≤1000000 by decide) _,small (show -1000000≤-n by omega) (show -n≤1000000 by omega) _⟩,?_⟩
 repeat (first | (walk_at "rd1") | refine ⟨hN,?_⟩)
 exact q
abbrev z5:Stmt:=top 28
theorem sc_figures_and_carries:zh ["way","totals","figures","carry","found","place","parts"] ["way","totals"] (defScope z5):=by walk_at "sc"
theorem xP (T:Txt K mg A) (G_added:DOk P w K mg base 3 "added" (tj)) (G_thing_at:DOk P w K mg base 1 "thing_at" (xX)) (HNo:∀ k:Kd,MOk P w K mg base 1 (A.at k) "nought" (cr k)) (HHas:∀ k:Kd,MOk P w K mg base 3 (A.at k) "has" (vh k)) (HSp:∀ k:Kd,k.five=true→MOk P w K mg base 4 (A.at k) "split" (mE A k)) (F:Fun K "figures_and_carries" "figures_and_carries" z5 f fd):FnOk P w K mg base CX0 5 f fd ["way","totals"] (zo K (Uv A)):=by
 refine okD F sc_figures_and_carries (by walk_at "ln") fun _ _ _ _ _ _ hr ds Q h=>?_
 obtain ⟨k,n,ts,J,rfl,h5,hn,ht,F,hJ,q⟩:=h
 refine ⟨_,(zd (zz (zI (wM T.isinstance T.SF (dv 0))) (ze yI) zp)
 (zd (yj (i:=2) sc_figures_and_carries.nd rfl (Or.inl rfl) (xT zf))
 (zd (zm (i:=3) sc_figures_and_carries.nd rfl (Or.inl rfl) (vH hr (dv 0)))
 (zd (yj (i:=4) sc_figures_and_carries.nd rfl (Or.inl rfl) (xT (za (dv 3) zf)))
 (zd (vG PassesOwn.never (DW.dt (vF (zr (rX) (xW 2 rfl T.len) (yC rfl T.len (dv 1)) (zl _)) (uo (zr (pL hr) (dv 3) (vH hr (dv 0)) (zl _))))) (zd (zm (i:=5) sc_figures_and_carries.nd rfl (Or.inl rfl) (xW 2 rfl T.len))
 (yg (zz (DW.dt (zS (zr (WH) (dv 5) (yC rfl T.len (dv 1)) (zl _)) (zV (xv (zI (yU hr (dv 0) (za (dv 3) zf))))))) (ze yI) zp)
 (zd (zm (i:=6) sc_figures_and_carries.nd rfl (Or.inl rfl) (yU hr (dv 0) (za (zj G_added (hr.mono (by decide)) rfl (za (dv 3) (za (zj G_thing_at (hr.mono (by decide)) rfl (za (dv 1) (za (dv 5) zf))) zf))) (za (dv 5) zf))))
 (zd (wu 2 (zq (dv 6) zc (fun _ _=>rfl)))
 (zd (zm (i:=3) sc_figures_and_carries.nd rfl (Or.inl rfl) (zq (dv 6) zc (fun _ _=>rfl)))
 (ze (wu 4 (dv 3)))))))))
 (u8 2 (u8 4 (ze (zk (zW (za (dv 2) (za (dv 4) zf)))))))))))),?_⟩
 have ll:(ts.map Nm.dt).length=ts.length:=List.length_map _
 refine ⟨_,rfl,_,_,_,_,rfl,sX T k,kiF T k,_,rfl,?_⟩
 refine ifF (tY h5) ?_
 refine ⟨rfl,_,rfl,_,rfl,_,_,_,_,rfl,vE k,(HNo k).mono (by decide),_,rfl,_,rfl,rfl,_,rfl,?_⟩
 refine ⟨fun m ρ=>∃ j v5 v6,ρ=[.some (zM A k n),.some (iW ts),.own ((x5 k n ts j).map Dt.int),.some (cAt k n ts j).dt,.own (p7 k n ts (j+1)),v5,v6]∧m=J - j∧j≤J,⟨J,0,_,_,rfl,rfl,Nat.zero_le _⟩,?_⟩
 rintro m ρ' ⟨j,v5,v6,rfl,rfl,hj⟩
 have fl:=vz k n ts j
 have fl':((x5 k n ts j).map Dt.int).length=j:=by rw [List.length_map,fl]
 have cl:(p7 k n ts (j+1)).length=j+1:=by unfold p7; rw [List.length_map,cg]
 have hcz:cAt k n ts j=k.zero↔eqD (cAt k n ts j).dt k.zero.dt=true:=(Xz (wy k n ts j) (wB k)).symm
 refine ⟨_,rfl,_,rfl,_,rfl,_,_,rfl,rfl,_,rfl,?_⟩
 by_cases hjJ:j<J
 ·refine ifB (fun _=>ifT rfl ?_) (fun hlt=>⟨_,rfl,_,rfl,_,_,_,_,rfl,vE k,(HNo k).mono (by decide),_,rfl,rW _,rW _,_,rfl,ifT (nF ?_) ?_⟩)
  rotate_left
  ·have hle:ts.length≤j:=by have:=of_decide_eq_false hlt; omega
   cases e:eqD (cAt k n ts j).dt k.zero.dt with
   | false=>rfl
   | true=>exact absurd (hcz.mpr e) (F.nz j hle hjJ).1
  all_goals
   refine ⟨_,rfl,?_⟩
   rw [fl']
   refine ⟨fun ρ=>ρ=[.some (zM A k n),.some (iW ts),.own ((x5 k n ts j).map Dt.int),.some (cAt k n ts j).dt,.own (p7 k n ts (j+1)),.some (.int j),v6],?_,?_⟩
   ·refine ⟨_,rfl,_,rfl,_,rfl,_,_,rfl,rfl,_,rfl,?_⟩
    refine ifB (fun hge=>?_) (fun _=>ifF rfl rfl)
    have hge:ts.length≤j:=by have:=of_decide_eq_true hge; omega
    refine ⟨_,rfl,_,_,_,_,rfl,cP k,(HHas k).mono (by decide),_,rfl,_,_,_,rfl,yi _,_,rfl,?_⟩
    rw [(F.nz j hge hjJ).2]
    exact ifF rfl rfl
   ·rintro ρ' rfl
    refine ⟨_,rfl,_,_,_,_,rfl,dX k,(HSp k h5).mono (by decide),_,rfl,_,rfl,_,rfl,_,_,rfl,by omega,?_⟩
    rw [Int.toNat_natCast,dO]
    refine ⟨_,_,_,_,rfl,yi _,yi _,_,rfl,n,_,j,rfl,vf (wy k n ts j) (x9 ht j),hn,by omega,?_⟩
    refine ⟨_,rfl,_,rfl,_,_,_,rfl,rfl,rfl,by omega,?_⟩
    refine ⟨_,rfl,_,_,_,rfl,rfl,rfl,?_⟩
    refine ⟨_,rfl,_,rfl,by omega,J - (j+1),by omega,j+1,.some (.int j),.some (.tup [.int (fAt k n ts j),(cAt k n ts (j+1)).dt]),?_,rfl,hjJ⟩
    have ef:(x5 k n ts j).map Dt.int++[Dt.int (fAt k n ts j)]=(x5 k n ts (j+1)).map Dt.int:=by rw [lK,sj]
    have ec:p7 k n ts (j+1)++[(cAt k n ts (j+1)).dt]=p7 k n ts (j+1+1):=by unfold p7; rw [iC k n ts (j+1),List.map_append]; rfl
    rw [← ec,← ef]
    rfl
 ·have ej:j=J:=by omega
  subst ej
  refine ifF (decide_eq_false (by rw [fl',ll]; have:=F.le; omega)) ?_
  refine ⟨_,rfl,_,rfl,_,_,_,_,rfl,vE k,(HNo k).mono (by decide),_,rfl,rW _,rW _,_,rfl,ifF (nT (hcz.mp F.z)) ?_⟩
  exact ⟨_,rfl,_,rfl,_,rfl,_,rfl,rfl,q⟩
abbrev vS:Stmt:=top 29
theorem oH:zh ["way","totals"] ["way","totals"] (defScope vS):=by walk_at "sc"
theorem oV (T:Txt K mg A) (G_trimmed:FOk P w K mg base 1 "trimmed" (iJ)) (G_figures_and_carries:DOk P w K mg base 5 "figures_and_carries" (Uv A)) (F:Fun K "settled" "settled" vS f fd):FnOk P w K mg base CX0 6 f fd ["way","totals"] (z9 K (rj A)):=by
 refine okF F oH (by walk_at "ln") fun _ _ _ _ _ _ hr ds Q h=>?_
 obtain ⟨k,n,ts,J,rfl,h5,hn,ht,F,hJ,q⟩:=h
 refine ⟨_,(ze (qo (xV G_trimmed (hr.mono (by decide)) rfl (za (zq (zj G_figures_and_carries (hr.mono (by decide)) rfl (za (dv 0) (za (dv 1) zf))) zc (fun _ _=>rfl)) zf)))),?_⟩
 refine ⟨_,rfl,_,rfl,k,n,ts,J,rfl,h5,hn,ht,F,hJ,_,_,_,rfl,rfl,rfl,?_⟩
 exact ⟨_,rfl,q⟩
abbrev vQ:Stmt:=top 38
theorem oG:zh ["way","number"] ["way","number"] (defScope vQ):=by walk_at "sc"
theorem oT (T:Txt K mg A) (G_settled:FOk P w K mg base 6 "settled" (rj A)) (HHas:∀ k:Kd,MOk P w K mg base 3 (A.at k) "has" (vh k)) (F:Fun K "written" "written" vQ f fd):FnOk P w K mg base CX0 7 f fd ["way","number"] (z9 K (mv A)):=by
 refine okF F oG (by walk_at "ln") fun _ _ _ _ _ _ hr ds Q h=>?_
 obtain ⟨k,n,m,rfl,hk,hn,hm,q⟩:=h
 refine ⟨_,(zd (zz (xv (zI (yU hr (dv 0) (za (dv 1) zf)))) (ze yI) zp)
 (zd (zz (zI (wM T.isinstance T.SF (dv 0))) (ze yI) zp)
 (ze (qo (xV G_settled (hr.mono (by decide)) rfl (za (dv 0) (za (xw (za (dv 1) zf)) zf))))))),?_⟩
 have h5:k.five=true:=by rcases hk with rfl | rfl <;> rfl
 have hh:xZ k (.i m)=true:=by rcases hk with rfl | rfl <;> rfl
 have hty:(Nm.i m).ty k:=by rcases hk with rfl | rfl <;> exact ⟨_,rfl⟩
 obtain ⟨J,F,hJ,_⟩:=kn h5 hn hh (b:=200) ⟨hm,Nat.zero_le _⟩ (by decide)
 have ht:∀ t∈[Nm.i m],tot k t:=fun t h=>by rw [List.mem_singleton.mp h]; exact fun _=>⟨m,rfl⟩
 refine ⟨_,rfl,_,_,_,_,rfl,cP k,(HHas k).mono (by decide),_,rfl,_,_,_,rfl,yi (.i m),_,rfl,?_⟩
 rw [hh]
 refine ifF rfl ?_
 refine ⟨_,rfl,_,_,_,_,rfl,sX T k,kiF T k,_,rfl,?_⟩
 refine ifF (tY h5) ⟨_,rfl,_,rfl,rfl,k,n,[.i m],J,rfl,h5,hn,ht,F,by omega,q _ (oE h5 hn ht) ((oC F h5 hn ht).trans (ox hty h5)) ?_⟩
 have:=qT (x5 k n [.i m] J)
 rw [vz] at this
 show (trim (x5 k n [.i m] J)).length≤_
 omega
abbrev wb:Stmt:=top 43
theorem rE:zh ["way","number"] ["way","number"] (defScope wb):=by walk_at "sc"
theorem rS (T:Txt K mg A) (G_as_pair:DOk P w K mg base 2 "as_pair" (xA)) (G_is_pair:DOk P w K mg base 2 "is_pair" (uv)) (F:Fun K "as_wanted" "as_wanted" wb f fd):FnOk P w K mg base CX0 3 f fd ["way","number"] (zo K (mD A)):=by
 refine okD F rE (by walk_at "ln") fun _ _ _ _ _ _ hr ds Q h=>?_
 obtain ⟨k,n,m,rfl,hk,q⟩:=h
 refine ⟨_,(zd (zz (zI (wM T.isinstance T.RG (dv 0))) (ze (zk (zj G_as_pair (hr.mono (by decide)) rfl (za (dv 1) zf)))) zp)
 (yg (zz (DW.dt (zS (zI (zj G_is_pair (hr.mono (by decide)) rfl (za (dv 1) zf))) (zV (zr (vc hr) (zq (dv 1) zc (fun _ _=>rfl)) zc (zl _))))) (ze (zk (zq (dv 1) zc (fun _ _=>rfl)))) zp)
 (ze (zk (dv 1))))),?_⟩
 refine ⟨_,rfl,_,_,_,_,rfl,sX T k,kiP T k,_,rfl,ifF (by rcases hk with rfl | rfl <;> rfl) ?_⟩
 refine ⟨fun ρ=>ρ=[.some (zM A k n),.some (.int m)],?_,?_⟩
 ·exact ⟨_,rfl,_,.i m,rfl,yi (.i m),_,rfl,ifF rfl (ifF rfl rfl)⟩
 ·rintro ρ rfl
  exact ⟨_,rfl,q⟩
abbrev xn:Stmt:=inClass (top 20) 2
theorem sc_Way_weights:zh ["self","many","weights","weight","place"] ["self","many"] (defScope xn):=by walk_at "sc"
theorem z_ (T:Txt K mg A) (G_added:DOk P w K mg base 3 "added" (tj)) (G_multiplied:DOk P w K mg base 3 "multiplied" (qG)) (HNo:∀ k:Kd,MOk P w K mg base 1 (A.at k) "nought" (cr k)) (HR:∀ k:Kd,k.five=true→MOk P w K mg base 1 (A.at k) "ratio" (wA A k (k.ratN))) (F:Fun K "weights" "Way.weights" xn f fd):FnOk P w K mg base CX0 4 f fd ["self","many"] (z9 K (Tr A)):=by
 refine okF F sc_Way_weights (by walk_at "ln") fun _ _ _ _ _ _ hr ds Q h=>?_
 obtain ⟨k,n,m,rfl,hk,hn,hm0,hm1,q⟩:=h
 refine ⟨_,(zd (yj (i:=2) sc_Way_weights.nd rfl (Or.inl rfl) (xT zf))
 (zd (zm (i:=3) sc_Way_weights.nd rfl (Or.inl rfl) (zj G_added (hr.mono (by decide)) rfl (za (vH hr (dv 0)) (za zc zf))))
 (zd (qp (j:=4) rfl sc_Way_weights.nd rfl (Or.inl rfl) PassesOwn.never rfl T.range (dv 1) (zd (wu 2 (dv 3))
 (ze (zm (i:=3) sc_Way_weights.nd rfl (Or.inl rfl) (zj G_multiplied (hr.mono (by decide)) rfl (za (yU hr (dv 0) (za (dv 4) zf)) (za (dv 3) zf)))))))
 (ze (xS 2))))),?_⟩
 have e1:(("nought":Str) == k.fld)=false:=by cases k <;> decide +kernel
 have e2:(("ratio":Str) == k.fld)=false:=by cases k <;> decide +kernel
 have ew:∀ j,wt k n j=wtR k n j:=fun j=>nJ hk
 refine ⟨rfl,_,rfl,_,rfl,_,_,_,_,rfl,e1,(HNo k).mono (by decide),⟨_,rfl,_,_,k.zero,.i 1,rfl,yi _,rfl,?_⟩⟩
 refine ⟨_,rfl,_,fun i ρ=>∃ v,ρ=[.some (zM A k n),.some (.int m),.own (wts k n i),.some (wtR k n i).dt,v],rfl,by omega,by omega,⟨_,rfl⟩,?_,?_⟩
 ·rintro i ρ' hi ⟨v,rfl⟩
  have hi1:i<1000:=by omega
  refine ⟨_,rfl,_,rfl,by rw [xB]; omega,?_⟩
  refine ⟨_,rfl,_,_,_,_,rfl,e2,(HR k hk).mono (by decide),_,rfl,n,i,rfl,hn,_,rfl,_,_,k.ratN n i,wtR k n i,rfl,yi _,yi _,h8 hn (by omega) (by omega) _,?_⟩
  exact ⟨.some (.int i),by rw [qK,ew]; rfl⟩
 ·rintro ρ' ⟨v,rfl⟩
  exact ⟨_,rfl,q⟩
abbrev yo:Stmt:=inClass (top 25) 2
theorem TM:zh ["self","many","weights","ahead","weight","place","following"] ["self","many"] (defScope yo):=by walk_at "sc"
theorem vb (T:Txt K mg A) (F:Fun K "weights" "Falling.weights" yo f fd):FnOk P w K mg base CX0 1 f fd ["self","many"] (z9 K (Us A)):=by
 refine okF F TM (by walk_at "ln") fun _ _ _ _ _ _ hr ds Q h=>?_
 obtain ⟨n,m,rfl,hn,hm0,hm1,q⟩:=h
 refine ⟨_,(zd (yj (i:=2) TM.nd rfl (Or.inl rfl) (xT zf))
 (zd (zm (i:=3) TM.nd rfl (Or.inl rfl) zc)
 (zd (zm (i:=4) TM.nd rfl (Or.inl rfl) zc)
 (zd (qp (j:=5) rfl TM.nd rfl (Or.inl rfl) PassesOwn.never rfl T.range (dv 1) (zd (wu 2 (dv 4))
 (zd (zm (i:=6) TM.nd rfl (Or.inl rfl) (zi zJ (zi zZ (zY (dv 0)) (dv 4)) (dv 3)))
 (zd (zm (i:=3) TM.nd rfl (Or.inl rfl) (dv 4))
 (ze (zm (i:=4) TM.nd rfl (Or.inl rfl) (dv 6)))))))
 (ze (xS 2)))))),?_⟩
 obtain ⟨b1,b2⟩:=xk hn
 refine ⟨rfl,_,rfl,?_⟩
 refine ⟨_,rfl,_,fun i ρ=>∃ v u,ρ=[.some (zM A .falling n),.some (.int m),.own (wts .falling n i),.some (.int (wtF n i).1),.some (.int (wtF n i).2),v,u],rfl,by omega,by omega,⟨_,_,rfl⟩,?_,?_⟩
 ·rintro i ρ' hi ⟨v,u,rfl⟩
  refine ⟨_,rfl,_,rfl,by rw [xB]; omega,?_⟩
  refine ⟨_,rfl,_,_,_,rfl,rfl,T.TK,T.Sk,_,rfl,_,_,rfl,rfl,ym (by omega) (by omega) _,_,rfl,_,_,rfl,rfl,?_⟩
  refine ⟨_,rfl,_,rfl,?_⟩
  exact ⟨.some (.int i),.some (.int (n*(wtF n i).2+(wtF n i).1)),by rw [qK]; rfl⟩
 ·rintro ρ' ⟨v,u,rfl⟩
  exact ⟨_,rfl,q⟩
abbrev rH:Stmt:=top 36
theorem sc_worth:zh ["way","row","number","thing","weight"] ["way","row"] (defScope rH):=by walk_at "sc"
theorem kO (T:Txt K mg A) (G_added:DOk P w K mg base 3 "added" (tj)) (G_multiplied:DOk P w K mg base 3 "multiplied" (qG)) (HNo:∀ k:Kd,MOk P w K mg base 1 (A.at k) "nought" (cr k)) (HW:∀ k:Kd,FMOk P w K mg base 4 (A.at k) "weights" (cW A k)) (F:Fun K "worth" "worth" rH f fd):FnOk P w K mg base CX0 5 f fd ["way","row"] (zo K (mx A)):=by
 refine okD F sc_worth (by walk_at "ln") fun _ _ _ _ _ _ hr ds Q h=>?_
 obtain ⟨k,n,ns,rfl,hn,hl,hb,q⟩:=h
 refine ⟨_,(zd (zm (i:=2) sc_worth.nd rfl (Or.inl rfl) (vH hr (dv 0)))
 (zd (nA (i:=3) (j:=4) rfl sc_worth.nd rfl rfl (Or.inl rfl) (Or.inl rfl) PassesOwn.never rfl T.n_zip (za (dv 1) (za (DF.de (d9 hr (dv 0) (za (yC rfl T.len (dv 1)) zf))) zf)) (ze (zm (i:=2) sc_worth.nd rfl (Or.inl rfl) (zj G_added (hr.mono (by decide)) rfl (za (dv 2) (za (zj G_multiplied (hr.mono (by decide)) rfl (za (dv 3) (za (dv 4) zf))) zf))))))
 (ze (zk (dv 2))))),?_⟩
 have hlen:(ns.map Dt.int).length=ns.length:=List.length_map _
 refine ⟨_,rfl,_,_,_,_,rfl,vE k,(HNo k).mono (by decide),⟨_,rfl,?_⟩⟩
 refine ⟨_,rfl,_,rfl,_,_,_,_,rfl,lN k,(HW k).mono (by decide),_,rfl,_,rfl,n,_,rfl,hn,by omega,by rw [hlen]; omega,?_⟩
 refine ⟨_,_,_,_,fun i ρ=>∃ v u,ρ=[.some (zM A k n),.some (zu ns),.some (xl k n ns i).dt,v,u],rfl,rfl,rfl,⟨_,_,rfl⟩,?_,?_⟩
 ·rintro i x y ρ' hx hy ⟨v,u,rfl⟩
  obtain ⟨rfl,hi⟩:=nN hx
  obtain rfl:=iU hy
  refine ⟨_,rfl,_,rfl,_,rfl,_,_,.i (ns.getD i 0),wt k n i,rfl,rfl,yi _,jH (To (cm hb i)) (X5 hn (by omega)) (by omega),?_⟩
  refine ⟨_,_,xl k n ns i,(Nm.i (ns.getD i 0)).mul (wt k n i),rfl,yi _,yi _,?_⟩
  exact ⟨_,_,rfl⟩
 ·rintro ρ' ⟨v,u,rfl⟩
  have e:min (ns.map Dt.int).length (wts k n (((ns.map Dt.int).length:Nat):Int).toNat).length=ns.length:=by rw [xB,hlen]; omega
  rw [e]
  exact ⟨_,rfl,q⟩
abbrev rK:Stmt:=top 44
theorem kr:zh ["way","row","other"] ["way","row","other"] (defScope rK):=by walk_at "sc"
theorem kQ (T:Txt K mg A) (G_held_to_be_writings:DOk P w K mg base 4 "held_to_be_writings" (nH A)) (G_written:FOk P w K mg base 7 "written" (mv A)) (G_as_wanted:DOk P w K mg base 3 "as_wanted" (mD A)) (G_worth:DOk P w K mg base 5 "worth" (mx A)) (F:Fun K "moved" "moved" rK f fd):FnOk P w K mg base CX0 8 f fd ["way","row","other"] (z9 K (iO A)):=by
 refine okF F kr (by walk_at "ln") fun _ _ _ _ _ _ hr ds Q h=>?_
 obtain ⟨k,n,r,k2,n2,rfl,hp,hn,h2,hn2,hL,hl,q⟩:=h
 refine ⟨_,(zd (md (zj G_held_to_be_writings (hr.mono (by decide)) rfl (za (dv 0) (za (xw (za (dv 1) zf)) zf))))
 (ze (qo (xV G_written (hr.mono (by decide)) rfl (za (dv 2) (za (zj G_as_wanted (hr.mono (by decide)) rfl (za (dv 2) (za (zj G_worth (hr.mono (by decide)) rfl (za (dv 0) (za (dv 1) zf))) zf))) zf)))))),?_⟩
 refine ⟨_,rfl,_,rfl,rfl,k,n,[r],rfl,hn,fun r' h'=>by rw [List.mem_singleton.mp h']; exact ⟨hL,by omega⟩,?_⟩
 obtain ⟨x,ex⟩:=wP hp (vM k n r)
 have hx:x.natAbs≤2 ^ 200:=by
  have hb:=(qM hn (fun t ht=>jV hn hL (by omega) t ht) r.length (by omega)).1
  have e:xl k n r r.length=zy k n r:=rfl
  rw [e,ex] at hb
  exact Nat.le_trans hb (Nat.pow_le_pow_right (by decide) (by omega))
 refine ⟨_,rfl,_,rfl,_,rfl,_,rfl,k,n,r,rfl,hn,by omega,Xx hn hL (by omega),?_⟩
 rw [ex]
 refine ⟨k2,n2,x,rfl,h2,k2,n2,x,rfl,h2,hn2,hx,fun r2 l2 w2 ll2=>q r2 l2 ?_ ll2⟩
 unfold wo
 rw [w2,ex]
abbrev wX:Stmt:=top 62
theorem q8:zh ["_law_one","_law_other"] ["_law_one","_law_other"] (defScope wX):=by walk_at "sc"
theorem pH (T:Txt K mg A) (F:Fun K "_law_sign" "_law_sign" wX f fd):FnOk P w K mg base CX0 1 f fd ["_law_one","_law_other"] (zo K (iM)):=by
 refine okD F q8 (by walk_at "ln") fun _ _ _ _ _ _ hr ds Q h=>?_
 obtain ⟨a,b,rfl,q⟩:=h
 refine ⟨_,(ze (zk (zi zR (qw rfl T.n_int (xx (rY) (dv 0) (dv 1) (zl _))) (qw rfl T.n_int (xx (rX) (dv 0) (dv 1) (zl _)))))),?_⟩
 walk_at "rd"
 have e:(if decide (b<a)=true then (1:Int) else 0) - (if decide (a<b)=true then (1:Int) else 0)=sg a b:=by
  unfold sg
  by_cases h1:a<b
  ·rw [if_pos h1,decide_eq_true h1,decide_eq_false (by omega)]; rfl
  ·by_cases h2:b<a
   ·rw [if_neg h1,if_pos h2,decide_eq_true h2,decide_eq_false h1]; rfl
   ·rw [if_neg h1,if_neg h2,decide_eq_false h2,decide_eq_false h1]; rfl
 rw [← e] at q
 exact q
abbrev vT:Stmt:=top 40
theorem sc_parting:zh ["one","other","place"] ["one","other"] (defScope vT):=by walk_at "sc"
theorem oW (T:Txt K mg A) (G_thing_at:DOk P w K mg base 1 "thing_at" (xX)) (F:Fun K "parting" "parting" vT f fd):FnOk P w K mg base CX0 2 f fd ["one","other"] (zo K (iN)):=by
 refine okD F sc_parting (by walk_at "ln") fun _ _ _ _ _ _ hr ds Q h=>?_
 obtain ⟨xs,ys,rfl,hx,hy,q⟩:=h
 refine ⟨_,(zd (ma (j:=2) rfl sc_parting.nd rfl (Or.inl rfl) PassesOwn.never rfl T.range (za (zi zR (ip rfl rfl T.n_max (za (yC rfl T.len (dv 0)) (za (yC rfl T.len (dv 1)) zf))) zc) (za (zX zc) (za (zX zc) zf))) (ze (zz (zr (pL hr) (zj G_thing_at (hr.mono (by decide)) rfl (za (dv 0) (za (dv 2) zf))) (zj G_thing_at (hr.mono (by decide)) rfl (za (dv 1) (za (dv 2) zf))) (zl _)) (ze (zk (dv 2))) zp)))
 (ze (zk XF))),?_⟩
 have lx:(xs.map Dt.int).length=xs.length:=List.length_map _
 have ly:(ys.map Dt.int).length=ys.length:=List.length_map _
 walk_at "rd"
 have em:(if ((ys.map Dt.int).length:Int)>((xs.map Dt.int).length:Int) then ((ys.map Dt.int).length:Int) else ((xs.map Dt.int).length:Int))=((max xs.length ys.length:Nat):Int):=by
  rw [lx,ly]; split <;> omega
 rw [em]
 generalize hM:max xs.length ys.length=M at q
 refine ⟨_,_,fun i ρ=>∃ v,ρ=[.some (zu xs),.some (zu ys),v]∧pt xs ys M=pt xs ys (M - i),rfl,by omega,by omega,by decide,by decide,⟨_,rfl,rfl⟩,?_,?_⟩
 ·rintro i ρ' hi ⟨v,rfl,hp⟩
  have hi':i<M:=by omega
  have e1:((M:Int) - 1 - (i:Int)).toNat=M - i - 1:=by omega
  refine ⟨_,rfl,_,rfl,xs.map Dt.int,_,rfl,by omega,_,rfl,_,rfl,ys.map Dt.int,_,rfl,by omega,?_⟩
  rw [e1,qk,qk]
  refine ⟨rfl,rfl,_,rfl,?_⟩
  have e2:M - i=(M - i - 1)+1:=by omega
  have e3:pt xs ys M=if xs.getD (M - i - 1) 0=ys.getD (M - i - 1) 0 then pt xs ys (M - i - 1) else some (M - i - 1):=by
   rw [hp,e2]; rfl
  by_cases hd:xs.getD (M - i - 1) 0=ys.getD (M - i - 1) 0
  ·refine ifF (nT (eqI hd)) ?_
   refine ⟨_,rfl,?_⟩
   rw [e3,if_pos hd]
   rfl
  ·refine ifT (nF (neI hd)) ?_
   refine ⟨_,rfl,?_⟩
   rw [e3,if_neg hd] at q
   have e4:((M - i - 1:Nat):Int)=(M:Int) - 1 - i:=by omega
   have q:Q (.int ((M - i - 1:Nat):Int)):=q
   rw [e4] at q
   exact q
 ·rintro ρ' ⟨v,rfl,hp⟩
  have e:M - ((M:Int) - 1 - (-1)).toNat=0:=by omega
  rw [e] at hp
  rw [hp] at q
  exact q
abbrev rJ:Stmt:=top 41
theorem sc_order:zh ["way","one","other","place","more"] ["way","one","other"] (defScope rJ):=by walk_at "sc"
theorem kP (T:Txt K mg A) (G_held_to_be_writings:DOk P w K mg base 4 "held_to_be_writings" (nH A)) (G_parting:DOk P w K mg base 2 "parting" (iN)) (G_thing_at:DOk P w K mg base 1 "thing_at" (xX)) (F:Fun K "order" "order" rJ f fd):FnOk P w K mg base CX0 5 f fd ["way","one","other"] (zo K (qF A)):=by
 refine okD F sc_order (by walk_at "ln") fun _ _ _ _ _ _ hr ds Q h=>?_
 obtain ⟨k,n,r,s,rfl,hp,hn,hr_,hs,lr,ls,q⟩:=h
 refine ⟨_,(zd (zz (zI (wM T.isinstance T.RG (dv 0))) (ze yI) zp)
 (zd (md (zj G_held_to_be_writings (hr.mono (by decide)) rfl (za (dv 0) (za (xw (za (dv 1) (za (dv 2) zf))) zf))))
 (zd (zm (i:=3) sc_order.nd rfl (Or.inl rfl) (zj G_parting (hr.mono (by decide)) rfl (za (dv 1) (za (dv 2) zf))))
 (zd (zz (XB (dv 3)) (ze (zk zc)) zp)
 (zd (zm (i:=4) sc_order.nd rfl (Or.inl rfl) (xx (rY) (zj G_thing_at (hr.mono (by decide)) rfl (za (dv 1) (za (dv 3) zf))) (zj G_thing_at (hr.mono (by decide)) rfl (za (dv 2) (za (dv 3) zf))) (zl _)))
 (yg (zz (DW.dt (zS (zI (wM T.isinstance T.RI (dv 0))) (zV (zr (vc hr) (zi yd (dv 3) zc) zc (zl _))))) (ze (zm (i:=4) sc_order.nd rfl (Or.inl rfl) (io (dv 4)))) zp)
 (ze (zk (pZ (zI (dv 4)) zc (zX zc)))))))))),?_⟩
 unfold wo at q
 refine ⟨_,rfl,_,_,_,_,rfl,sX T k,kiP T k,_,rfl,ifF (by cases k <;> first | rfl | exact absurd rfl hp) ?_⟩
 refine ⟨_,rfl,_,rfl,_,rfl,rfl,k,n,[r,s],rfl,hn,fun r' h'=>?_,?_⟩
 ·rcases List.mem_cons.mp h' with rfl | h'
  ·exact ⟨hr_,lr⟩
  ·rw [List.mem_singleton.mp h']; exact ⟨hs,ls⟩
 refine ⟨_,rfl,_,rfl,r,s,rfl,lr,ls,?_⟩
 cases hpt:pt r s (max r.length s.length) with
 | none=>
  rw [kM hr_ hs hpt] at q
  refine ⟨_,rfl,?_⟩
  walk_at "rd"
  exact q
 | some p=>
  obtain ⟨hne,o1,o2⟩:=kL hp hn hr_ hs hpt
  generalize hsg:sg (zy k n r).re (zy k n s).re=z at q o1 o2
  refine ⟨_,rfl,?_⟩
  walk_at "rd"
  refine ⟨by omega,?_⟩
  walk_at "rd"
  refine ⟨by omega,?_⟩
  rw [Int.toNat_natCast,qk,qk]
  walk_at "rd"
  refine ⟨fun ρ=>∃ b:Bool,ρ=[.some (zM A k n),.some (zu r),.some (zu s),.some (.int p),.some (.bl b)]∧(b=true→z=1)∧(b=false→z=-1),?_,?_⟩
  ·refine ⟨_,rfl,_,_,_,_,rfl,sX T k,kiB T k,_,rfl,?_⟩
   by_cases hk:k=.below
   ·subst hk
    refine ifT rfl ?_
    refine ⟨_,rfl,_,_,rfl,rfl,se (by decide),rfl,rfl,_,rfl,?_⟩
    refine ifB (fun h=>?_) (fun h=>?_)
    ·have h:(p:Int).fmod 2=1:=tN h
     have hodd:p % 2=1:=by
      rw [Int.fmod_eq_emod_of_nonneg _ (by decide)] at h
      omega
     obtain ⟨a1,a2⟩:=o2 rfl hodd
     refine ⟨_,rfl,_,rfl,_,rfl,fun h1=>?_,fun h1=>?_⟩
     ·have h1:¬ s.getD p 0<r.getD p 0:=of_decide_eq_false (kS h1)
      exact a2 (by omega)
     ·have h1:s.getD p 0<r.getD p 0:=of_decide_eq_true (vv h1)
      exact a1 h1
    ·have h:(p:Int).fmod 2≠1:=o7 h
     have hev:p % 2=0:=by
      rw [Int.fmod_eq_emod_of_nonneg _ (by decide)] at h
      omega
     obtain ⟨a1,a2⟩:=o1 (.inr hev)
     refine ⟨_,rfl,fun h1=>a1 (of_decide_eq_true h1),fun h1=>?_⟩
     have h1:¬ s.getD p 0<r.getD p 0:=of_decide_eq_false h1
     exact a2 (by omega)
   ·refine ifF (by cases k <;> first | rfl | exact absurd rfl hk) (ifF rfl ?_)
    obtain ⟨a1,a2⟩:=o1 (.inl hk)
    refine ⟨_,rfl,fun h1=>a1 (of_decide_eq_true h1),fun h1=>?_⟩
    have h1:¬ s.getD p 0<r.getD p 0:=of_decide_eq_false h1
    exact a2 (by omega)
  ·rintro ρ' ⟨b,rfl,h1,h2⟩
   refine ⟨_,rfl,_,rfl,?_⟩
   refine ifB (fun h=>?_) (fun h=>?_)
   ·rw [h1 h] at q
    exact q
   ·rw [h2 h] at q
    exact ⟨_,rfl,q⟩
abbrev wZ:Stmt:=top 63
theorem sc_law_held:zh ["_law_way_here","_law_one","_law_other","_law_due","_law_found"] ["_law_way_here","_law_one","_law_other","_law_due"] (defScope wZ):=by walk_at "sc"
theorem pJ (T:Txt K mg A) (G_order:DOk P w K mg base 5 "order" (qF A)) (F:Fun K "_law_held" "_law_held" wZ f fd):FnOk P w K mg base CX0 6 f fd ["_law_way_here","_law_one","_law_other","_law_due"] (zo K (mH A)):=by
 refine okD F sc_law_held (by walk_at "ln") fun _ _ _ _ _ _ hr ds Q h=>?_
 obtain ⟨k,n,r,s,rfl,hp,hn,hr',hs,lr,ls,q⟩:=h
 refine ⟨_,(zd (zm (i:=4) sc_law_held.nd rfl (Or.inl rfl) (zj G_order (hr.mono (by decide)) rfl (za (dv 0) (za (DF.de (xU rfl T.n_list (dv 1))) (za (DF.de (xU rfl T.n_list (dv 2))) zf)))))
 (yg (zz (DW.dt (vF (xv (zI (tZ (T:=.int) T.kt T.isinstance T.n_int PyProof.Rows.boot_int (dv 4)))) (vF (zI (tZ (T:=.bool) T.kt T.isinstance T.n_bool PyProof.Rows.boot_bool (dv 4))) (uo (zr (pL hr) (dv 4) (dv 3) (zl _)))))) (ze (zk xY)) zp)
 (ze (zk (xx (vc hr) (zj G_order (hr.mono (by decide)) rfl (za (dv 0) (za (DF.de (xU rfl T.n_list (dv 2))) (za (DF.de (xU rfl T.n_list (dv 1))) zf)))) (zi zR zc (dv 3)) (zl _)))))),?_⟩
 refine ⟨_,rfl,_,rfl,_,rfl,_,rfl,_,rfl,k,n,r,s,rfl,hp,hn,hr',hs,lr,ls,?_⟩
 refine ⟨fun ρ=>ρ=[.some (zM A k n),.some (zu r),.some (zu s),.some (.int (sg (wo k n r) (wo k n s))),.some (.int (sg (wo k n r) (wo k n s)))],?_,?_⟩
 ·refine ⟨_,rfl,_,rfl,_,rfl,ifF rfl ?_⟩
  refine ⟨_,rfl,_,rfl,_,rfl,ifF rfl ?_⟩
  exact ⟨_,rfl,_,rfl,rfl,rfl,_,rfl,ifF (nT (eqI rfl)) rfl⟩
 ·rintro ρ rfl
  refine ⟨_,rfl,_,rfl,_,rfl,_,rfl,_,rfl,k,n,s,r,rfl,hp,hn,hs,hr',ls,lr,_,rfl,_,_,rfl,rfl,rfl,rfl,?_⟩
  rw [show eqD (.int (sg (wo k n s) (wo k n r))) (.int (0 - sg (wo k n r) (wo k n s)))=true from eqI (i7 _ _)]
  exact q
abbrev xH:Stmt:=top 64
theorem sc_law_sorted:zh ["_law_way_here","_law_rows","_law_done","_law_row_here","_law_at"] ["_law_way_here","_law_rows"] (defScope xH):=by walk_at "sc"
theorem sG (T:Txt K mg A) (G_order:DOk P w K mg base 5 "order" (qF A)) (F:Fun K "_law_sorted" "_law_sorted" xH f fd):FnOk P w K mg base CX0 6 f fd ["_law_way_here","_law_rows"] (z9 K (mG A)):=by
 refine okF F sc_law_sorted (by walk_at "ln") fun _ _ _ _ _ _ hr ds Q h=>?_
 obtain ⟨k,n,rs,rfl,hp,hn,hl,hrs,q⟩:=h
 refine ⟨_,(zd (yj (i:=2) sc_law_sorted.nd rfl (Or.inl rfl) (xT zf))
 (zd (ur (j:=3) rfl sc_law_sorted.nd rfl (Or.inl rfl) PassesOwn.never (dv 1) (zd (zm (i:=4) sc_law_sorted.nd rfl (Or.inl rfl) zc)
 (zd (vG PassesOwn.never (DW.dt (zS (zr (rX) (dv 4) (xW 2 rfl T.len) (zl _)) (zV (zr (rX) (zj G_order (hr.mono (by decide)) rfl (za (dv 0) (za (ww 2 (dv 4) (fun _ _=>rfl)) (za (dv 3) zf)))) zc (zl _))))) (ze (zm (i:=4) sc_law_sorted.nd rfl (Or.inl rfl) (zi zJ (dv 4) zc))))
 (ze (XD 2 (dv 4) (dv 3))))))
 (ze (xS 2)))),?_⟩
 walk_at "rd"
 refine ⟨_,fun i ρ=>∃ (ts:List (List Int)) (v3 v4:Sl),ρ=[.some (zM A k n),.some (.lst (rs.map zu)),.own (ts.map zu),v3,v4]∧ts.Perm (rs.take i)∧ts.Pairwise (fun a b=>wo k n a≤wo k n b),rfl,⟨[],_,_,rfl,List.Perm.refl _,List.Pairwise.nil⟩,?_,?_⟩
 ·rintro i e ρ' he ⟨ts,v3,v4,rfl,hpm,hso⟩
  have he:(rs.map zu)[i]? = some e:=he
  rw [List.getElem?_map] at he
  obtain ⟨r,hr2,rfl⟩:=Option.map_eq_some_iff.mp he
  have hi:i<rs.length:=(List.getElem?_eq_some_iff.mp hr2).1
  obtain ⟨hLr,llr⟩:=hrs r (List.mem_of_getElem? hr2)
  have hts:∀ t∈ts,zD k n t∧t.length≤20:=fun t ht=>hrs t (List.mem_of_mem_take (hpm.mem_iff.mp ht))
  have hlen:ts.length≤100:=by rw [hpm.length_eq,List.length_take]; omega
  have lts:(ts.map zu).length=ts.length:=List.length_map _
  refine ⟨fun m ρ=>∃ j:Nat,ρ=[.some (zM A k n),.some (.lst (rs.map zu)),.own (ts.map zu),.some (zu r),.some (.int j)]∧m=ts.length - j∧j≤ts.length∧∀ t∈ts.take j,wo k n t<wo k n r,⟨_,0,rfl,rfl,Nat.zero_le _,fun t ht=>by cases ht⟩,?_⟩
  rintro m ρ' ⟨j,rfl,rfl,hj,hb⟩
  have done:(∀ h:j<ts.length,wo k n r≤wo k n ts[j])→∃ (ts':List (List Int)) (v3 v4:Sl),[Sl.some (zM A k n),.some (.lst (rs.map zu)),.own ((ts.take j++r::ts.drop j).map zu),.some (zu r),.some (.int j)]=[.some (zM A k n),.some (.lst (rs.map zu)),.own (ts'.map zu),v3,v4]∧ts'.Perm (rs.take (i+1))∧ts'.Pairwise (fun a b=>wo k n a≤wo k n b):=fun z=>by
   refine ⟨ts.take j++r::ts.drop j,_,_,rfl,?_,oQ hj hso hb z⟩
   rw [List.take_succ,hr2]
   refine List.perm_middle.trans ?_
   rw [List.take_append_drop]
   exact (List.Perm.cons r hpm).trans (List.perm_append_singleton r (rs.take i)).symm
  have em:(ts.map zu).take j++zu r::(ts.map zu).drop j=(ts.take j++r::ts.drop j).map zu:=by rw [List.map_append,List.map_cons,List.map_take,List.map_drop]
  refine ⟨_,rfl,_,rfl,_,_,rfl,rfl,_,rfl,?_⟩
  by_cases hlt:j<ts.length
  ·refine ifT (decide_eq_true (by rw [lts]; omega)) ?_
   have hat:atI (ts.map zu) (j:Int)=some (zu ts[j]):=wO (by rw [List.getElem?_map,List.getElem?_eq_getElem hlt]; rfl)
   obtain ⟨hLt,llt⟩:=hts ts[j] (List.getElem_mem hlt)
   refine ⟨_,rfl,_,rfl,_,rfl,_,_,rfl,hat,_,rfl,k,n,ts[j],r,rfl,hp,hn,hLt,hLr,by omega,by omega,_,_,rfl,rfl,_,rfl,?_⟩
   rw [i8]
   refine ifB (fun h=>?_) (fun h=>?_)
   ·have h:=of_decide_eq_true h
    refine ⟨_,rfl,_,_,rfl,rfl,ts.length - (j+1),by omega,j+1,rfl,rfl,hlt,fun t ht=>?_⟩
    rw [List.take_succ,List.getElem?_eq_getElem hlt] at ht
    rcases List.mem_append.mp ht with z | z
    ·exact hb t z
    ·rw [List.mem_singleton.mp z]; exact h
   ·have h:=of_decide_eq_false h
    refine ⟨_,rfl,_,rfl,_,rfl,_,rfl,by omega,by rw [lts]; omega,by omega,?_⟩
    rw [Int.toNat_natCast,em]
    exact done fun _=>by omega
  ·refine ifF (decide_eq_false (by rw [lts]; omega)) (ifF rfl ?_)
   refine ⟨_,rfl,_,rfl,_,rfl,_,rfl,by omega,by rw [lts]; omega,by omega,?_⟩
   rw [Int.toNat_natCast,em]
   exact done fun z=>absurd z hlt
 ·rintro ρ' ⟨ts,v3,v4,rfl,hpm,hso⟩
  rw [List.length_map,List.take_length] at hpm
  exact ⟨_,rfl,q ts hpm hso⟩
abbrev uy:Stmt:=top 65
theorem sc_law:zh ["_law_script","_law_cell","_law_own","_law_other","_law_way_here","_law_beside","_law_rows","_law_numbers","_law_turned","_law_row_here","_law_back","_law_at","_law_due","_law_found"] ["_law_script"] (defScope uy):=by walk_at "sc"
theorem bR (T:Txt K mg A) (G__law_cell_at:DOk P w K mg base 1 "_law_cell_at" (iR)) (G__law_way:DOk P w K mg base 1 "_law_way" (mC)) (G_way_read:DOk P w K mg base 6 "way_read" (mB A)) (G__law_row:FOk P w K mg base 3 "_law_row" (iP)) (G__law_worth:DOk P w K mg base 2 "_law_worth" (ol)) (G_moved:FOk P w K mg base 8 "moved" (iO A)) (G__law_sign:DOk P w K mg base 1 "_law_sign" (iM)) (G__law_held:DOk P w K mg base 6 "_law_held" (mH A)) (G__law_sorted:FOk P w K mg base 6 "_law_sorted" (mG A)) (F:Fun K "law" "law" uy f fd):FnOk P w K mg base CX0 9 f fd ["_law_script"] (zo K (mI)):=by
 refine okD F sc_law (by walk_at "ln") fun _ _ _ _ _ _ hr ds Q h=>?_
 obtain ⟨ns,rfl,hns,q⟩:=h
 refine ⟨_,(zd (zm (i:=1) sc_law.nd rfl (Or.inl rfl) (zi yd (zj G__law_cell_at (hr.mono (by decide)) rfl (za (dv 0) (za zc zf))) (zi cG zc zc)))
 (zd (zm (i:=2) sc_law.nd rfl (Or.inr rfl) (zj G__law_way (hr.mono (by decide)) rfl (za (zi zJ (zi zZ (zi yL (dv 1) zc) zc) (zi yd (dv 1) zc)) zf)))
 (zd (zm (i:=3) sc_law.nd rfl (Or.inl rfl) (zq (xw (za (zW (za zA (za (zi zJ zc (zi yd (zi yL (dv 1) zc) zc)) zf))) (za (zW (za zA (za (zi zJ zc (zi yd (zi yL (dv 1) zc) zc)) zf))) zf))) (zi yd (zi yL (dv 1) zc) zc) (fun _ _=>rfl)))
 (zd (zm (i:=4) sc_law.nd rfl (Or.inl rfl) (zj G_way_read (hr.mono (by decide)) rfl (za (zi kW (zq (dv 2) zc (fun _ _=>rfl)) (mj rfl T.n_str (zq (dv 2) zc (fun _ _=>rfl)))) zf)))
 (zd (zm (i:=5) sc_law.nd rfl (Or.inl rfl) (zj G_way_read (hr.mono (by decide)) rfl (za (zi kW (zq (dv 3) zc (fun _ _=>rfl)) (mj rfl T.n_str (zq (dv 3) zc (fun _ _=>rfl)))) zf)))
 (zd (yj (i:=6) sc_law.nd rfl (Or.inl rfl) (xT zf))
 (zd (yj (i:=7) sc_law.nd rfl (Or.inl rfl) (xT zf))
 (zd (yj (i:=8) sc_law.nd rfl (Or.inl rfl) (xT zf))
 (zd (ur (j:=1) rfl sc_law.nd rfl (Or.inl rfl) PassesOwn.never (ik (dv 0) qt (qs zc)) (zd (zm (i:=9) sc_law.nd rfl (Or.inl rfl) (DF.de (XE (xV G__law_row (hr.mono (by decide)) rfl (za (dv 2) (za (zi yd (dv 1) (zi cG zc zc)) (za (dv 6) zf)))))))
 (zd (wu 6 (dv 9))
 (zd (wu 7 (zj G__law_worth (hr.mono (by decide)) rfl (za (dv 2) (za (dv 9) zf))))
 (zd (wu 8 (DF.de (xV G_moved (hr.mono (by decide)) rfl (za (dv 4) (za (DF.de (xU rfl T.n_list (dv 9))) (za (dv 5) zf))))))
 (ze (ur (j:=10) rfl sc_law.nd rfl (Or.inl rfl) PassesOwn.never (xw (za zc (za zc (za zc zf)))) (zd (zm (i:=11) sc_law.nd rfl (Or.inl rfl) (ip rfl rfl T.n_max (za zc (za (zi zR (zi zR (xW 6 rfl T.len) zc) (dv 10)) zf))))
 (zd (zm (i:=12) sc_law.nd rfl (Or.inl rfl) (zj G__law_sign (hr.mono (by decide)) rfl (za (ww 7 (dv 11) (fun _ _=>rfl)) (za (ww 7 (zX zc) (fun _ _=>rfl)) zf))))
 (ze (zz (DW.dt (vF (xv (zI (zj G__law_held (hr.mono (by decide)) rfl (za (dv 4) (za (ww 6 (dv 11) (fun _ _=>rfl)) (za (dv 9) (za (dv 12) zf))))))) (uo (xv (zI (zj G__law_held (hr.mono (by decide)) rfl (za (dv 5) (za (ww 8 (dv 11) (fun _ _=>rfl)) (za (ww 8 (zX zc) (fun _ _=>rfl)) (za (dv 12) zf)))))))))) (ze (zk xY)) zp)))))))))))
 (u8 6 (zd (Uo (qm (i:=13) (osc:=defScope uy) (N0:=["_law_script","_law_cell","_law_own","_law_other","_law_way_here","_law_beside","_law_rows","_law_numbers","_law_turned","_law_row_here","_law_back","_law_at","_law_due","_law_found"]) (bs:=["_law_row_here"]) (caps:=["_law_own"]) (js:=[2]) rfl (by decide +kernel) rfl rfl rfl sc_law.nd rfl (Or.inl rfl) (d7 (DF.de (xV G__law_sorted (hr.mono (by decide)) rfl (za (dv 4) (za (dv 6) zf))))) (fun _ _ _ _ _=>(yq (i:=0) (show List.Nodup [("_law_row_here":Str),("_law_own":Str)] by decide +kernel) rfl (Or.inl (lookup_relabel_local rfl)) (.inl rfl))) nY (fun _ _ _ _ _=>ir) (fun _ _ _ _ _=>(zj G__law_worth (hr.mono (by decide)) rfl (za (dv 1) (za (dv 0) zf))))))
 (u8 7 (ze (zk (xx (vc hr) (dv 13) (DF.de (lP rfl T.n_sorted (dv 7))) (zl _)))))))))))))))),?_⟩
 obtain ⟨cs,ec,lc,_⟩:=iB ns none (some 24)
 have l24:=XX (ns.map Dt.int)
 rw [ec,yb] at l24
 walk_at "rd"
 refine ⟨Int.le_refl _,fun c0=>?_⟩
 walk_at "rd"
 have y0:=Int.fmod_nonneg_of_pos (c0.fmod (10 ^ Int.toNat 40)) (show (0:Int)<5 by decide)
 have y1:=Int.fmod_lt_of_pos (c0.fmod (10 ^ Int.toNat 40)) (show (0:Int)<5 by decide)
 refine ⟨by rw [Int.fmod_eq_emod_of_nonneg _ (by decide)]; omega,fun k n hp hn=>?_⟩
 obtain ⟨k2,n2,h2,hn2,eat⟩:=UM (c0.fmod (10 ^ Int.toNat 40))
 have hp2:=c9 h2
 have ln:∀ k:Kd,k.nam.length≤8:=fun k=>by cases k <;> decide +kernel
 have ln1:=ln k
 have ln2:=ln k2
 have lw:(shw n).length≤4:=rC (k:=3) n (by decide) (dH hn)
 have lw2:(shw n2).length≤4:=rC (k:=3) n2 (by decide) (dH hn2)
 walk_at "rd"
 refine ⟨_,_,_,rfl,rfl,eat,?_⟩
 refine ⟨_,rfl,_,_,_,rfl,rfl,rfl,_,rfl,_,_,_,rfl,rfl,rfl,_,rfl,Nat.lt_of_le_of_lt (Nat.log2_le_self _) (Nat.lt_trans (dH hn) (by decide)),_,_,rfl,rfl,by show k.nam.length+(shw n).length≤_; omega,k,n,rfl,hn,?_⟩
 refine ⟨_,rfl,_,_,_,rfl,rfl,rfl,_,rfl,_,_,_,rfl,rfl,rfl,_,rfl,Nat.lt_of_le_of_lt (Nat.log2_le_self _) (Nat.lt_trans (dH hn2) (by decide)),_,_,rfl,rfl,by show k2.nam.length+(shw n2).length≤_; omega,k2,n2,rfl,hn2,?_⟩
 refine ⟨rfl,_,rfl,rfl,_,rfl,rfl,_,rfl,?_⟩
 refine ⟨_,rfl,_,rfl,_,rfl,?_⟩
 rw [ec]
 refine ⟨_,fun i ρ=>∃ (rs us:List (List Int)) (v1 v9 v10 v11 v12:Sl),ρ=[.some (.scr ns),v1,.some (xD k n),.some (xD k2 n2),.some (zM A k n),.some (zM A k2 n2),.own (rs.map zu),.own ((rs.map (wo k n)).map Dt.int),.own (us.map zu),v9,v10,v11,v12,.none]∧rs.length=i∧us.length=i∧(∀ r∈rs,zD k n r∧r.length≤20)∧(∀ u∈us,zD k2 n2 u∧u.length≤1000)∧us.map (wo k2 n2)=rs.map (wo k n),rfl,⟨[],[],_,_,_,_,_,rfl,rfl,rfl,fun r h=>(nomatch h),fun r h=>(nomatch h),rfl⟩,?_,?_⟩
 ·rintro i e ρ' he ⟨rs,us,v1,v9,v10,v11,v12,rfl,lrs,lus,hrs,hus,hwo⟩
  rw [List.getElem?_map] at he
  obtain ⟨z,hz,rfl⟩:=Option.map_eq_some_iff.mp he
  have hi:i<cs.length:=(List.getElem?_eq_some_iff.mp hz).1
  walk_at "rd"
  refine ⟨k,n,z.fmod (10 ^ Int.toNat 40),rs,rfl,hp,hn,Int.fmod_nonneg_of_pos _ (by decide),hrs,fun r hLr hlr=>⟨⟨_,rfl,m9 r⟩,?_⟩⟩
  refine ⟨_,rfl,_,rfl,by rw [List.length_map]; omega,?_⟩
  refine ⟨_,rfl,_,rfl,_,rfl,k,n,r,rfl,hp,hn,hlr,uh hn hLr.fig (by omega),by rw [List.length_map,List.length_map]; omega,?_⟩
  refine ⟨_,rfl,_,rfl,_,rfl,_,rfl,_,rfl,k,n,r,k2,n2,rfl,hp,hn,h2,hn2,hLr,hlr,fun u hLu hwu hlu=>⟨by rw [List.length_map]; omega,?_⟩⟩
  obtain ⟨R,hR⟩:∃ R,rs++[r]=R:=⟨_,rfl⟩
  obtain ⟨U,hU⟩:∃ U,us++[u]=U:=⟨_,rfl⟩
  have m6:rs.map zu++[zu r]=R.map zu:=by rw [← hR,List.map_append]; rfl
  have m7:(rs.map (wo k n)).map Dt.int++[.int (wo k n r)]=(R.map (wo k n)).map Dt.int:=by rw [← hR,List.map_append,List.map_append]; rfl
  have m8:us.map zu++[zu u]=U.map zu:=by rw [← hU,List.map_append]; rfl
  have lR:R.length=i+1:=by rw [← hR,List.length_append,lrs]; rfl
  have lU:U.length=i+1:=by rw [← hU,List.length_append,lus]; rfl
  have hRs:∀ x∈R,zD k n x∧x.length≤20:=fun x hx=>by
   rw [← hR] at hx
   rcases List.mem_append.mp hx with h | h
   ·exact hrs x h
   ·rw [List.mem_singleton.mp h]; exact ⟨hLr,hlr⟩
  have hUs:∀ x∈U,zD k2 n2 x∧x.length≤1000:=fun x hx=>by
   rw [← hU] at hx
   rcases List.mem_append.mp hx with h | h
   ·exact hus x h
   ·rw [List.mem_singleton.mp h]; exact ⟨hLu,hlu⟩
  have hW:U.map (wo k2 n2)=R.map (wo k n):=by
   rw [← hR,← hU,List.map_append,List.map_append,hwo]
   show _++[wo k2 n2 u]=_++[wo k n r]
   rw [hwu]
  have l6:(R.map zu).length=i+1:=by rw [List.length_map]; exact lR
  refine ⟨rfl,_,fun b ρ=>∃ w10 w11 w12,ρ=[.some (.scr ns),.some (.int z),.some (xD k n),.some (xD k2 n2),.some (zM A k n),.some (zM A k2 n2),.own (R.map zu),.own ((R.map (wo k n)).map Dt.int),.own (U.map zu),.some (zu r),w10,w11,w12,.none],rfl,⟨v10,v11,v12,by rw [← m6,← m7,← m8]; rfl⟩,?_,?_⟩
  ·rintro b e ρ' he2 ⟨w10,w11,w12,rfl⟩
   obtain ⟨bk,hbk,rfl⟩:∃ bk:Int,0≤bk∧e=.int bk:=by
    have hm:=List.mem_of_getElem? he2
    simp only [List.mem_cons,List.not_mem_nil,or_false] at hm
    rcases hm with rfl | rfl | rfl
    ·exact ⟨0,by decide,rfl⟩
    ·exact ⟨1,by decide,rfl⟩
    ·exact ⟨12,by decide,rfl⟩
   obtain ⟨p,hp6,ea⟩:∃ p:Nat,p<i+1∧(if ((R.map zu).length:Int) - 1 - bk>0 then ((R.map zu).length:Int) - 1 - bk else 0)=(p:Int):=by
    split
    ·exact ⟨(((R.map zu).length:Int) - 1 - bk).toNat,by omega,by omega⟩
    ·exact ⟨0,by omega,rfl⟩
   refine ⟨_,rfl,_,_,rfl,rfl,_,rfl,_,_,rfl,rfl,_,_,rfl,?_⟩
   rw [ea]
   have hpR:p<R.length:=by omega
   have hpU:p<U.length:=by omega
   have a7:atI ((R.map (wo k n)).map Dt.int) (p:Int)=some (.int (wo k n R[p])):=wO (by rw [List.getElem?_map,List.getElem?_map,List.getElem?_eq_getElem hpR]; rfl)
   have z7:atI ((R.map (wo k n)).map Dt.int) (-1)=some (.int (wo k n r)):=by rw [← hR,List.map_append]; exact xf
   have z8:atI (U.map zu) (-1)=some (zu u):=by rw [← hU]; exact tT
   have q1:=hRs _ (List.getElem_mem hpR)
   have q2:=hUs _ (List.getElem_mem hpU)
   refine ⟨_,rfl,_,rfl,_,_,rfl,a7,_,rfl,_,rfl,_,_,rfl,z7,_,_,rfl,?_⟩
   refine ⟨_,rfl,_,rfl,_,rfl,_,_,rfl,kx hpR,_,rfl,_,rfl,k,n,R[p],r,rfl,hp,hn,q1.1,hLr,by omega,by omega,_,rfl,ifF rfl ?_⟩
   have eU:wo k2 n2 U[p]=wo k n R[p]:=by
    have:=congrArg (fun l:List Int=>l[p]?) hW
    simp only [List.getElem?_map,List.getElem?_eq_getElem hpR,List.getElem?_eq_getElem hpU] at this
    exact Option.some.inj this
   exact ⟨_,rfl,_,rfl,_,rfl,_,_,rfl,kx hpU,_,rfl,_,rfl,_,_,rfl,z8,_,rfl,k2,n2,U[p],u,by rw [eU,hwu],hp2,hn2,q2.1,hLu,by omega,by omega,_,rfl,ifF rfl ⟨_,_,_,rfl⟩⟩
  ·rintro ρ' ⟨w10,w11,w12,rfl⟩
   exact ⟨R,U,_,_,_,_,_,rfl,lR,lU,hRs,hUs,hW⟩
 ·rintro ρ' ⟨rs,us,v1,v9,v10,v11,v12,rfl,lrs,lus,hrs,hus,hwo⟩
  rw [yb] at lrs
  refine ⟨_,rfl,?_⟩
  refine ⟨_,rfl,_,rfl,k,n,rs,rfl,hp,hn,by omega,hrs,fun ts hpm hso=>?_⟩
  have hts:∀ t∈ts,zD k n t∧t.length≤20:=fun t ht=>hrs t (hpm.mem_iff.mp ht)
  refine ⟨_,fun i es=>es=((ts.take i).map (wo k n)).map Dt.int,rfl,by rw [List.length_map,hpm.length_eq]; omega,rfl,?_,?_⟩
  ·rintro i e es he rfl
   have he:(ts.map zu)[i]? = some e:=he
   rw [List.getElem?_map] at he
   obtain ⟨t,ht,rfl⟩:=Option.map_eq_some_iff.mp he
   obtain ⟨hLt,llt⟩:=hts t (List.mem_of_getElem? ht)
   refine ⟨_,rfl,_,rfl,k,n,t,rfl,hp,hn,llt,uh hn hLt.fig (by omega),?_⟩
   show _++[_]=(((ts.take (i+1)).map (wo k n)).map Dt.int)
   rw [List.take_succ,ht,List.map_append,List.map_append]
   rfl
  ·rintro es rfl
   rw [List.length_map,List.take_length]
   refine ⟨_,rfl,?_⟩
   refine ⟨_,rfl,_,rfl,rs.map (wo k n),rfl,by rw [List.length_map]; omega,fun ms hpm2 hso2=>?_⟩
   have e:ts.map (wo k n)=ms:=pb ((hpm.map (wo k n)).trans hpm2.symm) (List.pairwise_map.mpr hso) hso2
   rw [e]
   refine ⟨vt _,vt _,?_⟩
   rw [show eqD (.lst (ms.map Dt.int)) (.lst (ms.map Dt.int))=true from jY 40 (vt ms)]
   exact q
end
def BA (n q:Str) (st:Stmt) (ps:List Str) (us:List Value):Prop:=∀ (kV doc pm:Value) (an:Option Addr) (cdv ct:Value),bindArgs (PySem.W.fnOf n q (defArgs st) (defBody st) (defScope st) .none kV doc pm an cdv ct) ⟨us,[]⟩=pure (ps.zip us)
def BZ (n q:Str) (st:Stmt) (ps:List Str):Prop:=∀ us:List Value,us.length=ps.length→BA n q st ps us
theorem bz1 {n q:Str} {st:Stmt} {ps:List Str} (hl:ps.length=1) (h:∀ u0:Value,BA n q st ps [u0]):BZ n q st ps:=fun us e=>match us,e.trans hl with | [_],_=>h _
theorem bz2 {n q:Str} {st:Stmt} {ps:List Str} (hl:ps.length=2) (h:∀ u0 u1:Value,BA n q st ps [u0,u1]):BZ n q st ps:=fun us e=>match us,e.trans hl with | [_,_],_=>h _ _
theorem bz3 {n q:Str} {st:Stmt} {ps:List Str} (hl:ps.length=3) (h:∀ u0 u1 u2:Value,BA n q st ps [u0,u1,u2]):BZ n q st ps:=fun us e=>match us,e.trans hl with | [_,_,_],_=>h _ _ _
theorem bz4 {n q:Str} {st:Stmt} {ps:List Str} (hl:ps.length=4) (h:∀ u0 u1 u2 u3:Value,BA n q st ps [u0,u1,u2,u3]):BZ n q st ps:=fun us e=>match us,e.trans hl with | [_,_,_,_],_=>h _ _ _ _
section
variable (K:PySem.W.Frag)
def FX (n q:Str) (st:Stmt) (f:Addr):Prop:=∃ oc od kV dc pm an cd ct sl,K.lookup f=some ⟨oc,od,.func (PySem.W.fnOf n q (defArgs st) (defBody st) (defScope st) .none kV dc pm an cd ct),sl⟩∧PySem.W.codeIn K cd q=true∧PySem.W.keepIn K (.ref f)=true
def FD (n:Str) (st:Stmt) (f:Addr):Prop:=PySem.W.nsIn K mainGlobals n=some (some (.ref f))∧FX K n n st f
def FE (g n:Str) (st:Stmt) (f:Addr):Prop:=PySem.W.nsIn K mainGlobals g=some (some (.ref f))∧FX K n n st f
def FM (n q:Str) (st:Stmt) (f:Addr):Prop:=PySem.W.isFn K (.ref f)=true∧FX K n q st f
def Fi (C:Addr) (n:Str) (f:Addr):Prop:=PySem.W.findIn K (.ref C) n=some (some (.ref f))
def Ki (C D:Addr) (b:Bool):Prop:=PySem.W.kitOne K (.ref C) (.ref D)=some b
def Gc (n:Str) (C:Addr):Prop:=PySem.W.nsIn K mainGlobals n=some (some (.ref C))
def Gs (n y:Str) (t:Tok):Prop:=PySem.W.nsIn K mainGlobals n=some (some (.str y t))
def Zn (n:Str):Prop:=PySem.W.nsIn K mainGlobals n=some none
structure ClR (C:Addr) (x:Str):Prop where
 cls:Cls K C
 mks:PySem.W.makesIn K C=true
 kc:PySem.W.keepIn K (.ref C)=true
 na:PySem.W.findIn K (.ref C) x=some none
structure IR (C:Addr):Prop where
 ia:PySem.W.findIn K (.ref C) "__class__"=some (some (.builtin "object.__class__"))
 im:PySem.W.mroIn K C (.type "object")=some true
variable {K} {n q:Str} {st:Stmt} {f:Addr}
theorem FX.mk {oc od kV dc pm an cd ct sl} (l:K.lookup f=some ⟨oc,od,.func (PySem.W.fnOf n q (defArgs st) (defBody st) (defScope st) .none kV dc pm an cd ct),sl⟩) (c:PySem.W.codeIn K cd q=true) (k:PySem.W.keepIn K (.ref f)=true):FX K n q st f:=⟨_,_,_,_,_,_,_,_,_,l,c,k⟩
theorem FX.get (r:FX K n q st f) (ps:List Str) (h:BZ n q st ps):∃ fd,Fun K n q st f fd∧Binds K fd ps []:=
 let ⟨_,_,_,_,_,_,_,_,_,l,c,k⟩:=r; ⟨_,nr l c k,(nr l c k).binds fun a b c d e f us z=>h us z a b c d e f⟩
theorem FD.get (r:FD K n st f) {h:Heap} {mg:Str→Option Value} (X:K.In h) (G:h.Ns mainGlobals mg) (ps:List Str) (h:BZ n n st ps):∃ fd,mg n=some (.ref f)∧Fun K n n st f fd∧Binds K fd ps []:=
 let ⟨fd,F,b⟩:=r.2.get ps h; ⟨fd,PySem.W.mg_of X G r.1,F,b⟩
theorem FE.get {g:Str} (r:FE K g n st f) {h:Heap} {mg:Str→Option Value} (X:K.In h) (G:h.Ns mainGlobals mg) (ps:List Str) (h:BZ n n st ps):∃ fd,mg g=some (.ref f)∧Fun K n n st f fd∧Binds K fd ps []:=
 let ⟨fd,F,b⟩:=r.2.get ps h; ⟨fd,PySem.W.mg_of X G r.1,F,b⟩
theorem mkr (l:PySem.W.OpenLaw) (w:World) (base:Heap) {mg:Str→Option Value} {C:Addr} {k:Nat} {fd:FuncData} {ps:List Str} {S:DSp} (c:Cls K C) (a:Fi K C n f) (r:FM K n q st f) (F:Fun K n q st f fd) (b:Binds K fd ps []) (o:FnOk l.prog w K mg base CX0 k f fd ps (zo K S)):MOk l.prog w K mg base k C n S:=.mk c ⟨_,_,_,⟨a,r.1,F.kp⟩,b,o⟩
theorem lJ (l:PySem.W.OpenLaw) (w:World) (base:Heap) {mg:Str→Option Value} {C:Addr} {k:Nat} {fd:FuncData} {ps:List Str} {S:DSp} (c:Cls K C) (a:Fi K C n f) (r:FM K n q st f) (F:Fun K n q st f fd) (b:Binds K fd ps []) (o:FnOk l.prog w K mg base CX0 k f fd ps (z9 K S)):FMOk l.prog w K mg base k C n S:=.mk c ⟨_,_,_,⟨a,r.1,F.kp⟩,b,o⟩
theorem FM.get (r:FM K n q st f) (ps:List Str) (h:BZ n q st ps):∃ fd,Fun K n q st f fd∧Binds K fd ps []:=r.2.get ps h
end
theorem all_mk {l:PySem.W.OpenLaw} {w:World} {K:PySem.W.Frag} {h:Heap} {mg:Str→Option Value} {fa:Addr} (X:K.In h) (G:h.Ns mainGlobals mg) (hfa:mg "law"=some (.ref fa))
 {Ty Tu Tz TC Tw Tv Sr TN f1 f2 f3 f4 f5 f6 f7 f8 f9 f10 f11 f12 f13 f14 f15 f16 f17 f18 f19 f20 f21 f22 f23 f24 f25 f26 f27 f28 f29 f30 f31 f32 f33 f34 f35 f36 f37 f38 f39 f40 f41 f42 f43 f44 f45 f46 f47 f48 f49 f50 f51 f52 f53 f54 f55 f56 f57 f58 f59 f60 f61 f62 f63 f64 f65 f66:Addr} {t_FIGURES:Tok}
 (SM:Gc K "Plain" Ty)
 (Ss:Gc K "Below" Tu)
 (SN:Gc K "Balanced" Tz)
 (SO:Gc K "Growing" TC)
 (Su:Gc K "Falling" Tw)
 (Sv:Gc K "Pairs" Tv)
 (SQ:Gc K "NoWay" Sr)
 (SR:Gc K "NoText" TN)
 (r1:FD K "_law_cell_at" xm f1)
 (r2:FD K "_law_way" vU f2)
 (r3:FE K "has_figures_alone_texts" "has_figures_alone" zN f3)
 (r4:FD K "whole_read" xF f4)
 (r5:FD K "is_whole" w8 f5)
 (r6:FD K "bounded" vX f6)
 (SS:Fi K Ty "__init__" f7)
 (r7:FM K "__init__" "Plain.__init__" yP f7)
 (ST:Fi K Tu "__init__" f8)
 (r8:FM K "__init__" "Below.__init__" yR f8)
 (SU:Fi K Tz "__init__" f9)
 (r9:FM K "__init__" "Balanced.__init__" yh f9)
 (SV:Fi K TC "__init__" f10)
 (r10:FM K "__init__" "Growing.__init__" yn f10)
 (SW:Fi K Tw "__init__" f11)
 (r11:FM K "__init__" "Falling.__init__" yp f11)
 (SY:Fi K Tv "__init__" f12)
 (r12:FM K "__init__" "Pairs.__init__" yQ f12)
 (r13:FD K "way_made" wV f13)
 (r14:FD K "way_read" wU f14)
 (r15:FD K "_law_low" vV f15)
 (r16:FD K "_law_high" wY f16)
 (r17:FD K "_law_drawn" wa f17)
 (r18:FD K "_law_is_writing" yA f18)
 (r19:FD K "_law_row" wE f19)
 (r20:FD K "_law_falling_worth" ye f20)
 (r21:FD K "_law_worth" x_ f21)
 (r22:FD K "has_mosts_above_noughts_alone" zC f22)
 (SZ:Fi K Ty "low" f23)
 (S0:Fi K Tu "low" f23)
 (S1:Fi K TC "low" f23)
 (S2:Fi K Tw "low" f23)
 (S3:Fi K Tv "low" f23)
 (r23:FM K "low" "Way.low" vZ f23)
 (S4:Fi K Tz "low" f24)
 (r24:FM K "low" "Balanced.low" y4 f24)
 (S5:Fi K Ty "high" f25)
 (r25:FM K "high" "Plain.high" xK f25)
 (S6:Fi K Tu "high" f26)
 (r26:FM K "high" "Below.high" xM f26)
 (S7:Fi K Tz "high" f27)
 (r27:FM K "high" "Balanced.high" yK f27)
 (S8:Fi K TC "high" f28)
 (r28:FM K "high" "Growing.high" y2 f28)
 (S9:Fi K Tw "high" f29)
 (r29:FM K "high" "Falling.high" y3 f29)
 (Ra:Fi K Tv "high" f30)
 (r30:FM K "high" "Pairs.high" xL f30)
 (r31:FE K "has_figures_alone_writings" "has_figures_alone" zG f31)
 (r32:FD K "is_writing" xI f32)
 (r33:FD K "held_to_be_writings" z4 f33)
 (r34:FD K "trimmed" vR f34)
 (r35:FD K "as_pair" vY f35)
 (r36:FD K "added" rL f36)
 (r37:FD K "thing_at" wW f37)
 (Rb:Fi K Ty "nought" f38)
 (Rc:Fi K Tu "nought" f38)
 (Re:Fi K Tz "nought" f38)
 (Rf:Fi K TC "nought" f38)
 (Rg:Fi K Tw "nought" f38)
 (r38:FM K "nought" "Way.nought" xJ f38)
 (Rh:Fi K Tv "nought" f39)
 (r39:FM K "nought" "Pairs.nought" yZ f39)
 (Ri:Fi K Ty "has" f40)
 (Rj:Fi K TC "has" f40)
 (Rk:Fi K Tw "has" f40)
 (r40:FM K "has" "Way.has" ua f40)
 (Rm:Fi K Tu "has" f41)
 (r41:FM K "has" "Below.has" wg f41)
 (Rn:Fi K Tz "has" f42)
 (r42:FM K "has" "Balanced.has" y6 f42)
 (r43:FD K "is_pair" vW f43)
 (Ro:Fi K Tv "has" f44)
 (r44:FM K "has" "Pairs.has" wd f44)
 (Rp:Fi K Ty "ratio" f45)
 (r45:FM K "ratio" "Plain.ratio" xo f45)
 (Rq:Fi K Tu "ratio" f46)
 (r46:FM K "ratio" "Below.ratio" xr f46)
 (Rr:Fi K Tz "ratio" f47)
 (r47:FM K "ratio" "Balanced.ratio" yB f47)
 (Rs:Fi K TC "ratio" f48)
 (r48:FM K "ratio" "Growing.ratio" yJ f48)
 (Rt:Fi K Tv "ratio" f49)
 (r49:FM K "ratio" "Pairs.ratio" xq f49)
 (Ru:Fi K Ty "split" f50)
 (Rv:Fi K Tu "split" f50)
 (Rw:Fi K Tz "split" f50)
 (Rx:Fi K TC "split" f50)
 (r50:FM K "split" "Way.split" wc f50)
 (r51:FD K "multiplied" xG f51)
 (Ry:Fi K Tv "split" f52)
 (r52:FM K "split" "Pairs.split" xp f52)
 (r53:FD K "figures_and_carries" z5 f53)
 (r54:FD K "settled" vS f54)
 (r55:FD K "written" vQ f55)
 (r56:FD K "as_wanted" wb f56)
 (RA:Fi K Ty "weights" f57)
 (RB:Fi K Tu "weights" f57)
 (RC:Fi K Tz "weights" f57)
 (RD:Fi K TC "weights" f57)
 (RE:Fi K Tv "weights" f57)
 (r57:FM K "weights" "Way.weights" xn f57)
 (RF:Fi K Tw "weights" f58)
 (r58:FM K "weights" "Falling.weights" yo f58)
 (r59:FD K "worth" rH f59)
 (r60:FD K "moved" rK f60)
 (r61:FD K "_law_sign" wX f61)
 (r62:FD K "parting" vT f62)
 (r63:FD K "order" rJ f63)
 (r64:FD K "_law_held" wZ f64)
 (r65:FD K "_law_sorted" xH f65)
 (r66:FD K "law" uy f66)
 (TQ:ClR K Ty "base")
 (TR:ClR K Tu "base")
 (TU:ClR K Tz "half")
 (TV:ClR K TC "first")
 (TW:ClR K Tw "most")
 (TX:ClR K Tv "most")
 (Sw:IR K Ty)
 (TZ:Ki K Ty Tw false)
 (T0:Ki K Ty Tv false)
 (T3:Ki K Ty Tu false)
 (Sx:IR K Tu)
 (T4:Ki K Tu Tw false)
 (T5:Ki K Tu Tv false)
 (T6:Ki K Tu Tu true)
 (Sy:IR K Tz)
 (T7:Ki K Tz Tw false)
 (T8:Ki K Tz Tv false)
 (T9:Ki K Tz Tu false)
 (Sz:IR K TC)
 (T_:Ki K TC Tw false)
 (Sa:Ki K TC Tv false)
 (Sb:Ki K TC Tu false)
 (SA:IR K Tw)
 (Sc:Ki K Tw Tw true)
 (Sd:Ki K Tw Tv false)
 (Se:Ki K Tw Tu false)
 (SB:IR K Tv)
 (Sf:Ki K Tv Tw false)
 (Sg:Ki K Tv Tv true)
 (Sh:Ki K Tv Tu false)
 (in_:PySem.W.specialIn K (.builtin "object.__class__") "__get__"=some (some (.builtin "getset_descriptor.__get__")))
 (it_:PySem.W.takesIn K (.builtin "object.__class__")=some true)
 (TY:ExcK K TN)
 (Sm:cY K TN)
 (Sn:PySem.W.exmOne K (.ref TN) (.ref Sr)=some false)
 (So:Ki K TN Sr false)
 (Sq:Ki K TN TN true)
 (g_FIGURES:Gs K "FIGURES" "0123456789" t_FIGURES)
 (z_isinstance:Zn K "isinstance")
 (z_int:Zn K "int")
 (z_bool:Zn K "bool")
 (z_tuple:Zn K "tuple")
 (z_list:Zn K "list")
 (z_len:Zn K "len")
 (z_range:Zn K "range")
 (z_zip:Zn K "zip")
 (z_enumerate:Zn K "enumerate")
 (z_reversed:Zn K "reversed")
 (z_max:Zn K "max")
 (z_str:Zn K "str")
 (z_sorted:Zn K "sorted"):
 ∃ fd:FuncData,(∀ (s:Shared) (v:Value),BindsTo s fd ⟨[v],[]⟩ [("_law_script",v)])∧∀ base:Heap,K.In base→base.Ns mainGlobals mg→FnOk l.prog w K mg base CX0 9 fa fd ["_law_script"] (zo K (mI)):=by
 have mn {n:Str} (z:Zn K n):=PySem.W.mg_none_of X G z
 have mo {n:Str} {C:Addr} (z:Gc K n C):=PySem.W.mg_of X G z
 let A:Adr:=⟨Ty,Tu,Tz,TC,Tw,Tv,Sr,TN⟩
 have T:Txt K mg A:=⟨UV K,mn z_isinstance,mn z_int,mn z_bool,mn z_tuple,mn z_list,mn z_len,mn z_range,mn z_zip,mn z_enumerate,mn z_reversed,mn z_max,mn z_str,mn z_sorted,⟨_,PySem.W.mg_of X G g_FIGURES⟩,TQ.cls,TQ.na,TR.cls,TR.na,TU.cls,TU.na,TV.cls,TV.na,TW.cls,TW.na,TX.cls,TX.na,mo Su,mo Sv,mo Ss,⟨TQ.cls,Sw.1,in_,it_,Sw.2⟩,TZ,T0,T3,⟨TR.cls,Sx.1,in_,it_,Sx.2⟩,T4,T5,T6,⟨TU.cls,Sy.1,in_,it_,Sy.2⟩,T7,T8,T9,⟨TV.cls,Sz.1,in_,it_,Sz.2⟩,T_,Sa,Sb,⟨TW.cls,SA.1,in_,it_,SA.2⟩,Sc,Sd,Se,⟨TX.cls,SB.1,in_,it_,SB.2⟩,Sf,Sg,Sh,mo SQ,mo SR,TY,Sm,Sn,So,Sq⟩
 obtain ⟨_,m1,F1,b1⟩:=r1.get X G ["_law_script","_law_k"] (bz2 rfl fun _ _ _ _ _ _ _ _=>rfl)
 obtain ⟨_,m2,F2,b2⟩:=r2.get X G ["_law_cell"] (bz1 rfl fun _ _ _ _ _ _ _=>rfl)
 obtain ⟨_,m3,F3,b3⟩:=r3.get X G ["text"] (bz1 rfl fun _ _ _ _ _ _ _=>rfl)
 obtain ⟨_,m4,F4,b4⟩:=r4.get X G ["text"] (bz1 rfl fun _ _ _ _ _ _ _=>rfl)
 obtain ⟨_,m5,F5,b5⟩:=r5.get X G ["value"] (bz1 rfl fun _ _ _ _ _ _ _=>rfl)
 obtain ⟨_,m6,F6,b6⟩:=r6.get X G ["number","least","most"] (bz3 rfl fun _ _ _ _ _ _ _ _ _=>rfl)
 obtain ⟨_,F7,b7⟩:=r7.get ["self","base"] (bz2 rfl fun _ _ _ _ _ _ _ _=>rfl)
 obtain ⟨_,F8,b8⟩:=r8.get ["self","base"] (bz2 rfl fun _ _ _ _ _ _ _ _=>rfl)
 obtain ⟨_,F9,b9⟩:=r9.get ["self","half"] (bz2 rfl fun _ _ _ _ _ _ _ _=>rfl)
 obtain ⟨_,F10,b10⟩:=r10.get ["self","first"] (bz2 rfl fun _ _ _ _ _ _ _ _=>rfl)
 obtain ⟨_,F11,b11⟩:=r11.get ["self","most"] (bz2 rfl fun _ _ _ _ _ _ _ _=>rfl)
 obtain ⟨_,F12,b12⟩:=r12.get ["self","most"] (bz2 rfl fun _ _ _ _ _ _ _ _=>rfl)
 obtain ⟨_,m13,F13,b13⟩:=r13.get X G ["name","number"] (bz2 rfl fun _ _ _ _ _ _ _ _=>rfl)
 obtain ⟨_,m14,F14,b14⟩:=r14.get X G ["text"] (bz1 rfl fun _ _ _ _ _ _ _=>rfl)
 obtain ⟨_,m15,F15,b15⟩:=r15.get X G ["_law_way_here"] (bz1 rfl fun _ _ _ _ _ _ _=>rfl)
 obtain ⟨_,m16,F16,b16⟩:=r16.get X G ["_law_way_here","_law_place"] (bz2 rfl fun _ _ _ _ _ _ _ _=>rfl)
 obtain ⟨_,m17,F17,b17⟩:=r17.get X G ["_law_way_here","_law_cells"] (bz2 rfl fun _ _ _ _ _ _ _ _=>rfl)
 obtain ⟨_,m18,F18,b18⟩:=r18.get X G ["_law_way_here","_law_row_here"] (bz2 rfl fun _ _ _ _ _ _ _ _=>rfl)
 obtain ⟨_,m19,F19,b19⟩:=r19.get X G ["_law_own","_law_cell","_law_rows"] (bz3 rfl fun _ _ _ _ _ _ _ _ _=>rfl)
 obtain ⟨_,m20,F20,b20⟩:=r20.get X G ["_law_most","_law_row_here"] (bz2 rfl fun _ _ _ _ _ _ _ _=>rfl)
 obtain ⟨_,m21,F21,b21⟩:=r21.get X G ["_law_way_here","_law_row_here"] (bz2 rfl fun _ _ _ _ _ _ _ _=>rfl)
 obtain ⟨_,m22,F22,b22⟩:=r22.get X G ["way","row"] (bz2 rfl fun _ _ _ _ _ _ _ _=>rfl)
 obtain ⟨_,F23,b23⟩:=r23.get ["self","place"] (bz2 rfl fun _ _ _ _ _ _ _ _=>rfl)
 obtain ⟨_,F24,b24⟩:=r24.get ["self","place"] (bz2 rfl fun _ _ _ _ _ _ _ _=>rfl)
 obtain ⟨_,F25,b25⟩:=r25.get ["self","place"] (bz2 rfl fun _ _ _ _ _ _ _ _=>rfl)
 obtain ⟨_,F26,b26⟩:=r26.get ["self","place"] (bz2 rfl fun _ _ _ _ _ _ _ _=>rfl)
 obtain ⟨_,F27,b27⟩:=r27.get ["self","place"] (bz2 rfl fun _ _ _ _ _ _ _ _=>rfl)
 obtain ⟨_,F28,b28⟩:=r28.get ["self","place"] (bz2 rfl fun _ _ _ _ _ _ _ _=>rfl)
 obtain ⟨_,F29,b29⟩:=r29.get ["self","place"] (bz2 rfl fun _ _ _ _ _ _ _ _=>rfl)
 obtain ⟨_,F30,b30⟩:=r30.get ["self","place"] (bz2 rfl fun _ _ _ _ _ _ _ _=>rfl)
 obtain ⟨_,m31,F31,b31⟩:=r31.get X G ["way","row"] (bz2 rfl fun _ _ _ _ _ _ _ _=>rfl)
 obtain ⟨_,m32,F32,b32⟩:=r32.get X G ["way","row"] (bz2 rfl fun _ _ _ _ _ _ _ _=>rfl)
 obtain ⟨_,m33,F33,b33⟩:=r33.get X G ["way","rows"] (bz2 rfl fun _ _ _ _ _ _ _ _=>rfl)
 obtain ⟨_,m34,F34,b34⟩:=r34.get X G ["row"] (bz1 rfl fun _ _ _ _ _ _ _=>rfl)
 obtain ⟨_,m35,F35,b35⟩:=r35.get X G ["number"] (bz1 rfl fun _ _ _ _ _ _ _=>rfl)
 obtain ⟨_,m36,F36,b36⟩:=r36.get X G ["one","other"] (bz2 rfl fun _ _ _ _ _ _ _ _=>rfl)
 obtain ⟨_,m37,F37,b37⟩:=r37.get X G ["row","place"] (bz2 rfl fun _ _ _ _ _ _ _ _=>rfl)
 obtain ⟨_,F38,b38⟩:=r38.get ["self"] (bz1 rfl fun _ _ _ _ _ _ _=>rfl)
 obtain ⟨_,F39,b39⟩:=r39.get ["self"] (bz1 rfl fun _ _ _ _ _ _ _=>rfl)
 obtain ⟨_,F40,b40⟩:=r40.get ["self","number"] (bz2 rfl fun _ _ _ _ _ _ _ _=>rfl)
 obtain ⟨_,F41,b41⟩:=r41.get ["self","number"] (bz2 rfl fun _ _ _ _ _ _ _ _=>rfl)
 obtain ⟨_,F42,b42⟩:=r42.get ["self","number"] (bz2 rfl fun _ _ _ _ _ _ _ _=>rfl)
 obtain ⟨_,m43,F43,b43⟩:=r43.get X G ["value"] (bz1 rfl fun _ _ _ _ _ _ _=>rfl)
 obtain ⟨_,F44,b44⟩:=r44.get ["self","number"] (bz2 rfl fun _ _ _ _ _ _ _ _=>rfl)
 obtain ⟨_,F45,b45⟩:=r45.get ["self","place"] (bz2 rfl fun _ _ _ _ _ _ _ _=>rfl)
 obtain ⟨_,F46,b46⟩:=r46.get ["self","place"] (bz2 rfl fun _ _ _ _ _ _ _ _=>rfl)
 obtain ⟨_,F47,b47⟩:=r47.get ["self","place"] (bz2 rfl fun _ _ _ _ _ _ _ _=>rfl)
 obtain ⟨_,F48,b48⟩:=r48.get ["self","place"] (bz2 rfl fun _ _ _ _ _ _ _ _=>rfl)
 obtain ⟨_,F49,b49⟩:=r49.get ["self","place"] (bz2 rfl fun _ _ _ _ _ _ _ _=>rfl)
 obtain ⟨_,F50,b50⟩:=r50.get ["self","total","place"] (bz3 rfl fun _ _ _ _ _ _ _ _ _=>rfl)
 obtain ⟨_,m51,F51,b51⟩:=r51.get X G ["one","other"] (bz2 rfl fun _ _ _ _ _ _ _ _=>rfl)
 obtain ⟨_,F52,b52⟩:=r52.get ["self","total","place"] (bz3 rfl fun _ _ _ _ _ _ _ _ _=>rfl)
 obtain ⟨_,m53,F53,b53⟩:=r53.get X G ["way","totals"] (bz2 rfl fun _ _ _ _ _ _ _ _=>rfl)
 obtain ⟨_,m54,F54,b54⟩:=r54.get X G ["way","totals"] (bz2 rfl fun _ _ _ _ _ _ _ _=>rfl)
 obtain ⟨_,m55,F55,b55⟩:=r55.get X G ["way","number"] (bz2 rfl fun _ _ _ _ _ _ _ _=>rfl)
 obtain ⟨_,m56,F56,b56⟩:=r56.get X G ["way","number"] (bz2 rfl fun _ _ _ _ _ _ _ _=>rfl)
 obtain ⟨_,F57,b57⟩:=r57.get ["self","many"] (bz2 rfl fun _ _ _ _ _ _ _ _=>rfl)
 obtain ⟨_,F58,b58⟩:=r58.get ["self","many"] (bz2 rfl fun _ _ _ _ _ _ _ _=>rfl)
 obtain ⟨_,m59,F59,b59⟩:=r59.get X G ["way","row"] (bz2 rfl fun _ _ _ _ _ _ _ _=>rfl)
 obtain ⟨_,m60,F60,b60⟩:=r60.get X G ["way","row","other"] (bz3 rfl fun _ _ _ _ _ _ _ _ _=>rfl)
 obtain ⟨_,m61,F61,b61⟩:=r61.get X G ["_law_one","_law_other"] (bz2 rfl fun _ _ _ _ _ _ _ _=>rfl)
 obtain ⟨_,m62,F62,b62⟩:=r62.get X G ["one","other"] (bz2 rfl fun _ _ _ _ _ _ _ _=>rfl)
 obtain ⟨_,m63,F63,b63⟩:=r63.get X G ["way","one","other"] (bz3 rfl fun _ _ _ _ _ _ _ _ _=>rfl)
 obtain ⟨_,m64,F64,b64⟩:=r64.get X G ["_law_way_here","_law_one","_law_other","_law_due"] (bz4 rfl fun _ _ _ _ _ _ _ _ _ _=>rfl)
 obtain ⟨_,m65,F65,b65⟩:=r65.get X G ["_law_way_here","_law_rows"] (bz2 rfl fun _ _ _ _ _ _ _ _=>rfl)
 obtain ⟨a66,_,_,kV,dc,pm,an,cd,ct,_,l66,c66,k66⟩:=r66
 cases hfa.symm.trans (PySem.W.mg_of X G a66)
 have F66:=nr (st:=uy) l66 c66 k66
 refine ⟨PySem.W.fnOf "law" "law" (defArgs uy) (defBody uy) (defScope uy) .none kV dc pm an cd ct,fun s v=>.of_eq rfl,fun base _ _=>?_⟩
 have G__law_cell_at:=DOk.mk' F1 m1 b1 (tI (P:=l.prog) (w:=w) (base:=base) T F1)
 have G__law_way:=DOk.mk' F2 m2 b2 (oX (P:=l.prog) (w:=w) (base:=base) T F2)
 have G_has_figures_alone_texts:DOk l.prog w K mg base 1 "has_figures_alone_texts" (qI):=⟨_,_,_,m3,F3.kp,b3,y8 (P:=l.prog) (w:=w) (base:=base) T F3⟩
 have G_whole_read:=DOkX.mk' F4 m4 b4 (sD T G_has_figures_alone_texts F4)
 have G_is_whole:=DOk.mk' F5 m5 b5 (pK (P:=l.prog) (w:=w) (base:=base) T F5)
 have G_bounded:=DOk.mk' F6 m6 b6 (o3 T G_is_whole F6)
 have SG:KOk l.prog w K mg base 3 "Plain" A.Plain "base" (Kd.ok .plain):=⟨_,_,_,mo SM,⟨TQ.mks,SS,r7.1,TQ.kc⟩,b7,sI T G_bounded F7⟩
 have SH:KOk l.prog w K mg base 3 "Below" A.Below "base" (Kd.ok .below):=⟨_,_,_,mo Ss,⟨TR.mks,ST,r8.1,TR.kc⟩,b8,sM T G_bounded F8⟩
 have SI:KOk l.prog w K mg base 3 "Balanced" A.Balanced "half" (Kd.ok .balanced):=⟨_,_,_,mo SN,⟨TU.mks,SU,r9.1,TU.kc⟩,b9,ue T G_bounded F9⟩
 have SJ:KOk l.prog w K mg base 3 "Growing" A.Growing "first" (Kd.ok .growing):=⟨_,_,_,mo SO,⟨TV.mks,SV,r10.1,TV.kc⟩,b10,uQ T G_bounded F10⟩
 have SK:KOk l.prog w K mg base 3 "Falling" A.Falling "most" (Kd.ok .falling):=⟨_,_,_,mo Su,⟨TW.mks,SW,r11.1,TW.kc⟩,b11,uS T G_bounded F11⟩
 have SL:KOk l.prog w K mg base 3 "Pairs" A.Pairs "most" (Kd.ok .pairs):=⟨_,_,_,mo Sv,⟨TX.mks,SY,r12.1,TX.kc⟩,b12,sK T G_bounded F12⟩
 have G_way_made:=DOk.mk' F13 m13 b13 (pF T SG SH SI SJ SK SL F13)
 have G_way_read:=DOk.mk' F14 m14 b14 (pE T G_whole_read G_way_made F14)
 have G__law_low:=DOk.mk' F15 m15 b15 (oZ (P:=l.prog) (w:=w) (base:=base) T F15)
 have G__law_high:=DOk.mk' F16 m16 b16 (pI (P:=l.prog) (w:=w) (base:=base) T F16)
 have G__law_drawn:=FOk.mk' F17 m17 b17 (rR T G__law_low G__law_high F17)
 have G__law_is_writing:=DOk.mk' F18 m18 b18 (vp T G__law_low G__law_high F18)
 have G__law_row:=FOk.mk' F19 m19 b19 (oY T G__law_drawn G__law_low G__law_high G__law_is_writing F19)
 have G__law_falling_worth:=DOk.mk' F20 m20 b20 (wk (P:=l.prog) (w:=w) (base:=base) T F20)
 have G__law_worth:=DOk.mk' F21 m21 b21 (rQ T G__law_falling_worth F21)
 have G_has_mosts_above_noughts_alone:=DOk.mk' F22 m22 b22 (yr (P:=l.prog) (w:=w) (base:=base) T F22)
 have RP:=mkr l w base T.TF SZ r23 F23 b23 (y9 T F23)
 have RQ:=mkr l w base T.TH S0 r23 F23 b23 (y9 T F23)
 have RS:=mkr l w base T.TJ S1 r23 F23 b23 (y9 T F23)
 have RT:=mkr l w base T.TK S2 r23 F23 b23 (y9 T F23)
 have RU:=mkr l w base T.Tx S3 r23 F23 b23 (y9 T F23)
 have RV:=mkr l w base T.TD S4 r24 F24 b24 (uU T F24)
 have RW:=mkr l w base T.TF S5 r25 F25 b25 (sJ T F25)
 have RX:=mkr l w base T.TH S6 r26 F26 b26 (sN T F26)
 have RY:=mkr l w base T.TD S7 r27 F27 b27 (uf T F27)
 have RZ:=mkr l w base T.TJ S8 r28 F28 b28 (uR T F28)
 have R0:=mkr l w base T.TK S9 r29 F29 b29 (uT T F29)
 have R1:=mkr l w base T.Tx Ra r30 F30 b30 (sL T F30)
 have HLo:∀ k:Kd,MOk l.prog w K mg base 1 (A.at k) "low" (xz A k (k.low))∧MOk l.prog w K mg base 1 (A.at k) "high" (xz A k (k.high)):=fun k=>match k with
  | .plain=>⟨RP.imp fun ds Q ⟨n,p,e,_,q⟩=>⟨_,_,e,q⟩,RW⟩
  | .below=>⟨RQ.imp fun ds Q ⟨n,p,e,_,q⟩=>⟨_,_,e,q⟩,RX⟩
  | .balanced=>⟨RV,RY⟩
  | .growing=>⟨RS.imp fun ds Q ⟨n,p,e,_,q⟩=>⟨_,_,e,q⟩,RZ⟩
  | .falling=>⟨RT.imp fun ds Q ⟨n,p,e,_,q⟩=>⟨_,_,e,q⟩,R0⟩
  | .pairs=>⟨RU.imp fun ds Q ⟨n,p,e,_,q⟩=>⟨_,_,e,q⟩,R1⟩
 have G_has_figures_alone_writings:DOk l.prog w K mg base 2 "has_figures_alone_writings" (nI A):=⟨_,_,_,m31,F31.kp,b31,yG (P:=l.prog) (w:=w) (base:=base) T HLo F31⟩
 have G_is_writing:=DOk.mk' F32 m32 b32 (sH T G_has_mosts_above_noughts_alone G_has_figures_alone_writings F32)
 have G_held_to_be_writings:=DOk.mk' F33 m33 b33 (xO T G_is_writing F33)
 have G_trimmed:=FOk.mk' F34 m34 b34 (oU (P:=l.prog) (w:=w) (base:=base) T F34)
 have G_as_pair:=DOk.mk' F35 m35 b35 (o6 T G_is_whole F35)
 have G_added:=DOk.mk' F36 m36 b36 (kR T G_is_whole G_as_pair F36)
 have G_thing_at:=DOk.mk' F37 m37 b37 (pG (P:=l.prog) (w:=w) (base:=base) T F37)
 have R3:=mkr l w base T.TF Rb r38 F38 b38 (yf T F38)
 have R4:=mkr l w base T.TH Rc r38 F38 b38 (yf T F38)
 have R5:=mkr l w base T.TD Re r38 F38 b38 (yf T F38)
 have R6:=mkr l w base T.TJ Rf r38 F38 b38 (yf T F38)
 have R7:=mkr l w base T.TK Rg r38 F38 b38 (yf T F38)
 have R8:=mkr l w base T.Tx Rh r39 F39 b39 (uP T F39)
 have HNo:∀ k:Kd,MOk l.prog w K mg base 1 (A.at k) "nought" (cr k):=fun k=>match k with
  | .plain=>R3 | .below=>R4 | .balanced=>R5 | .growing=>R6 | .falling=>R7 | .pairs=>R8
 have R9:=mkr l w base T.TF Ri r40 F40 b40 (va T G_is_whole F40)
 have R_:=mkr l w base T.TJ Rj r40 F40 b40 (va T G_is_whole F40)
 have Qa:=mkr l w base T.TK Rk r40 F40 b40 (va T G_is_whole F40)
 have Qb:=mkr l w base T.TH Rm r41 F41 b41 (rV T G_is_whole F41)
 have Qc:=mkr l w base T.TD Rn r42 F42 b42 (uV T G_is_whole F42)
 have G_is_pair:=DOk.mk' F43 m43 b43 (o0 T G_is_whole F43)
 have Qe:=mkr l w base T.Tx Ro r44 F44 b44 (rT T G_is_pair F44)
 have HHas:∀ k:Kd,MOk l.prog w K mg base 3 (A.at k) "has" (vh k):=fun k=>match k with
  | .plain=>R9.mono (by decide)
  | .below=>Qb.mono (by decide)
  | .balanced=>Qc.mono (by decide)
  | .growing=>(R_.imp fun ds Q ⟨o,d,m,e,a,q⟩=>⟨o,d,m,e,a,by cases m <;> exact q⟩).mono (by decide)
  | .falling=>(Qa.imp fun ds Q ⟨o,d,m,e,a,q⟩=>⟨o,d,m,e,a,by cases m <;> exact q⟩).mono (by decide)
  | .pairs=>Qe.mono (by decide)
 have Qf:=mkr l w base T.TF Rp r45 F45 b45 (tJ T F45)
 have Qg:=mkr l w base T.TH Rq r46 F46 b46 (tM T F46)
 have Qh:=mkr l w base T.TD Rr r47 F47 b47 (vq T F47)
 have Qi:=mkr l w base T.TJ Rs r48 F48 b48 (ud T F48)
 have Qj:=mkr l w base T.Tx Rt r49 F49 b49 (tL T F49)
 have HR:∀ k:Kd,k.five=true→MOk l.prog w K mg base 1 (A.at k) "ratio" (wA A k (k.ratN)):=fun k hk=>match k,hk with
  | .plain,_=>Qf
  | .below,_=>Qg
  | .balanced,_=>Qh
  | .growing,_=>Qi
  | .pairs,_=>Qj
 have Qk:=mkr l w base T.TF Ru r50 F50 b50 (yS T HLo HR F50)
 have Ql:=mkr l w base T.TH Rv r50 F50 b50 (yS T HLo HR F50)
 have Qm:=mkr l w base T.TD Rw r50 F50 b50 (yS T HLo HR F50)
 have Qn:=mkr l w base T.TJ Rx r50 F50 b50 (yS T HLo HR F50)
 have G_multiplied:=DOk.mk' F51 m51 b51 (sE T G_is_whole G_as_pair F51)
 have Qo:=mkr l w base T.Tx Ry r52 F52 b52 (tK T G_as_pair G_multiplied F52)
 have HSp:∀ k:Kd,k.five=true→MOk l.prog w K mg base 4 (A.at k) "split" (mE A k):=fun k hk=>match k,hk with
  | .plain,_=>(Qk.imp fun ds Q ⟨n,m,j,e,⟨a,em⟩,h1,h2,q⟩=>⟨.plain,n,a,j,by rw [e,em]; rfl,rfl,h1,h2,by rw [em] at q; exact q⟩).mono (by decide)
  | .below,_=>(Ql.imp fun ds Q ⟨n,m,j,e,⟨a,em⟩,h1,h2,q⟩=>⟨.below,n,a,j,by rw [e,em]; rfl,rfl,h1,h2,by rw [em] at q; exact q⟩).mono (by decide)
  | .balanced,_=>(Qm.imp fun ds Q ⟨n,m,j,e,⟨a,em⟩,h1,h2,q⟩=>⟨.balanced,n,a,j,by rw [e,em]; rfl,rfl,h1,h2,by rw [em] at q; exact q⟩).mono (by decide)
  | .growing,_=>(Qn.imp fun ds Q ⟨n,m,j,e,⟨a,em⟩,h1,h2,q⟩=>⟨.growing,n,a,j,by rw [e,em]; rfl,rfl,h1,h2,by rw [em] at q; exact q⟩).mono (by decide)
  | .pairs,_=>(Qo.imp fun ds Q ⟨n,m,j,e,_,h1,h2,q⟩=>⟨n,_,m,j,e,yi m,h1,q⟩).mono (by decide)
 have G_figures_and_carries:=DOk.mk' F53 m53 b53 (xP T G_added G_thing_at HNo HHas HSp F53)
 have G_settled:=FOk.mk' F54 m54 b54 (oV T G_trimmed G_figures_and_carries F54)
 have G_written:=FOk.mk' F55 m55 b55 (oT T G_settled HHas F55)
 have G_as_wanted:=DOk.mk' F56 m56 b56 (rS T G_as_pair G_is_pair F56)
 have Qp:=lJ l w base T.TF RA r57 F57 b57 (z_ T G_added G_multiplied HNo HR F57)
 have Qq:=lJ l w base T.TH RB r57 F57 b57 (z_ T G_added G_multiplied HNo HR F57)
 have Qr:=lJ l w base T.TD RC r57 F57 b57 (z_ T G_added G_multiplied HNo HR F57)
 have Qs:=lJ l w base T.TJ RD r57 F57 b57 (z_ T G_added G_multiplied HNo HR F57)
 have Qt:=lJ l w base T.Tx RE r57 F57 b57 (z_ T G_added G_multiplied HNo HR F57)
 have Qu:=lJ l w base T.TK RF r58 F58 b58 (vb T F58)
 have HW:∀ k:Kd,FMOk l.prog w K mg base 4 (A.at k) "weights" (cW A k):=fun k=>match k with
  | .plain=>(Qp.imp fun ds Q ⟨n,m,e,a,b,c,q⟩=>⟨.plain,n,m,e,rfl,a,b,c,q⟩).mono (by decide)
  | .below=>(Qq.imp fun ds Q ⟨n,m,e,a,b,c,q⟩=>⟨.below,n,m,e,rfl,a,b,c,q⟩).mono (by decide)
  | .balanced=>(Qr.imp fun ds Q ⟨n,m,e,a,b,c,q⟩=>⟨.balanced,n,m,e,rfl,a,b,c,q⟩).mono (by decide)
  | .growing=>(Qs.imp fun ds Q ⟨n,m,e,a,b,c,q⟩=>⟨.growing,n,m,e,rfl,a,b,c,q⟩).mono (by decide)
  | .falling=>Qu.mono (by decide)
  | .pairs=>(Qt.imp fun ds Q ⟨n,m,e,a,b,c,q⟩=>⟨.pairs,n,m,e,rfl,a,b,c,q⟩).mono (by decide)
 have G_worth:=DOk.mk' F59 m59 b59 (kO T G_added G_multiplied HNo HW F59)
 have G_moved:=FOk.mk' F60 m60 b60 (kQ T G_held_to_be_writings G_written G_as_wanted G_worth F60)
 have G__law_sign:=DOk.mk' F61 m61 b61 (pH (P:=l.prog) (w:=w) (base:=base) T F61)
 have G_parting:=DOk.mk' F62 m62 b62 (oW T G_thing_at F62)
 have G_order:=DOk.mk' F63 m63 b63 (kP T G_held_to_be_writings G_parting G_thing_at F63)
 have G__law_held:=DOk.mk' F64 m64 b64 (pJ T G_order F64)
 have G__law_sorted:=FOk.mk' F65 m65 b65 (sG T G_order F65)
 exact bR T G__law_cell_at G__law_way G_way_read G__law_row G__law_worth G_moved G__law_sign G__law_held G__law_sorted F66
theorem walk {l:PySem.W.OpenLaw} {q:Program} {loose:List Str} {XP:(Str→Option Value)→Heap→Prop} {YP:World→Heap→Prop} {d:DefRec} {K:Params→PySem.W.Frag} (hn:l.most=some 63) (hdf:d.params.defaults=[])
  (hY:∀ (w:World) (h:Heap),YP w h→(K w.params).In h)
  (F:∀ (w:World) (mg:Str→Option Value) (fa:Addr) (h:Heap),(K w.params).In h→h.Ns mainGlobals mg→mg d.name=some (.ref fa)→
   ∃ fd:FuncData,(∀ (s:Shared) (u:Value),BindsTo s fd ⟨[u],[]⟩ [("_law_script",u)])∧∀ base:Heap,(K w.params).In base→base.Ns mainGlobals mg→FnOk l.prog w (K w.params) mg base CX0 9 fa fd ["_law_script"] (zo (K w.params) (mI))):
  PySem.W.WalkO q loose XP YP l.row.toRowW d [] (fun f vs=>PySem.call f vs):=
 L2.walk_of (n:=63) (k:=9) (x:="_law_script") (CX:=fun _=>CX0) (sp:=fun w=>zo (K w.params) (mI)) hn (by decide) hdf ⟨rfl,by decide,by decide⟩ hY F (fun w H a ns hl _ hS=>⟨⟨H,H,Same.refl H⟩,[.scr ns],fun d=>d=.bl true,rfl,allIs_cons.mpr ⟨_,_,rfl,is_scr.mpr ⟨a,rfl,hS⟩,allIs_nil.mpr rfl⟩,⟨ns,rfl,hl,rfl⟩,fun d v W' _ i e=>by subst e; exact is_bl.mp i⟩) fun _ _ _ _ _ z=>z
end My
local macro_rules | `(tactic| walk_at "fx") => `(tactic| (refine' My.FX.mk ?l ?c ?k; (case l => k_is); (case c => k_is); (case k => k_is)))
local macro_rules | `(tactic| walk_at "kk") => `(tactic| first | k_is | kit_is | kts_exm | (delta L2.ExcK; k_exc) | (delta My.Fi; k_is) | (delta My.Zn; k_is) | (delta My.Gs; k_is) | (delta My.Gc; k_is) | (delta My.Ki; kit_is) | (delta My.FD; refine ⟨?a, ?b⟩; (case a => k_is); (case b => walk_at "fx")) | (delta My.FE; refine ⟨?a, ?b⟩; (case a => k_is); (case b => walk_at "fx")) | (delta My.FM; refine ⟨?a, ?b⟩; (case a => k_is); (case b => walk_at "fx")) | (refine ⟨⟨?_, ?_, ?_, ?_⟩, ?_, ?_, ?_⟩ <;> k_is) | (refine ⟨?_, ?_, ?_, ?_, ?_, ?_, ?_⟩ <;> k_is) | (refine ⟨?_, ?_⟩ <;> k_is))
open PySem PySem.W PyProof.Rows
set_option maxRecDepth 100000 in
set_option maxHeartbeats 0 in
theorem PySem.Challenge.cw_oddbases_k67_whole_order_holds : PySem.Challenge.rw_oddbases_k67_whole_order.Holds := by
 w_on; o_law
 refine holds_open (q:=My.h_view_39) (loose:=["has_figures_alone_writings","has_figures_alone_texts"]) (Xt:=(fun s=>xlAt My.h_view_39 [] s && recOk (RowW.records (OpenRow.toRowW PySem.Challenge.rw_oddbases_k67_whole_order.row)) s)) (XP:=XL My.h_view_39 []) (Yf:=Hook.obs (kHook My.h_heap_39 My.myAs My.myE)) (Ya:=Hook.val (kHook My.h_heap_39 My.myAs My.myE)) (YP:=Hook.says (kHook My.h_heap_39 My.myAs My.myE)) (N:=11084) My.left (Hook.of _) (Hook.keeps _) (fun s e=>xl_of s (Bool.and_eq_true_iff.mp e).1) XL.keeps (by rfl) (by rfl) (by rfl) (fun s e=>recFacts_of (Bool.and_eq_true_iff.mp e).2) (by rfl) (by first | assumption | decide +kernel) (by decide +kernel) ⟨rfl,rfl,rfl,rfl,rfl,by decide +kernel⟩ ?hw ?hc
 case hw=>w_witness2
 k_fill
 refine My.walk (l:=PySem.Challenge.rw_oddbases_k67_whole_order) rfl rfl (fun w h Y=>PySem.W.kIn_of Y) ?F
 case F=>
  intro w mg fa h KX G hmg
  refine' My.all_mk KX G hmg ?SM ?Ss ?SN ?SO ?Su ?Sv ?SQ ?SR ?r1 ?r2 ?r3 ?r4 ?r5 ?r6 ?SS ?r7 ?ST ?r8 ?SU ?r9 ?SV ?r10 ?SW ?r11 ?SY ?r12 ?r13 ?r14 ?r15 ?r16 ?r17 ?r18 ?r19 ?r20 ?r21 ?r22 ?SZ ?S0 ?S1 ?S2 ?S3 ?r23 ?S4 ?r24 ?S5 ?r25 ?S6 ?r26 ?S7 ?r27 ?S8 ?r28 ?S9 ?r29 ?Ra ?r30 ?r31 ?r32 ?r33 ?r34 ?r35 ?r36 ?r37 ?Rb ?Rc ?Re ?Rf ?Rg ?r38 ?Rh ?r39 ?Ri ?Rj ?Rk ?r40 ?Rm ?r41 ?Rn ?r42 ?r43 ?Ro ?r44 ?Rp ?r45 ?Rq ?r46 ?Rr ?r47 ?Rs ?r48 ?Rt ?r49 ?Ru ?Rv ?Rw ?Rx ?r50 ?r51 ?Ry ?r52 ?r53 ?r54 ?r55 ?r56 ?RA ?RB ?RC ?RD ?RE ?r57 ?RF ?r58 ?r59 ?r60 ?r61 ?r62 ?r63 ?r64 ?r65 ?r66 ?TQ ?TR ?TU ?TV ?TW ?TX ?Sw ?TZ ?T0 ?T3 ?Sx ?T4 ?T5 ?T6 ?Sy ?T7 ?T8 ?T9 ?Sz ?T_ ?Sa ?Sb ?SA ?Sc ?Sd ?Se ?SB ?Sf ?Sg ?Sh ?in_ ?it_ ?TY ?Sm ?Sn ?So ?Sq ?g_FIGURES ?z_isinstance ?z_int ?z_bool ?z_tuple ?z_list ?z_len ?z_range ?z_zip ?z_enumerate ?z_reversed ?z_max ?z_str ?z_sorted
  case SM | Ss | SN | SO | Su | Sv | SQ | SR | r1 | r2 | r3 | r4 | r5 | r6 | SS | r7 | ST | r8 | SU | r9 | SV | r10 | SW | r11 | SY | r12 | r13 | r14 | r15 | r16 | r17 | r18 | r19 | r20 | r21 | r22 | SZ | S0 | S1 | S2 | S3 | r23 | S4 | r24 | S5 | r25 | S6 | r26 | S7 | r27 | S8 | r28 | S9 | r29 | Ra | r30 | r31 | r32 | r33 | r34 | r35 | r36 | r37 | Rb | Rc | Re | Rf | Rg | r38 | Rh | r39 | Ri | Rj | Rk | r40 | Rm | r41 | Rn | r42 | r43 | Ro | r44 | Rp | r45 | Rq | r46 | Rr | r47 | Rs | r48 | Rt | r49 | Ru | Rv | Rw | Rx | r50 | r51 | Ry | r52 | r53 | r54 | r55 | r56 | RA | RB | RC | RD | RE | r57 | RF | r58 | r59 | r60 | r61 | r62 | r63 | r64 | r65 | r66 | TQ | TR | TU | TV | TW | TX | Sw | TZ | T0 | T3 | Sx | T4 | T5 | T6 | Sy | T7 | T8 | T9 | Sz | T_ | Sa | Sb | SA | Sc | Sd | Se | SB | Sf | Sg | Sh | in_ | it_ | TY | Sm | Sn | So | Sq | g_FIGURES | z_isinstance | z_int | z_bool | z_tuple | z_list | z_len | z_range | z_zip | z_enumerate | z_reversed | z_max | z_str | z_sorted=>walk_at "kk"
