import PyProof.Rows.All
import Wide.All
import OpenK.AllK
import Wide.FinOn
import Lean
import PyProof.EqAt
import PyProof.EqKinds
import PyProof.TupleCall
import PyProof.NeKinds
import PySem.Challenge.RW_oddbases_k52_moved_refused
set_option Elab.async false
set_option linter.all false
set_option maxRecDepth 100000
namespace L2
open PySem PySem.Spec PyProof.Rows
abbrev Key:=Sum Int Str
def ik:Key→Value→Bool
 | .inl k,v=>Value.isInt k v
 | .inr x,v=>Value.isStrOf x v
def cn (w:World):Key→Int
 | .inl k=>hashInt k
 | .inr x=>hashStr w x
theorem zN:∀ {k:Key} {v:Value},ik k v=true→(∃ i t,k=Sum.inl i∧v=Value.int i t)∨(∃ x t,k=Sum.inr x∧v=Value.str x t)
 | .inl i,v,h=>by
  obtain ⟨t,e⟩:=Value.isInt_shape (k:=i) (v:=v) h
  exact .inl ⟨i,t,rfl,e⟩
 | .inr x,v,h=>by
  obtain ⟨t,e⟩:=Value.isStrOf_shape (x:=x) (v:=v) h
  exact .inr ⟨x,t,rfl,e⟩
theorem gA (a b:Int):decide ((Sum.inl a:Key)=Sum.inl b)=(a == b):=by
 by_cases e:a=b
 ·subst e; simp
 ·have h:¬ (Sum.inl a:Key)=Sum.inl b:=fun q=>e (Sum.inl.inj q)
  rw [decide_eq_false h]
  exact (beq_eq_false_iff_ne.mpr e).symm
theorem gw (a b:Str):decide ((Sum.inr a:Key)=Sum.inr b)=decide (a=b):=by
 by_cases e:a=b
 ·subst e; simp
 ·have h:¬ (Sum.inr a:Key)=Sum.inr b:=fun q=>e (Sum.inr.inj q)
  rw [decide_eq_false h,decide_eq_false e]
theorem gz (a:Int) (b:Str):decide ((Sum.inl a:Key)=Sum.inr b)=false:=decide_eq_false (fun q=>nomatch q)
theorem gx (a:Str) (b:Int):decide ((Sum.inr a:Key)=Sum.inl b)=false:=decide_eq_false (fun q=>nomatch q)
def rH (prog:Program) (w:World):PySem.KeyKind prog w Key where
 is:=ik
 hash:=cn w
 inj:=fun v a b ha hb=>by
  rcases zN ha with ⟨i,t,rfl,rfl⟩ | ⟨x,t,rfl,rfl⟩
  ·rcases zN hb with ⟨j,u,rfl,e⟩ | ⟨y,u,rfl,e⟩
   ·injection e with e1 _; rw [e1]
   ·exact nomatch e
  ·rcases zN hb with ⟨j,u,rfl,e⟩ | ⟨y,u,rfl,e⟩
   ·exact nomatch e
   ·injection e with e1 _; rw [e1]
 byValue:=fun k v h=>by
  rcases zN h with ⟨i,t,rfl,rfl⟩ | ⟨x,t,rfl,rfl⟩ <;> rfl
 pyHash:=fun hv h=>by
  rcases zN hv with ⟨i,t,rfl,rfl⟩ | ⟨x,t,rfl,rfl⟩
  ·exact wpAny_pyHash_int h
  ·exact wpAny_pyHash_str h
 eqBool:=fun hu hv h=>by
  rcases zN hu with ⟨i,t,rfl,rfl⟩ | ⟨x,t,rfl,rfl⟩
  ·rcases zN hv with ⟨j,u,rfl,rfl⟩ | ⟨y,u,rfl,rfl⟩
   ·rw [gA] at h; exact wpAny_eqBool_int h
   ·rw [gz] at h; exact SeqAt.EqAt.int_str i t y u _ _ _ _ h
  ·rcases zN hv with ⟨j,u,rfl,rfl⟩ | ⟨y,u,rfl,rfl⟩
   ·rw [gx] at h; exact SeqAt.EqAt.str_int x t j u _ _ _ _ h
   ·rw [gw] at h; exact wpAny_eqBool_str h
 «strs»:=fun k x t v h=>by
  rcases zN h with ⟨i,u,rfl,e⟩ | ⟨y,u,rfl,e⟩
  ·exact nomatch e
  ·injection e with e1 _
   subst e1
   cases v <;> rfl
end L2
namespace L2
open PySem PySem.Spec PyProof.Rows
inductive V where
 | non | bl (b:Bool) | int (i:Int) | str (x:Str) | byt (b:Array UInt8) | flt (b:UInt64) | ref (a:Addr) | ty (n:String)
 deriving DecidableEq
def RelV:V→Value→Prop
 | .non,u=>u=Value.none
 | .bl b,u=>u=Value.bool b
 | .int i,u=>∃ t,u=Value.int i t
 | .str x,u=>∃ t,u=Value.str x t
 | .byt b,u=>∃ t,u=Value.bytes b t
 | .flt b,u=>∃ t,u=Value.float b t
 | .ref a,u=>u=Value.ref a
 | .ty n,u=>u=Value.type n
abbrev Vals:List V→List Value→Prop:=Paired RelV
theorem Vals.length {xs:List V} {us:List Value} (r:Vals xs us):xs.length=us.length:=Paired.length r
theorem Vals.get:∀ {xs:List V} {us:List Value} {i:Nat} {x:V},Vals xs us→xs[i]? = some x→∃ u,us[i]? = some u∧RelV x u
 | _,_,_,_,.nil,e=>by simp at e
 | _,_,0,_,.cons r _,e=>by simp at e; subst e; exact ⟨_,rfl,r⟩
 | _,_,i + 1,x,.cons _ t,e=>by
  obtain ⟨u,h1,h2⟩:=Vals.get (i:=i) (x:=x) t (by simpa using e)
  exact ⟨u,by simpa using h1,h2⟩
theorem Vals.set {x:V} {u:Value} (r:RelV x u):∀ {xs:List V} {us:List Value} (i:Nat),Vals xs us→Vals (xs.set i x) (us.set i u)
 | _,_,_,.nil=>.nil
 | _,_,0,.cons _ t=>.cons r t
 | _,_,i + 1,.cons q t=>.cons q (Vals.set r i t)
theorem Vals.append:∀ {xs ys:List V} {us ws:List Value},Vals xs us→Vals ys ws→Vals (xs ++ ys) (us ++ ws)
 | _,_,_,_,.nil,s=>s
 | _,_,_,_,.cons r t,s=>.cons r (Vals.append t s)
theorem Vals.take:∀ {xs:List V} {us:List Value} (n:Nat),Vals xs us→Vals (xs.take n) (us.take n)
 | _,_,0,_=>.nil
 | _,_,_ + 1,.nil=>.nil
 | _,_,n + 1,.cons r t=>.cons r (Vals.take n t)
theorem Vals.drop:∀ {xs:List V} {us:List Value} (n:Nat),Vals xs us→Vals (xs.drop n) (us.drop n)
 | _,_,0,r=>r
 | _,_,_ + 1,.nil=>.nil
 | _,_,n + 1,.cons _ t=>Vals.drop n t
theorem Vals.none_of:∀ {xs:List V} {us:List Value} {i:Nat},Vals xs us→xs[i]? = none→us[i]? = none:=fun {xs us i} r e=>by
 have h1:=r.length
 have h2:xs.length ≤ i:=List.getElem?_eq_none_iff.mp e
 exact List.getElem?_eq_none_iff.mpr (by omega)
def RelO:Option V→Option Value→Prop
 | some v,some u=>RelV v u
 | none,none=>True
 | _,_=>False
def KV {κ:Type}:List (κ × V)→List (κ × Value)→Prop:=Paired fun (p:κ × V) (q:κ × Value)=>p.1=q.1∧RelV p.2 q.2
def kV:Key→V
 | .inl i=>.int i
 | .inr x=>.str x
inductive HO where
 | lst (xs:List V)
 | tup (xs:List V)
 | dK (kvs:List (Key × V)) | dT (kvs:List (List Key × V))
 | set (S:Int→Bool) (n:Nat)
 | ins (C dx:Addr) (fs:List (Str × V))
 | own (x:Addr)
 | xd (fs:List (Str × V))
 | met (f x:Addr)
 | rng (lo hi:Int)
 | frz (o:Obj) (u:HO)
 | tbl (ps:Array Value)
 | ext (φ:Heap→Prop)
abbrev Hp:=Addr→Option HO
def upd (H:Hp) (a:Addr) (o:HO):Hp:=fun b=>if b=a then some o else H b
theorem zu {H:Hp} {a:Addr} {o:HO}:upd H a o a=some o:=by unfold upd; rw [if_pos rfl]
theorem zr {H:Hp} {a b:Addr} {o:HO} (h:b ≠ a):upd H a o b=H b:=by unfold upd; rw [if_neg h]
theorem zO {H:Hp} {a b:Addr} {o:HO} (h:H a=some o) (h':H b=none):a ≠ b:=by
 intro e; subst e; rw [h] at h'; cases h'
section
variable (P:Program) (w:World)
def ObjOk (H:Hp) (h:Heap) (a:Addr):HO→Prop
 | .lst xs=>xs.length ≤ sizeLine∧∃ (its:List Value) (n:Nat),Vals xs its∧h.get? a=some { cls:=.type "list",data:=.seq its.toArray n }
 | .tup xs=>xs.length ≤ sizeLine∧∃ its:List Value,Vals xs its∧IsTup h a its.toArray
 | .dK kvs=>kvs.length ≤ sizeLine∧(a == sysModules)=false∧∃ vs,KV kvs vs∧h.DictOf (rH P w) a vs
 | .dT kvs=>kvs.length ≤ sizeLine∧(a == sysModules)=false∧∃ xs:List (List Key × Addr × Value),
   Paired (fun (p:List Key × V) (q:List Key × Addr × Value)=>p.1=q.1∧H q.2.1=some (.tup (p.1.map kV))∧RelV p.2 q.2.2) kvs xs∧
   ∃ o es ep,h.get? a=some o∧o.ExactDict∧o.data=.dict es ep∧es.toList=xs.map (entryOfKey (tupleKind (rH P w)))∧(xs.map (·.1)).Nodup
 | .set S n=>h.SetOf (intKind P w) a S n
 | .ins C dx fs=>H dx=some (.own a)∧fs.length ≤ 1000∧dx ≠ a∧h.get? a=some (PySem.W.instObj C dx)∧
   ∃ mA,h.Ns1 dx mA∧(∀ f,RelO (fs.lookup f) (mA f))∧PySem.Within mA (fs.map (·.1))
 | .own _=>∃ o,h.get? a=some o
 | .xd fs=>∃ mA,h.Ns1 a mA∧∀ f,RelO (fs.lookup f) (mA f)
 | .rng lo hi=>∃ t u v,h.get? a=some { cls:=.type "range",data:=.fields #[.int lo t,.int hi u,.int 1 v] }
 | .frz o u=>h.get? a=some o∧ObjOk H h a u
 | .tbl ps=>h.get? a=some { cls:=.none,data:=.fields ps }
 | .met f x=>h.get? a=some (PySem.W.methodObj (.ref f) (.ref x))
 | .ext φ=>φ h∧(∃ o,h.get? a=some o)∧∀ h1 h2:Heap,φ h1→(∀ o,h1.get? a=some o→h2.get? a=some o)→φ h2
def HOk (H:Hp) (h:Heap):Prop:=∀ a o,H a=some o→ObjOk P w H h a o
end
section
variable {P:Program} {w:World} {H H':Hp} {h h':Heap} {a:Addr} {o:HO}
theorem ObjOk.lt (x:ObjOk P w H h a o):a < h.objs.size:=by
 cases o with
 | lst xs=>obtain ⟨_,_,_,_,e⟩:=x; exact Heap.lt_size e
 | tup xs=>obtain ⟨_,_,_,p⟩:=x; exact p.lt
 | dK kvs=>obtain ⟨_,_,_,_,o,_,_,e,_⟩:=x; exact Heap.lt_size e
 | dT kvs=>obtain ⟨_,_,_,_,o,_,_,e,_⟩:=x; exact Heap.lt_size e
 | set S n=>obtain ⟨o,_,_,_,e,_⟩:=x; exact Heap.lt_size e
 | ins C dx fs=>obtain ⟨_,_,_,e,_⟩:=x; exact Heap.lt_size e
 | own y=>obtain ⟨_,e⟩:=x; exact Heap.lt_size e
 | xd fs=>obtain ⟨_,⟨_,_,_,e,_⟩,_⟩:=x; exact Heap.lt_size e
 | rng lo hi=>obtain ⟨_,_,_,e⟩:=x; exact Heap.lt_size e
 | frz ob u=>obtain ⟨e,_⟩:=x; exact Heap.lt_size e
 | tbl ps=>exact Heap.lt_size (show h.get? a=some _ from x)
 | met f y=>exact Heap.lt_size (show h.get? a=some _ from x)
 | ext φ=>obtain ⟨_,⟨_,e⟩,_⟩:=x; exact Heap.lt_size e
theorem Paired.mapP {α β:Type} {F G:α→β→Prop}:∀ {l₁:List α} {l₂:List β},Paired F l₁ l₂→(∀ a b,F a b→G a b)→Paired G l₁ l₂
 | _,_,.nil,_=>.nil
 | _,_,.cons r t,f=>.cons (f _ _ r) (Paired.mapP t f)
theorem ObjOk.stay (x:ObjOk P w H h a o) (k:∀ b u,(b=a∨H b=some (.own a))→h.get? b=some u→h'.get? b=some u)
  (ho:∀ b,H b=some (.own a)→H' b=some (.own a)) (ht:∀ b xs,H b=some (.tup xs)→H' b=some (.tup xs)):ObjOk P w H' h' a o:=by
 induction o with
 | lst xs=>obtain ⟨z,its,n,r,e⟩:=x; exact ⟨z,its,n,r,k _ _ (.inl rfl) e⟩
 | tup xs=>obtain ⟨z,its,r,ob,e,c⟩:=x; exact ⟨z,its,r,ob,k _ _ (.inl rfl) e,c⟩
 | dK kvs=>obtain ⟨z,y,vs,r,ob,es,ep,e,c⟩:=x; exact ⟨z,y,vs,r,ob,es,ep,k _ _ (.inl rfl) e,c⟩
 | dT kvs=>
  obtain ⟨z,y,xs,r,ob,es,ep,e,c⟩:=x
  exact ⟨z,y,xs,Paired.mapP r fun p q z=>⟨z.1,ht _ _ z.2.1,z.2.2⟩,ob,es,ep,k _ _ (.inl rfl) e,c⟩
 | set S n=>obtain ⟨ob,es,ep,t,e,c⟩:=x; exact ⟨ob,es,ep,t,k _ _ (.inl rfl) e,c⟩
 | ins C dx fs=>
  obtain ⟨d,z,ne,e,mA,⟨od,es,ep,e2,c⟩,r⟩:=x
  exact ⟨ho _ d,z,ne,k _ _ (.inl rfl) e,mA,⟨od,es,ep,k _ _ (.inr d) e2,c⟩,r⟩
 | own y=>obtain ⟨ob,e⟩:=x; exact ⟨ob,k _ _ (.inl rfl) e⟩
 | xd fs=>obtain ⟨mA,⟨od,es,ep,e,c⟩,r⟩:=x; exact ⟨mA,⟨od,es,ep,k _ _ (.inl rfl) e,c⟩,r⟩
 | rng lo hi=>obtain ⟨t,u,v,e⟩:=x; exact ⟨t,u,v,k _ _ (.inl rfl) e⟩
 | frz ob u ih=>obtain ⟨e,q⟩:=x; exact ⟨k _ _ (.inl rfl) e,ih q⟩
 | tbl ps=>
  have e:h.get? a=some { cls:=.none,data:=.fields ps }:=x
  show h'.get? a=some { cls:=.none,data:=.fields ps }
  exact k a _ (.inl rfl) e
 | met f y=>
  have e:h.get? a=some (PySem.W.methodObj (.ref f) (.ref y)):=x
  show h'.get? a=some (PySem.W.methodObj (.ref f) (.ref y))
  exact k a _ (.inl rfl) e
 | ext φ=>obtain ⟨p,⟨o,e⟩,st⟩:=x; exact ⟨st _ _ p fun o q=>k _ _ (.inl rfl) q,⟨o,k _ _ (.inl rfl) e⟩,st⟩
theorem HOk.lt (x:HOk P w H h) (e:H a=some o):a < h.objs.size:=(x a o e).lt
theorem HOk.fresh (x:HOk P w H h) (e:h.objs.size ≤ a):H a=none:=by
 cases q:H a with
 | none=>rfl
 | some u=>exact absurd (Nat.lt_of_lt_of_le (x.lt q) e) (Nat.lt_irrefl _)
theorem HOk.kept (x:HOk P w H h) (k:∀ b u,h.get? b=some u→h'.get? b=some u):HOk P w H h':=fun a o e=>
 (x a o e).stay (fun b u _ q=>k b u q) (fun _ q=>q) fun _ _ q=>q
theorem HOk.laid (x:HOk P w H h) (k:∀ b u,h.get? b=some u→h'.get? b=some u) (hp:h.objs.size ≤ a) (new:ObjOk P w (upd H a o) h' a o):HOk P w (upd H a o) h':=fun b u e=>by
 have hn:=x.fresh hp
 by_cases hb:b=a
 ·subst hb; rw [zu] at e; cases e; exact new
 ·rw [zr hb] at e
  exact (x b u e).stay (fun c v _ q=>k c v q) (fun c q=>by rw [zr (zO q hn)]; exact q) fun c xs q=>by rw [zr (zO q hn)]; exact q
end
def Rd (H:Hp) (a:Addr) (u:HO):Prop:=H a=some u∨∃ o,H a=some (.frz o u)
theorem Rd.of {H:Hp} {a:Addr} {u:HO} (h:H a=some u):Rd H a u:=.inl h
theorem Rd.ok {P:Program} {w:World} {H:Hp} {h:Heap} {a:Addr} {u:HO} (r:Rd H a u) (x:HOk P w H h):ObjOk P w H h a u:=by
 rcases r with r | ⟨o,r⟩
 ·exact x a u r
 ·obtain ⟨_,q⟩:=x a _ r
  exact q
def Mut:Option HO→Prop
 | some (.lst _)=>True
 | some (.dK _)=>True
 | some (.dT _)=>True
 | some (.set _ _)=>True
 | some (.ins _ _ _)=>True
 | some (.ext _)=>True
 | _=>False
section
variable {P:Program} {w:World} {H:Hp} {h h':Heap} {x e:Addr} {o':HO}
theorem HOk.write (ok:HOk P w H h) (mu:Mut (H x)) (he:e=x∨H e=some (.own x)) (k:∀ b u,b ≠ e→h.get? b=some u→h'.get? b=some u) (heo:∃ u,h'.get? e=some u)
  (new:ObjOk P w (upd H x o') h' x o'):HOk P w (upd H x o') h':=fun b u q=>by
 have nown:∀ c y,H c=some (.own y)→c ≠ x:=fun c y r z=>by subst z; rw [r] at mu; exact mu
 have ntup:∀ c xs,H c=some (.tup xs)→c ≠ x:=fun c xs r z=>by subst z; rw [r] at mu; exact mu
 by_cases hb:b=x
 ·subst hb; rw [zu] at q; cases q; exact new
 ·rw [zr hb] at q
  by_cases hbe:b=e
  ·have q':H b=some (.own x):=by
    rcases he with z | z
    ·exact absurd (hbe.trans z) hb
    ·rw [hbe]; exact z
   rw [q] at q'; cases q'
   obtain ⟨v,hv⟩:=heo
   exact ⟨v,by rw [hbe]; exact hv⟩
  ·refine (ok b u q).stay (fun c v hc r=>k c v ?_ r) (fun c r=>by rw [zr (nown c b r)]; exact r) fun c xs r=>by rw [zr (ntup c xs r)]; exact r
   rcases hc with rfl | hc
   ·exact hbe
   ·rintro rfl
    rcases he with z | z
    ·exact nown c b hc z
    ·rw [hc] at z; cases z; exact hb rfl
end
structure Un (fs ex:List Addr) (H H':Hp) (h h':Heap):Prop where
 keep:∀ b o,h.get? b=some o→H b=none→b ∉ fs→b ∉ ex→h'.get? b=some o
 slot:∀ b o,h.get? b=some o→H b=none→b ∈ fs→b ∉ ex→∃ sl,h'.get? b=some { o with slots:=sl }
 free:∀ b o,h.get? b=some o→H b=none→b ∉ ex→H' b=none
 there:∀ b o,h.get? b=some o→b ∉ ex→∃ o',h'.get? b=some o'
 tups:∀ b xs,H b=some (.tup xs)→H' b=some (.tup xs)
 frzs:∀ b o u,H b=some (.frz o u)→H' b=some (.frz o u)
 tbls:∀ b ps,H b=some (.tbl ps)→∃ more,H' b=some (.tbl (ps ++ more))
section
variable {fs fs' ex ex':List Addr} {H H1 H2:Hp} {h h1 h2 h':Heap} {a x e:Addr} {o:HO}
theorem Un.any (u:Un fs ex H H1 h h1) {b:Addr} {ob:Obj} (q:h.get? b=some ob) (n:H b=none) (hx:b ∉ ex):∃ sl,h1.get? b=some { ob with slots:=sl }:=by
 by_cases hb:b ∈ fs
 ·exact u.slot b ob q n hb hx
 ·exact ⟨ob.slots,u.keep b ob q n hb hx⟩
theorem Un.trans (a:Un fs ex H H1 h h1) (b:Un fs ex H1 H2 h1 h2):Un fs ex H H2 h h2 where
 keep:=fun c ob q n hc hx=>b.keep c ob (a.keep c ob q n hc hx) (a.free c ob q n hx) hc hx
 slot:=fun c ob q n hc hx=>by
  obtain ⟨sl,e1⟩:=a.slot c ob q n hc hx
  obtain ⟨sl',e2⟩:=b.slot c _ e1 (a.free c ob q n hx) hc hx
  exact ⟨sl',e2⟩
 free:=fun c ob q n hx=>by
  obtain ⟨o',e1⟩:=a.there c ob q hx
  exact b.free c o' e1 (a.free c ob q n hx) hx
 there:=fun c ob q hx=>by
  obtain ⟨o',e1⟩:=a.there c ob q hx
  exact b.there c o' e1 hx
 tups:=fun c xs q=>b.tups c xs (a.tups c xs q)
 frzs:=fun c ob xs q=>b.frzs c ob xs (a.frzs c ob xs q)
 tbls:=fun c ps q=>by
  obtain ⟨m1,e1⟩:=a.tbls c ps q
  obtain ⟨m2,e2⟩:=b.tbls c _ e1
  exact ⟨m1 ++ m2,by rw [e2,Array.append_assoc]⟩
theorem Un.kept (k:∀ b u,h.get? b=some u→h'.get? b=some u):Un fs ex H H h h':=
 ⟨fun b ob q _ _ _=>k b ob q,fun b ob q _ _ _=>⟨ob.slots,k b ob q⟩,fun _ _ _ n _=>n,fun b ob q _=>⟨ob,k b ob q⟩,fun _ _ q=>q,fun _ _ _ q=>q,fun _ ps q=>⟨#[],by rw [q]; simp⟩⟩
theorem Un.refl:Un fs ex H H h h:=Un.kept fun _ _ q=>q
theorem Un.laid (k:∀ b u,h.get? b=some u→h'.get? b=some u) (hp:h.objs.size ≤ a) (hn:H a=none):Un fs ex H (upd H a o) h h' where
 keep:=fun b u q _ _ _=>k b u q
 slot:=fun b u q _ _ _=>⟨u.slots,k b u q⟩
 free:=fun b u q n _=>by rw [zr (Nat.ne_of_lt (Nat.lt_of_lt_of_le (Heap.lt_size q) hp))]; exact n
 there:=fun b u q _=>⟨u,k b u q⟩
 tups:=fun b xs q=>by rw [zr (zO q hn)]; exact q
 frzs:=fun b u xs q=>by rw [zr (zO q hn)]; exact q
 tbls:=fun b ps q=>⟨#[],by rw [zr (zO q hn),q]; simp⟩
theorem Un.write (mu:Mut (H x)) (he:e=x∨H e=some (.own x)) (k:∀ b u,b ≠ e→h.get? b=some u→h'.get? b=some u) (heo:∃ u,h'.get? e=some u):Un fs ex H (upd H x o) h h':=by
 have hx:∀ b,H b=none→b ≠ x:=fun b n z=>by subst z; rw [n] at mu; exact mu
 have hb:∀ b,H b=none→b ≠ e:=fun b n z=>by
  subst z
  rcases he with r | r
  ·exact hx b n r
  ·rw [n] at r; cases r
 have hm:∀ b u,H b=some u→¬ Mut (some u)→b ≠ x:=fun b u q nm z=>by subst z; rw [q] at mu; exact nm mu
 refine ⟨fun b u q n _ _=>k b u (hb b n) q,fun b u q n _ _=>⟨u.slots,k b u (hb b n) q⟩,fun b u q n _=>by rw [zr (hx b n)]; exact n,fun b u q _=>?_,
  fun b xs q=>by rw [zr (hm b _ q fun z=>z)]; exact q,fun b u xs q=>by rw [zr (hm b _ q fun z=>z)]; exact q,fun b ps q=>⟨#[],by rw [zr (hm b _ q fun z=>z),q]; simp⟩⟩
 by_cases hbe:b=e
 ·subst hbe; exact heo
 ·exact ⟨u,k b u hbe q⟩
theorem Un.mono (u:Un fs ex H H1 h h1) (hs:∀ b ∈ fs,b ∈ fs') (hx:∀ b ∈ ex,b ∈ ex'):Un fs' ex' H H1 h h1:=
 ⟨fun b ob q n hb he=>u.keep b ob q n (fun z=>hb (hs b z)) fun z=>he (hx b z),fun _ _ q n _ he=>u.any q n fun z=>he (hx _ z),fun b ob q n he=>u.free b ob q n fun z=>he (hx b z),fun b ob q he=>u.there b ob q fun z=>he (hx b z),u.tups,u.frzs,u.tbls⟩
end
def trk (h:Heap) (H:Hp):List Addr:=(List.range h.objs.size).filter fun a=>(H a).isSome
def rN (h:Heap) (H:Hp):Heap:=PySem.W.hideAll h (trk h H)
theorem nX (h:Heap) (H:Hp):(rN h H).objs.size=h.objs.size:=PySem.W.hideAll_size _ _
theorem lz {h:Heap} {H:Hp} {b:Addr} {o:Obj} (e:h.get? b=some o) (n:H b=none):(rN h H).get? b=some o:=
 PySem.W.hideAll_get _ e fun hm=>by
  have q:(H b).isSome=true:=(List.mem_filter.mp hm).2
  rw [n] at q; simp at q
theorem ji {h:Heap} {H:Hp} {b:Addr} {o:Obj} (e:(rN h H).get? b=some o):h.get? b=some o∧H b=none:=by
 have e':h.get? b=some o:=PySem.W.of_hideAll (trk h H) e
 refine ⟨e',?_⟩
 cases q:H b with
 | none=>rfl
 | some x=>
  have hm:b ∈ trk h H:=List.mem_filter.mpr ⟨List.mem_range.mpr (Heap.lt_size e'),by simp [q]⟩
  have z:(rN h H).get? b=none:=PySem.W.hideAll_none (trk h H) hm
  rw [z] at e; cases e
def jT (g h:Heap) (L:Addr):List (Addr × Obj):=(List.range h.objs.size).filterMap fun a=>if a=L∨(g.get? a).isSome=true then none else (h.get? a).map fun o=>(a,o)
def yq (g h:Heap) (L d:Addr):List (Addr × Obj):=(jT g h L).filter fun p=>decide (p.1 ≠ d)
end L2
namespace L2
open PySem PySem.Spec PyProof.Rows
structure Mod (K:PySem.W.Frag) (mg:Str→Option Value) (base:Heap):Prop where
 kin:K.In base
 glob:base.Ns mainGlobals mg
 blt:∃ mb,base.Ns builtinsNs mb∧∀ x:Str,x ≠ "__name__"→mb x=bootBuiltins x
 nolimit:base.NoLimit
structure Cx where
 prog:Program
 w:World
 K:PySem.W.Frag
 mg:Str→Option Value
 base:Heap
 A:Around
 N:List Str
 s₀:Shared
 H₀:Hp
 env:Env
 outer:List Env
 stack:List Env
 ex:List Addr
 fn:Str→Bool
 calm:Bool
 pn:List (Addr × Obj)
 xe:Value→Shared→Prop
def frs (l:List Env):List Addr:=l.filterMap (·.frame)
abbrev Cx.fs (X:Cx):List Addr:=frs X.outer
def Vis (sc:Scope) (x:Str):Prop:=sc.names.lookup x=some .local∨sc.names.lookup x=some .cell∨sc.names.lookup x=some .free
def Loc (sc:Scope) (x:Str):Prop:=sc.names.lookup x=some .local∨sc.names.lookup x=some .cell
def cO (env:Env) (h:Heap) (m:Str→Option Value) (x:Str) (u:Value):Prop:=
 (env.kindOf x=some .local∧m x=some u)∨((env.kindOf x=some .cell∨env.kindOf x=some .free)∧∃ c,env.cells.lookup x=some c∧h.IsCell c (some u))
structure Cx.Ok (X:Cx):Prop where
 mod:Mod X.K X.mg X.base
 kind:X.env.scope.kind=.function
 glob:X.env.globals=mainGlobals
 blt:X.env.builtins=builtinsNs
 above:X.s₀.heap.objs.size ≤ X.env.locals
 inj:∀ x y c,X.env.cells.lookup x=some c→X.env.cells.lookup y=some c→x=y
 has:∀ x,(X.env.kindOf x=some .cell∨X.env.kindOf x=some .free)→∃ c,X.env.cells.lookup x=some c
 cab:∀ x c,X.fn x=true→X.env.cells.lookup x=some c→X.s₀.heap.objs.size ≤ c
 hd:X.calm=true→X.A.handled=none
 frames:X.A.frames=some X.stack
 stk:X.stack=X.outer∨(X.stack=X.env :: X.outer∧X.env.frame=some X.env.locals)
 exf:∀ b ∈ X.ex,b ≠ X.env.locals∧∀ x c,X.env.cells.lookup x=some c→c ≠ b
 bs:∀ b o,X.base.get? b=some o→X.s₀.heap.get? b=some o∧X.H₀ b=none
 bsz:X.base.objs.size ≤ X.s₀.heap.objs.size
 noex:∀ b o,X.base.get? b=some o→b ∉ X.ex
 exfs:∀ b ∈ X.ex,b ∉ X.fs
 funs:X.s₀.heap.FunFrames X.base X.outer
 frf:∀ b ∈ X.fs,X.H₀ b=none
structure Inv (X:Cx) (pins:List (Addr × Obj)) (σ:List (Option V)) (H:Hp) (s:Shared):Prop where
 ok:X.Ok
 os:s.os=X.s₀.os
 bare:AllBare s.gens
 base:Un X.fs X.ex X.H₀ H X.s₀.heap s.heap
 loc:∃ m,s.heap.Ns X.env.locals m∧∀ (i:Nat) (x:Str) (v:V),X.N[i]? = some x→σ[i]? = some (some v)→Vis X.env.scope x→∃ u,RelV v u∧cO X.env s.heap m x u
 cell:∀ x c,X.env.cells.lookup x=some c→∃ v,s.heap.IsCell c v
 free:H X.env.locals=none
 freeC:∀ x c,X.env.cells.lookup x=some c→H c=none
 pin:∀ p ∈ X.pn ++ pins,s.heap.get? p.1=some p.2∧H p.1=none∧p.1 ≠ X.env.locals∧p.1 ∉ X.fs∧∀ v,p.2.data ≠ .cell v
 hok:HOk X.prog X.w H s.heap
 len:σ.length=X.N.length
section
variable {X:Cx} {pins:List (Addr × Obj)} {σ:List (Option V)} {H H':Hp} {s:Shared} {h':Heap}
theorem Cx.Ok.nofr (ok:X.Ok) {b:Addr} {o:Obj} (e:X.base.get? b=some o):b ∉ X.fs:=fun hb=>by
 have:=(ok.funs.mem hb).1
 rw [e] at this; cases this
theorem Inv.bs (I:Inv X pins σ H s):∀ b o,X.base.get? b=some o→s.heap.get? b=some o∧H b=none:=fun b o e=>
 ⟨I.base.keep b o (I.ok.bs b o e).1 (I.ok.bs b o e).2 (I.ok.nofr e) (I.ok.noex b o e),I.base.free b o (I.ok.bs b o e).1 (I.ok.bs b o e).2 (I.ok.noex b o e)⟩
theorem Inv.bk (I:Inv X pins σ H s):∀ b o,X.base.get? b=some o→s.heap.get? b=some o:=fun b o e=>(I.bs b o e).1
theorem Inv.mod (I:Inv X pins σ H s):Mod X.K X.mg X.base:=I.ok.mod
theorem Inv.kIn (I:Inv X pins σ H s):X.K.In s.heap:=I.ok.mod.kin.keeps I.bk
theorem Inv.nolimit (I:Inv X pins σ H s):s.heap.NoLimit:=I.ok.mod.nolimit.keeps I.bk
theorem Inv.fr (I:Inv X pins σ H s):∃ m,Fr X.base X.env.locals s.heap m:=
 let ⟨m,hn,_⟩:=I.loc
 ⟨m,hn,I.bk,Nat.le_trans I.ok.bsz I.ok.above⟩
theorem Inv.lt (I:Inv X pins σ H s):X.env.locals < s.heap.objs.size:=let ⟨_,hn,_⟩:=I.loc; hn.lt
theorem Inv.sz (I:Inv X pins σ H s):X.s₀.heap.objs.size ≤ s.heap.objs.size:=Nat.le_trans I.ok.above (Nat.le_of_lt I.lt)
theorem Inv.nofs (I:Inv X pins σ H s) {a:Addr} (h:s.heap.objs.size ≤ a):a ∉ X.fs:=fun hb=>by
 obtain ⟨_,o,ho,_⟩:=I.ok.funs.mem hb
 exact absurd (Nat.lt_of_lt_of_le (Heap.lt_size ho) (Nat.le_trans I.sz h)) (Nat.lt_irrefl _)
theorem Inv.cne (I:Inv X pins σ H s):∀ x c,X.env.cells.lookup x=some c→c ≠ X.env.locals:=fun x c e z=>by
 obtain ⟨v,o,ho,hd⟩:=I.cell x c e
 obtain ⟨m,⟨o',es,ep,ho',hd',_⟩,_⟩:=I.loc
 rw [z,ho'] at ho; cases ho; rw [hd'] at hd; cases hd
theorem Inv.funs (I:Inv X pins σ H s):s.heap.FunFrames X.base X.outer:=by
 have all:∀ (l:List Env),(∀ b ∈ frs l,b ∈ X.fs)→X.s₀.heap.FunFrames X.base l→s.heap.FunFrames X.base l:=by
  intro l
  induction l with
  | nil=>intro _ _; trivial
  | cons env r ih=>
   intro hs hl
   obtain ⟨hk,⟨L,o,hf,hn,ho,hd⟩,hr⟩:=hl
   have hL:L ∈ X.fs:=hs L (by unfold frs; rw [List.filterMap_cons,hf]; exact List.mem_cons_self)
   obtain ⟨sl,e⟩:=I.base.slot L o ho (I.ok.frf L hL) hL fun z=>I.ok.exfs L z hL
   exact ⟨hk,⟨L,_,hf,hn,e,hd⟩,ih (fun b hb=>hs b (by unfold frs; rw [List.filterMap_cons,hf]; exact List.mem_cons_of_mem _ hb)) hr⟩
 exact all X.outer (fun _ hb=>hb) I.ok.funs
theorem Inv.stack (I:Inv X pins σ H s):s.heap.FunFrames X.base X.stack:=by
 rcases I.ok.stk with e | ⟨e,hf⟩
 ·rw [e]; exact I.funs
 ·rw [e]
  obtain ⟨m,hn,_⟩:=I.loc
  refine .cons (by rw [I.ok.kind]; decide) hf hn ?_ I.funs
  exact Heap.get?_none_of_le (Nat.le_trans I.ok.bsz I.ok.above)
theorem Inv.stkSub (I:Inv X pins σ H s):∀ b ∈ frs X.stack,b ∈ X.env.locals :: X.fs:=fun b hb=>by
 rcases I.ok.stk with e | ⟨e,hf⟩
 ·rw [e] at hb; exact List.mem_cons_of_mem _ hb
 ·rw [e] at hb
  unfold frs at hb
  rw [List.filterMap_cons,hf] at hb
  exact hb
theorem Inv.stkFree (I:Inv X pins σ H s):∀ b ∈ frs X.stack,H b=none:=fun b hb=>by
 rcases List.mem_cons.mp (I.stkSub b hb) with e | hb
 ·rw [e]; exact I.free
 ·obtain ⟨_,o,ho,_⟩:=I.ok.funs.mem hb
  exact I.base.free b o ho (I.ok.frf b hb) fun z=>I.ok.exfs b z hb
theorem Inv.step {g':Array GenState} {t':Nat} {d':Drawn} {ch:List Addr} (I:Inv X pins σ H s)
  (hch:∀ b ∈ ch,(b ∈ X.ex∨X.s₀.heap.objs.size ≤ b)∧b ≠ X.env.locals∧(∀ x c,X.env.cells.lookup x=some c→c ≠ b)∧∀ p ∈ X.pn ++ pins,p.1 ≠ b)
  (keep:∀ b o,b ≠ X.env.locals→b ∉ X.fs→b ∉ ch→s.heap.get? b=some o→H b=none→h'.get? b=some o)
  (slot:∀ b o,b ≠ X.env.locals→b ∈ X.fs→b ∉ ch→s.heap.get? b=some o→H b=none→∃ sl,h'.get? b=some { o with slots:=sl }) (free:∀ b o,b ∉ ch→s.heap.get? b=some o→H b=none→H' b=none)
  (there:∀ b o,b ∉ ch→s.heap.get? b=some o→∃ o',h'.get? b=some o')
  (tups:∀ b xs,H b=some (.tup xs)→H' b=some (.tup xs)) (frzs:∀ b o u,H b=some (.frz o u)→H' b=some (.frz o u)) (tbls:∀ b ps,H b=some (.tbl ps)→∃ more,H' b=some (.tbl (ps ++ more)))
  (ns:∀ m,s.heap.Ns X.env.locals m→h'.Ns X.env.locals m) (hok:HOk X.prog X.w H' h') (hg:AllBare g'):
  Inv X pins σ H' { s with heap:=h',gens:=g',drawn:=d',toks:=t' }:=by
 have neL:∀ b o,X.s₀.heap.get? b=some o→b ≠ X.env.locals:=fun b o e=>Nat.ne_of_lt (Nat.lt_of_lt_of_le (Heap.lt_size e) I.ok.above)
 have neC:∀ b o,X.s₀.heap.get? b=some o→b ∉ X.ex→b ∉ ch:=fun b o e hx hb=>by
  rcases (hch b hb).1 with z | z
  ·exact hx z
  ·exact absurd (Nat.lt_of_lt_of_le (Heap.lt_size e) z) (Nat.lt_irrefl _)
 have cellK:∀ x c,X.env.cells.lookup x=some c→∀ v,s.heap.IsCell c v→h'.IsCell c v:=fun x c e v ⟨o,ho,hd⟩=>by
  have nch:c ∉ ch:=fun z=>(hch c z).2.2.1 x c e rfl
  by_cases hc:c ∈ X.fs
  ·obtain ⟨sl,q⟩:=slot c o (I.cne x c e) hc nch ho (I.freeC x c e)
   exact ⟨_,q,hd⟩
  ·exact ⟨o,keep c o (I.cne x c e) hc nch ho (I.freeC x c e),hd⟩
 refine ⟨I.ok,I.os,hg,⟨fun b o e n hb hx=>?_,fun b o e n hb hx=>?_,fun b o e n hx=>?_,fun b o e hx=>?_,fun b xs e=>tups b xs (I.base.tups b xs e),fun b o xs e=>frzs b o xs (I.base.frzs b o xs e),fun b ps e=>?_⟩,?_,fun x c e=>?_,?_,fun x c e=>?_,fun p hp=>?_,hok,I.len⟩
 ·exact keep b o (neL b o e) hb (neC b o e hx) (I.base.keep b o e n hb hx) (I.base.free b o e n hx)
 ·obtain ⟨sl,e1⟩:=I.base.slot b o e n hb hx
  obtain ⟨sl',e2⟩:=slot b _ (neL b o e) hb (neC b o e hx) e1 (I.base.free b o e n hx)
  exact ⟨sl',e2⟩
 ·obtain ⟨o',e1⟩:=I.base.there b o e hx
  exact free b o' (neC b o e hx) e1 (I.base.free b o e n hx)
 ·obtain ⟨o',e1⟩:=I.base.there b o e hx
  exact there b o' (neC b o e hx) e1
 ·obtain ⟨m1,e1⟩:=I.base.tbls b ps e
  obtain ⟨m2,e2⟩:=tbls b _ e1
  exact ⟨m1 ++ m2,by rw [e2,Array.append_assoc]⟩
 ·obtain ⟨m,hn,hl⟩:=I.loc
  refine ⟨m,ns m hn,fun i x v e1 e2 e3=>?_⟩
  obtain ⟨u,r,l⟩:=hl i x v e1 e2 e3
  refine ⟨u,r,?_⟩
  rcases l with l | ⟨k,c,e,z⟩
  ·exact .inl l
  ·exact .inr ⟨k,c,e,cellK x c e _ z⟩
 ·obtain ⟨v,z⟩:=I.cell x c e
  exact ⟨v,cellK x c e v z⟩
 ·obtain ⟨m,⟨o,_,_,ho,_⟩,_⟩:=I.loc
  exact free _ o (fun z=>(hch _ z).2.1 rfl) ho I.free
 ·obtain ⟨v,o,ho,hd⟩:=I.cell x c e
  exact free c o (fun z=>(hch c z).2.2.1 x c e rfl) ho (I.freeC x c e)
 ·obtain ⟨e,n,ne,nf,d⟩:=I.pin p hp
  have nch:p.1 ∉ ch:=fun z=>(hch p.1 z).2.2.2 p hp rfl
  exact ⟨keep p.1 p.2 ne nf nch e n,free p.1 p.2 nch e n,ne,nf,d⟩
theorem Inv.un {t':Nat} (I:Inv X pins σ H s) (u:Un X.fs [] H H' s.heap h') (hok:HOk X.prog X.w H' h'):Inv X pins σ H' { s with heap:=h',toks:=t' }:=by
 obtain ⟨m,⟨o,es,ep,ho,r⟩,_⟩:=id I.loc
 obtain ⟨sl,hL⟩:=u.any ho I.free (by simp)
 exact I.step (g':=s.gens) (d':=s.drawn) (ch:=[]) (fun _ z=>nomatch z) (fun b o _ hb _ e n=>u.keep b o e n hb (by simp)) (fun b o _ hb _ e n=>u.slot b o e n hb (by simp)) (fun b o _ e n=>u.free b o e n (by simp)) (fun b o _ e=>u.there b o e (by simp)) u.tups u.frzs u.tbls (fun m' hm=>by
  obtain ⟨o',es',ep',ho',r'⟩:=hm
  rw [ho] at ho'; cases ho'
  exact ⟨_,es',ep',hL,r'⟩) hok I.bare
theorem Inv.call {g':Array GenState} {t':Nat} {d':Drawn} {ch:List Addr} (I:Inv X pins σ H s) (u:Un (frs X.stack) ch H H' s.heap h') (hok:HOk X.prog X.w H' h') (hg:AllBare g')
  (hch:∀ b ∈ ch,(b ∈ X.ex∨X.s₀.heap.objs.size ≤ b)∧b ≠ X.env.locals∧(∀ x c,X.env.cells.lookup x=some c→c ≠ b)∧∀ p ∈ X.pn ++ pins,p.1 ≠ b):
  Inv X pins σ H' { s with heap:=h',gens:=g',drawn:=d',toks:=t' }:=by
 obtain ⟨m,⟨o,es,ep,ho,r⟩,_⟩:=id I.loc
 obtain ⟨sl,hL⟩:=u.any ho I.free fun z=>(hch _ z).2.1 rfl
 exact I.step (ch:=ch) hch (fun b o hL hb hc e n=>u.keep b o e n (fun z=>(List.mem_cons.mp (I.stkSub b z)).elim hL hb) hc) (fun b o _ _ hc e n=>u.any e n hc) (fun b o hc e n=>u.free b o e n hc) (fun b o hc e=>u.there b o e hc) u.tups u.frzs u.tbls (fun m' hm=>by
  obtain ⟨o',es',ep',ho',r'⟩:=hm
  rw [ho] at ho'; cases ho'
  exact ⟨_,es',ep',hL,r'⟩) hok hg
theorem Inv.turned {t':Nat} {it:Addr} (I:Inv X pins σ H s) (k:∀ b o,b ≠ it→s.heap.get? b=some o→h'.get? b=some o) (hn:H it=none) (hL:it ≠ X.env.locals)
  (h1:it ∈ X.ex∨X.s₀.heap.objs.size ≤ it) (h2:∀ x c,X.env.cells.lookup x=some c→c ≠ it) (h3:∀ p ∈ X.pn ++ pins,p.1 ≠ it):Inv X pins σ H { s with heap:=h',toks:=t' }:=by
 have nit:∀ b u,H b=some u→b ≠ it:=fun b u e z=>by rw [z,hn] at e; cases e
 refine I.step (g':=s.gens) (d':=s.drawn) (ch:=[it]) (fun b hb=>?_) (fun b o _ _ hc e _=>k b o (fun z=>hc (by simp [z])) e) (fun b o _ _ hc e _=>⟨o.slots,k b o (fun z=>hc (by simp [z])) e⟩) (fun _ _ _ _ n=>n)
  (fun b o hc e=>⟨o,k b o (fun z=>hc (by simp [z])) e⟩) (fun _ _ e=>e) (fun _ _ _ e=>e) (fun b ps e=>⟨#[],by rw [e]; simp⟩) (fun m hm=>?_) (fun b u e=>?_) I.bare
 ·have e:b=it:=by simpa using hb
  subst e
  exact ⟨h1,hL,h2,h3⟩
 ·obtain ⟨o,es,ep,ho,r⟩:=hm
  exact ⟨o,es,ep,k _ o (Ne.symm hL) ho,r⟩
 ·refine (I.hok b u e).stay (fun c v hc q=>k c v ?_ q) (fun _ q=>q) fun _ _ q=>q
  rcases hc with z | z
  ·rw [z]; exact nit b u e
  ·exact nit c _ z
theorem Inv.tok (I:Inv X pins σ H s) (t:Nat):Inv X pins σ H { s with toks:=t }:=I.un (h':=s.heap) (t':=t) Un.refl I.hok
theorem Inv.kept {t':Nat} (I:Inv X pins σ H s) (k:∀ b u,s.heap.get? b=some u→h'.get? b=some u):Inv X pins σ H { s with heap:=h',toks:=t' }:=I.un (Un.kept k) (I.hok.kept k)
theorem Inv.laid {a:Addr} {o:HO} {t':Nat} (I:Inv X pins σ H s) (k:∀ b u,s.heap.get? b=some u→h'.get? b=some u) (hp:s.heap.objs.size ≤ a) (new:ObjOk X.prog X.w (upd H a o) h' a o):
  Inv X pins σ (upd H a o) { s with heap:=h',toks:=t' }:=I.un (Un.laid k hp (I.hok.fresh hp)) (I.hok.laid k hp new)
theorem Inv.write {x e:Addr} {o:HO} {t':Nat} (I:Inv X pins σ H s) (mu:Mut (H x)) (he:e=x∨H e=some (.own x)) (k:∀ b u,b ≠ e→s.heap.get? b=some u→h'.get? b=some u) (heo:∃ u,h'.get? e=some u)
  (new:ObjOk X.prog X.w (upd H x o) h' x o):Inv X pins σ (upd H x o) { s with heap:=h',toks:=t' }:=I.un (Un.write mu he k heo) (I.hok.write mu he k heo new)
theorem Inv.weak {σ':List (Option V)} (I:Inv X pins σ H s) (hl:σ'.length=σ.length) (w:∀ (i:Nat) v,σ'[i]? = some (some v)→σ[i]? = some (some v)):Inv X pins σ' H s:=
 ⟨I.ok,I.os,I.bare,I.base,let ⟨m,hn,hl'⟩:=I.loc; ⟨m,hn,fun i x v e1 e2 e3=>hl' i x v e1 (w i v e2) e3⟩,I.cell,I.free,I.freeC,I.pin,I.hok,hl.trans I.len⟩
theorem Inv.pins_of {pins':List (Addr × Obj)} (I:Inv X pins σ H s) (h:∀ p ∈ pins',s.heap.get? p.1=some p.2∧H p.1=none∧p.1 ≠ X.env.locals∧p.1 ∉ X.fs∧∀ v,p.2.data ≠ .cell v):Inv X pins' σ H s:=
 ⟨I.ok,I.os,I.bare,I.base,I.loc,I.cell,I.free,I.freeC,fun p hp=>(List.mem_append.mp hp).elim (fun z=>I.pin p (List.mem_append_left _ z)) (h p),I.hok,I.len⟩
theorem u6 {N:List Str} (hN:N.Nodup) {i j:Nat} {x:Str} (a:N[i]? = some x) (b:N[j]? = some x):i=j:=by
 obtain ⟨h1,e1⟩:=List.getElem?_eq_some_iff.mp a
 obtain ⟨h2,e2⟩:=List.getElem?_eq_some_iff.mp b
 exact (List.getElem_inj hN).mp (e1.trans e2.symm)
theorem nB {M:Model} {A:Around} {E:Value→Shared→Prop} {i:Nat} {x:Str} {v:V} {u:Value} {Q:Unit→Shared→Prop} (I:Inv X pins σ H s) (hN:X.N.Nodup) (hi:X.N[i]? = some x) (hx:Loc X.env.scope x) (r:RelV v u)
  (h:∀ s',Inv X pins (σ.set i (some v)) H s'→(∃ a,Heap.SameBut a s.heap s'.heap∧(a=X.env.locals∨X.env.cells.lookup x=some a))→Q () s') (hf:X.fn x=true∨X.env.scope.names.lookup x=some .local:=by first | exact .inl rfl | exact .inr rfl | assumption):wpAny M A (storeName X.env x u) Q E s:=by
 obtain ⟨m,hn,hl⟩:=id I.loc
 have hcls:(X.env.scope.kind == .class || (X.env.scope.kind == .module && X.env.locals != X.env.globals))=false:=by rw [I.ok.kind]; rfl
 have hiσ:i < σ.length:=by rw [I.len]; exact (List.getElem?_eq_some_iff.mp hi).1
 have cne:=I.cne
 have tracked:∀ {a:Addr} {h':Heap},(∃ o,s.heap.get? a=some o∧H a=none)→Heap.SameBut a s.heap h'→HOk X.prog X.w H h':=fun {a h'} ha hs b ob e=>by
  obtain ⟨_,_,hfree⟩:=ha
  refine (I.hok b ob e).stay (fun c w' hc q=>(hs.2 c ?_).trans q) (fun _ q=>q) fun _ _ q=>q
  rintro rfl
  rcases hc with rfl | hc
  ·rw [hfree] at e; cases e
  ·rw [hfree] at hc; cases hc
 rcases hx with hk | hk
 ·refine wpAny_storeName_local hk hn (fun h' hn' hs=>?_) hcls
  obtain ⟨oL,_,_,hoL,_⟩:=id hn
  refine h _ ⟨I.ok,I.os,I.bare,⟨fun b o e n hb hx=>?_,fun b o e n hb hx=>?_,I.base.free,fun b o e hx=>?_,I.base.tups,I.base.frzs,I.base.tbls⟩,⟨_,hn',fun j y v' e1 e2 e3=>?_⟩,fun y c e=>?_,I.free,I.freeC,fun p hp=>?_,tracked ⟨oL,hoL,I.free⟩ hs,by simpa using I.len⟩ ⟨_,hs,.inl rfl⟩
  ·exact (hs.2 b (Nat.ne_of_lt (Nat.lt_of_lt_of_le (Heap.lt_size e) I.ok.above))).trans (I.base.keep b o e n hb hx)
  ·obtain ⟨sl,e1⟩:=I.base.slot b o e n hb hx
   exact ⟨sl,(hs.2 b (Nat.ne_of_lt (Nat.lt_of_lt_of_le (Heap.lt_size e) I.ok.above))).trans e1⟩
  ·obtain ⟨o',e1⟩:=I.base.there b o e hx
   exact ⟨o',(hs.2 b (Nat.ne_of_lt (Nat.lt_of_lt_of_le (Heap.lt_size e) I.ok.above))).trans e1⟩
  ·by_cases hj:j=i
   ·subst hj
    rw [hi] at e1; cases e1
    rw [List.getElem?_set_self hiσ] at e2
    cases e2
    exact ⟨u,r,.inl ⟨hk,by simp⟩⟩
   ·rw [List.getElem?_set_ne (Ne.symm hj)] at e2
    obtain ⟨u',r',q⟩:=hl j y v' e1 e2 e3
    refine ⟨u',r',?_⟩
    rcases q with ⟨k,e⟩ | ⟨k,c,e,z⟩
    ·refine .inl ⟨k,?_⟩
     have:y ≠ x:=fun e=>hj (u6 hN e1 (e ▸ hi))
     simp [this,e]
    ·exact .inr ⟨k,c,e,z.sameBut hs (cne y c e)⟩
  ·obtain ⟨w',z⟩:=I.cell y c e
   exact ⟨w',z.sameBut hs (cne y c e)⟩
  ·obtain ⟨e,n,ne,nf,d⟩:=I.pin p hp
   exact ⟨(hs.2 p.1 ne).trans e,n,ne,nf,d⟩
 ·have hfn:X.fn x=true:=by
   rcases hf with z | z
   ·exact z
   ·rw [z] at hk; cases hk
  obtain ⟨c,hc⟩:=I.ok.has x (.inl hk)
  obtain ⟨w',z⟩:=I.cell x c hc
  refine wpAny_storeName_cell I.ok.kind hk hc z (fun h' hc' hs=>?_)
  obtain ⟨oc,hoc,hocd⟩:=id z
  refine h { s with heap:=h' } ⟨I.ok,I.os,I.bare,⟨fun b o e n hb hx=>?_,fun b o e n hb hx=>?_,I.base.free,fun b o e hx=>?_,I.base.tups,I.base.frzs,I.base.tbls⟩,⟨m,hn.sameBut hs (Ne.symm (cne x c hc)),fun j y v' e1 e2 e3=>?_⟩,fun y c' e=>?_,I.free,I.freeC,fun p hp=>?_,tracked ⟨oc,hoc,I.freeC x c hc⟩ hs,by simpa using I.len⟩ ⟨c,hs,.inr hc⟩
  ·exact (hs.2 b (Nat.ne_of_lt (Nat.lt_of_lt_of_le (Heap.lt_size e) (I.ok.cab x c hfn hc)))).trans (I.base.keep b o e n hb hx)
  ·obtain ⟨sl,e1⟩:=I.base.slot b o e n hb hx
   exact ⟨sl,(hs.2 b (Nat.ne_of_lt (Nat.lt_of_lt_of_le (Heap.lt_size e) (I.ok.cab x c hfn hc)))).trans e1⟩
  ·obtain ⟨o',e1⟩:=I.base.there b o e hx
   exact ⟨o',(hs.2 b (Nat.ne_of_lt (Nat.lt_of_lt_of_le (Heap.lt_size e) (I.ok.cab x c hfn hc)))).trans e1⟩
  ·by_cases hj:j=i
   ·subst hj
    rw [hi] at e1; cases e1
    rw [List.getElem?_set_self hiσ] at e2
    cases e2
    exact ⟨u,r,.inr ⟨.inl hk,c,hc,hc'⟩⟩
   ·rw [List.getElem?_set_ne (Ne.symm hj)] at e2
    obtain ⟨u',r',q⟩:=hl j y v' e1 e2 e3
    refine ⟨u',r',?_⟩
    rcases q with q | ⟨k,c',e,z'⟩
    ·exact .inl q
    ·refine .inr ⟨k,c',e,z'.sameBut hs ?_⟩
     rintro rfl
     exact hj (u6 hN e1 (I.ok.inj _ _ _ e hc ▸ hi))
  ·by_cases hcc:c'=c
   ·subst hcc; exact ⟨_,hc'⟩
   ·obtain ⟨w2,z2⟩:=I.cell y c' e
    exact ⟨w2,z2.sameBut hs hcc⟩
  ·obtain ⟨e,n,ne,nf,d⟩:=I.pin p hp
   refine ⟨(hs.2 p.1 ?_).trans e,n,ne,nf,d⟩
   intro q
   rw [q,hoc] at e
   have q':oc=p.2:=Option.some.inj e
   exact d w' (by rw [← q']; exact hocd)
theorem xR {M:Model} {A:Around} {E:Value→Shared→Prop} {i:Nat} {x:Str} {v:V} {u:Value} {Q:Unit→Shared→Prop} (I:Inv X pins σ H s) (hN:X.N.Nodup) (hi:X.N[i]? = some x) (hx:Loc X.env.scope x) (r:RelV v u)
  (h:∀ s',Inv X pins (σ.set i (some v)) H s'→Q () s') (hf:X.fn x=true∨X.env.scope.names.lookup x=some .local:=by first | exact .inl rfl | exact .inr rfl | assumption):wpAny M A (storeName X.env x u) Q E s:=
 nB I hN hi hx r (fun s' I' _=>h s' I') hf
theorem Inv.call' {s':Shared} {ch:List Addr} (I:Inv X pins σ H s) (ho:s'.os=s.os) (u:Un (frs X.stack) ch H H' s.heap s'.heap) (hok:HOk X.prog X.w H' s'.heap) (hg:AllBare s'.gens)
  (hch:∀ b ∈ ch,(b ∈ X.ex∨X.s₀.heap.objs.size ≤ b)∧b ≠ X.env.locals∧(∀ x c,X.env.cells.lookup x=some c→c ≠ b)∧∀ p ∈ X.pn ++ pins,p.1 ≠ b):Inv X pins σ H' s':=by
 obtain ⟨h',g',d',t',o'⟩:=s'
 have e:o'=s.os:=ho
 subst e
 exact I.call (g':=g') (t':=t') (d':=d') u hok hg hch
end
abbrev XK:=Value→Option Addr→Hp→Prop
abbrev St:=List (Option V)
abbrev VK:=V→Hp→Prop
abbrev TE:=St→Hp→VK→Prop
abbrev TT:=St→Hp→(Bool→Hp→Prop)→Prop
abbrev TA:=St→Hp→(List V→Hp→Prop)→Prop
structure Ends where
 nx:St→Hp→Prop
 rt:VK
 bk:St→Hp→Prop:=fun _ _=>False
 ct:St→Hp→Prop:=fun _ _=>False
abbrev TS:=Ends→St→Hp→Prop
def EP (X:Cx) (pins:List (Addr × Obj)) (σ:St) (Q:VK) (u:Value) (s':Shared):Prop:=∃ v H',Inv X pins σ H' s'∧RelV v u∧Q v H'
def TP (X:Cx) (pins:List (Addr × Obj)) (σ:St) (Q:Bool→Hp→Prop) (b:Bool) (s':Shared):Prop:=∃ H',Inv X pins σ H' s'∧Q b H'
def AP (X:Cx) (pins:List (Addr × Obj)) (σ:St) (Q:List V→Hp→Prop) (us:List Value) (s':Shared):Prop:=∃ vs H',Inv X pins σ H' s'∧Vals vs us∧Q vs H'
def SP (X:Cx) (pins:List (Addr × Obj)) (D:Ends) (f:Flow) (s':Shared):Prop:=
 match f with
 | .next=>∃ σ' H',Inv X pins σ' H' s'∧D.nx σ' H'
 | .brk=>∃ σ' H',Inv X pins σ' H' s'∧D.bk σ' H'
 | .cont=>∃ σ' H',Inv X pins σ' H' s'∧D.ct σ' H'
 | .ret u=>∃ v σ' H',Inv X pins σ' H' s'∧RelV v u∧D.rt v H'
def PE (X:Cx) (e:Expr) (t:TE):Prop:=
 ∀ (pins:List (Addr × Obj)) (s:Shared) (σ:St) (H:Hp) (Q:VK),Inv X pins σ H s→t σ H Q→wpAny (model X.prog X.w) X.A (eval e X.env) (EP X pins σ Q) X.xe s
def PT (X:Cx) (e:Expr) (t:TT):Prop:=
 ∀ (pins:List (Addr × Obj)) (s:Shared) (σ:St) (H:Hp) (Q:Bool→Hp→Prop),Inv X pins σ H s→t σ H Q→wpAny (model X.prog X.w) X.A (isTrue e X.env (eval e X.env)) (TP X pins σ Q) X.xe s
def PW (X:Cx) (e:Expr) (t:TT):Prop:=
 ∀ (yw:Sem Value) (pins:List (Addr × Obj)) (s:Shared) (σ:St) (H:Hp) (Q:Bool→Hp→Prop),Inv X pins σ H s→t σ H Q→wpAny (model X.prog X.w) X.A (isTrue e X.env yw) (TP X pins σ Q) X.xe s
theorem PW.pt {X:Cx} {e:Expr} {t:TT} (h:PW X e t):PT X e t:=h _
def PA (X:Cx) (es:List Expr) (t:TA):Prop:=
 ∀ (pos:Pos) (pins:List (Addr × Obj)) (s:Shared) (σ:St) (H:Hp) (Q:List V→Hp→Prop),Inv X pins σ H s→t σ H Q→wpAny (model X.prog X.w) X.A (spliced (backTo pos (starEach es X.env))) (AP X pins σ Q) X.xe s
def PS (X:Cx) (st:Stmt) (t:TS):Prop:=
 ∀ (pins:List (Addr × Obj)) (s:Shared) (σ:St) (H:Hp) (D:Ends),Inv X pins σ H s→t D σ H→wpAny (model X.prog X.w) X.A (exec st X.env) (SP X pins D) X.xe s
def PSs (X:Cx) (st:List Stmt) (t:TS):Prop:=
 ∀ (pins:List (Addr × Obj)) (s:Shared) (σ:St) (H:Hp) (D:Ends),Inv X pins σ H s→t D σ H→wpAny (model X.prog X.w) X.A (execs st X.env) (SP X pins D) X.xe s
theorem thn {α:Type} {t:Sem α} {Q Q':α→Shared→Prop} {M:Model} {A:Around} {E:Value→Shared→Prop} {s:Shared} (h:wpAny M A t Q E s) (hQ:∀ a s,Q a s→Q' a s):wpAny M A t Q' E s:=wpAny_mono h hQ fun _ _ x=>x
end L2
namespace L2
open PySem PySem.Spec PyProof.Rows
section
variable {X:Cx}
theorem bin {a b:Expr} {ta tb:TE} (ha:PE X a ta) (hb:PE X b tb) {pins:List (Addr × Obj)} {s:Shared} {σ:St} {H:Hp} {R:V→V→Hp→Prop} (I:Inv X pins σ H s) (h:ta σ H fun x H1=>tb σ H1 fun y H2=>R x y H2)
  {α:Type} {Q:α→Shared→Prop} {f:Value→Value→Sem α}
  (hf:∀ v u s2 x y H2,Inv X pins σ H2 s2→RelV x v→RelV y u→R x y H2→wpAny (model X.prog X.w) X.A (f v u) Q X.xe s2):
  wpAny (model X.prog X.w) X.A (eval a X.env) (fun v s₁=>wpAny (model X.prog X.w) X.A (eval b X.env) (fun u s₂=>wpAny (model X.prog X.w) X.A (f v u) Q X.xe s₂) X.xe s₁) X.xe s:=by
 refine thn (ha pins s σ H _ I h) fun v s1 ⟨x,H1,I1,r1,q1⟩=>?_
 refine thn (hb pins s1 σ H1 _ I1 q1) fun u s2 ⟨y,H2,I2,r2,q2⟩=>?_
 exact hf v u s2 x y H2 I2 r1 r2 q2
def kI (i:Nat):TE:=fun σ H Q=>∃ v,σ[i]? = some (some v)∧Q v H
def tC (v:V):TE:=fun _ H Q=>Q v H
theorem y3 {i:Nat} {x:Str} {pos:Pos} (hN:X.N[i]? = some x) (hv:Vis X.env.scope x) (hd:(x == ("__debug__":Str))=false:=by decide) (hcd:(x == ("__classdict__":Str))=false:=by decide):PE X (.Name x pos) (kI i):=by
 intro pins s σ H Q I h
 obtain ⟨v,e,h⟩:=h
 obtain ⟨m,hn,hl⟩:=I.loc
 obtain ⟨u,r,l⟩:=hl i x v hN e hv
 have fin:EP X pins σ Q u s:=⟨v,H,I,r,h⟩
 rcases l with ⟨hk,hm⟩ | ⟨hk,c,hc,hcell⟩
 ·exact wpAny_Name (wpAny_loadName_local I.ok.kind hk hn hm fin) hd
 ·rcases hk with hk | hk
  ·exact wpAny_Name (wpAny_loadName_cell I.ok.kind hk hc hcell fin) hd
  ·exact wpAny_Name (wpAny_loadName_free I.ok.kind hk hc hcell fin hcd) hd
theorem h_ {i j pos}:PE X (.Constant (.int i) j pos) (tC (.int i)):=fun _ _ _ H _ I h=>wpAny_Constant_int ⟨.int i,H,I.tok _,⟨_,rfl⟩,h⟩
theorem fQ {b j pos}:PE X (.Constant (.bool b) j pos) (tC (.bl b)):=fun _ _ _ H _ I h=>Constant_bool ⟨.bl b,H,I,rfl,h⟩
theorem h8 {j pos}:PE X (.Constant .none j pos) (tC .non):=fun _ _ _ H _ I h=>Constant_none ⟨.non,H,I,rfl,h⟩
theorem hV {x j pos}:PE X (.Constant (.str x) j pos) (tC (.str x)):=fun _ _ _ H _ I h=>Calls.Constant_str ⟨.str x,H,I.tok _,⟨_,rfl⟩,h⟩
def Gl (X:Cx) (x:Str):Prop:=X.env.kindOf x=some .globalImplicit
theorem xH {E:Value→Shared→Prop} {pins:List (Addr × Obj)} {s:Shared} {σ:St} {H:Hp} {x:Str} {u:Value} {pos:Pos} {Q:Value→Shared→Prop} (I:Inv X pins σ H s) (hg:Gl X x) (hm:X.mg x=some u) (h:Q u s)
  (hd:(x == ("__debug__":Str))=false:=by decide):wpAny (model X.prog X.w) X.A (eval (.Name x pos) X.env) Q E s:=
 Calls.Name_function_global I.ok.kind hg (Calls.loadGlobal_global (by rw [I.ok.glob]; exact I.mod.glob.keeps I.bk) hm h) hd
theorem xl {E:Value→Shared→Prop} {pins:List (Addr × Obj)} {s:Shared} {σ:St} {H:Hp} {x:Str} {u:Value} {pos:Pos} {Q:Value→Shared→Prop} (I:Inv X pins σ H s) (hg:Gl X x) (hm:X.mg x=none) (hv:bootBuiltins x=some u) (h:Q u s)
  (hn:x ≠ "__name__":=by decide) (hd:(x == ("__debug__":Str))=false:=by decide):wpAny (model X.prog X.w) X.A (eval (.Name x pos) X.env) Q E s:=by
 obtain ⟨mb,h1,h2⟩:=I.mod.blt
 exact Calls.Name_function_global I.ok.kind hg (Calls.loadGlobal_builtin (by rw [I.ok.glob]; exact I.mod.glob.keeps I.bk) hm (by rw [I.ok.blt]; exact h1.keeps I.bk) ((h2 x hn).trans hv) h) hd
theorem oI {x:Str} {v:V} {u:Value} {pos:Pos} (hg:Gl X x) (hm:X.mg x=some u) (r:RelV v u) (hd:(x == ("__debug__":Str))=false:=by decide):PE X (.Name x pos) (tC v):=
 fun _ _ _ H _ I h=>xH I hg hm ⟨v,H,I,r,h⟩ hd
theorem jd {x:Str} {v:V} {u:Value} {pos:Pos} (hg:Gl X x) (hm:X.mg x=none) (hv:bootBuiltins x=some u) (r:RelV v u) (hn:x ≠ "__name__":=by decide) (hd:(x == ("__debug__":Str))=false:=by decide):PE X (.Name x pos) (tC v):=
 fun _ _ _ H _ I h=>xl I hg hm hv ⟨v,H,I,r,h⟩ hn hd
variable {a b:Expr} {ta tb:TE} {pos:Pos}
def PC (X:Cx) (op:CmpOp) (a b:Expr) (t:TE):Prop:=
 ∀ (pins:List (Addr × Obj)) (s:Shared) (σ:St) (H:Hp) (Q:VK),Inv X pins σ H s→t σ H Q→
  wpAny (model X.prog X.w) X.A (eval a X.env) (fun v s₁=>wpAny (model X.prog X.w) X.A (eval b X.env) (fun u s₂=>wpAny (model X.prog X.w) X.A (compareOp op v u) (EP X pins σ Q) X.xe s₂) X.xe s₁) X.xe s
theorem lm (b:Expr) {op:CmpOp} (h:op ≠ .In) (h2:op ≠ .NotIn):behindInMarks op b=false:=by
 have e1:(op == CmpOp.In)=false:=by cases op <;> first | rfl | exact absurd rfl h
 have e2:(op == CmpOp.NotIn)=false:=by cases op <;> first | rfl | exact absurd rfl h2
 cases b <;> simp [behindInMarks,e1,e2]
def fw (ta:TE):TE:=fun σ H Q=>ta σ H fun x H1=>Q (.bl (decide (x=.non))) H1
theorem RelV.none_iff {x:V} {v:Value} (r:RelV x v):(v == Value.none)=decide (x=.non):=by
 cases x with
 | non=>cases r; rfl
 | bl _=>cases r; rfl
 | int _=>obtain ⟨t,rfl⟩:=r; rfl
 | str _=>obtain ⟨t,rfl⟩:=r; rfl
 | byt _=>obtain ⟨t,rfl⟩:=r; rfl
 | flt _=>obtain ⟨t,rfl⟩:=r; rfl
 | ref _=>cases r; rfl
 | ty _=>cases r; rfl
theorem ge {j pos'} (ha:PE X a ta):PC X .Is a (.Constant .none j pos') (fw ta):=by
 intro pins s σ H Q I h
 refine thn (ha pins s σ H _ I h) fun v s1 ⟨x,H1,I1,r1,q1⟩=>?_
 exact Constant_none (is_none_gen ⟨.bl _,H1,I1,by rw [r1.none_iff]; rfl,q1⟩)
def tB (t:TE):TT:=fun σ H Q=>t σ H fun x H1=>∃ c,x=.bl c∧Q c H1
theorem i8 {op:CmpOp} {t:TE} (h:PC X op a b t) (h1:behindInMarks op b=false:=by first | exact lm _ (by decide) (by decide) | rfl):PT X (.Compare a [op] [b] pos) (tB t):=by
 intro pins s σ H Q I hw
 refine wpAny_isTrue_Compare1 (thn (h pins s σ H _ I hw) fun v s1 h1=>thn h1 fun u s2 h2=>thn h2 fun c s3 ⟨x,H1,I1,r1,q1⟩=>?_) h1
 obtain ⟨d,rfl,q⟩:=q1
 cases r1
 exact wpAny_truthy_bool ⟨H1,I1,q⟩
theorem i6 {e:Expr} {t:TE} (h:PE X e t) (he:∀ yw,isTrue e X.env yw=(do let v ← yw; standAt e.pos; holding [v] (truthy v)):=by intro _; rfl):PT X e (tB t):=by
 intro pins s σ H Q I hw
 refine isTrue_plain (thn (h pins s σ H _ I hw) fun v s1 ⟨x,H1,I1,r1,q1⟩=>?_) (he _)
 obtain ⟨d,rfl,q⟩:=q1
 cases r1
 exact wpAny_truthy_bool ⟨H1,I1,q⟩
variable {tA tB':TT} {yq:List Expr}
def d9 (t u:TT):TT:=fun σ H Q=>t σ H fun c H1=>if c=true then u σ H1 Q else Q false H1
def tOr (t u:TT):TT:=fun σ H Q=>t σ H fun c H1=>if c=true then Q true H1 else u σ H1 Q
def dY (t:TT):TT:=fun σ H Q=>t σ H fun c H1=>Q (!c) H1
theorem kT (ha:PT X a tA):PW X (.BoolOp .And [a] pos) tA:=by
 intro wh pins s σ H Q I h
 refine isTrue_and (thn (ha pins s σ H Q I h) fun c s1 e=>?_)
 cases c with
 | true=>exact isTrue_and_nil e
 | false=>exact e
theorem iZ (ha:PT X a tA):PW X (.BoolOp .Or [a] pos) tA:=by
 intro wh pins s σ H Q I h
 refine isTrue_or (thn (ha pins s σ H Q I h) fun c s1 e=>?_)
 cases c with
 | false=>exact isTrue_or_nil e
 | true=>exact e
theorem i0 (ha:PT X a tA) (hb:PW X (.BoolOp .And (b :: yq) pos) tB'):PW X (.BoolOp .And (a :: b :: yq) pos) (d9 tA tB'):=by
 intro wh pins s σ H Q I h
 refine isTrue_and (thn (ha pins s σ H _ I h) fun c s1 ⟨H1,I1,q1⟩=>?_)
 cases c with
 | true=>exact hb wh pins s1 σ H1 Q I1 q1
 | false=>exact ⟨H1,I1,q1⟩
theorem fL (ha:PT X a tA) (hb:PW X (.BoolOp .Or (b :: yq) pos) tB'):PW X (.BoolOp .Or (a :: b :: yq) pos) (tOr tA tB'):=by
 intro wh pins s σ H Q I h
 refine isTrue_or (thn (ha pins s σ H _ I h) fun c s1 ⟨H1,I1,q1⟩=>?_)
 cases c with
 | true=>exact ⟨H1,I1,q1⟩
 | false=>exact hb wh pins s1 σ H1 Q I1 q1
theorem i7 (ha:PT X a tA):PT X (.UnaryOp .Not a pos) (dY tA):=by
 intro pins s σ H Q I h
 exact isTrue_not (ha pins s σ H (fun c H1=>Q (!c) H1) I h)
def fE (ta tb:TE):TE:=fun σ H Q=>ta σ H fun x H1=>∃ c,x=.bl c∧if c=true then tb σ H1 Q else Q (.bl false) H1
def dX (ta tb:TE):TE:=fun σ H Q=>ta σ H fun x H1=>∃ c,x=.bl c∧if c=true then Q (.bl true) H1 else tb σ H1 Q
def fq (ta:TE):TE:=fun σ H Q=>ta σ H fun x H1=>∃ c,x=.bl c∧Q (.bl (!c)) H1
theorem hW {op} {t:TE} (h:PE X a t):PE X (.BoolOp op [a] pos) t:=fun pins s σ H Q I hw=>BoolOp_one (h pins s σ H Q I hw)
theorem gc (ha:PE X a ta) (hb:PE X (.BoolOp .And (b :: yq) pos) tb):PE X (.BoolOp .And (a :: b :: yq) pos) (fE ta tb):=by
 intro pins s σ H Q I h
 refine BoolOp_and (thn (ha pins s σ H _ I h) fun v s1 ⟨x,H1,I1,r1,q1⟩=>?_)
 obtain ⟨c,rfl,q1⟩:=q1
 cases r1
 refine wpAny_truthy_bool ?_
 cases c with
 | true=>exact hb pins s1 σ H1 Q I1 q1
 | false=>exact ⟨.bl false,H1,I1,rfl,q1⟩
theorem fO (ha:PE X a ta) (hb:PE X (.BoolOp .Or (b :: yq) pos) tb):PE X (.BoolOp .Or (a :: b :: yq) pos) (dX ta tb):=by
 intro pins s σ H Q I h
 refine BoolOp_or (thn (ha pins s σ H _ I h) fun v s1 ⟨x,H1,I1,r1,q1⟩=>?_)
 obtain ⟨c,rfl,q1⟩:=q1
 cases r1
 refine wpAny_truthy_bool ?_
 cases c with
 | false=>exact hb pins s1 σ H1 Q I1 q1
 | true=>exact ⟨.bl true,H1,I1,rfl,q1⟩
theorem hZ (ha:PE X a ta):PE X (.UnaryOp .Not a pos) (fq ta):=by
 intro pins s σ H Q I h
 refine UnaryOp_ (thn (ha pins s σ H _ I h) fun v s1 ⟨x,H1,I1,r1,q1⟩=>?_)
 obtain ⟨c,rfl,q1⟩:=q1
 cases r1
 exact not_of (wpAny_truthy_bool ⟨.bl (!c),H1,I1,rfl,q1⟩)
end
end L2
namespace L2
open PySem PySem.Spec PyProof.Rows
def SqL (K:PySem.W.Frag) (H:Hp) (a:Addr) (xs:List V):Prop:=
 Rd H a (.lst xs)∨
  ∃ (o:Obj) (its:Array Value) (n:Nat),K.lookup a=some o∧o.cls=.type "list"∧o.dict=none∧o.data=.seq its n∧its.size ≤ sizeLine∧Vals xs its.toList
def SqT (K:PySem.W.Frag) (H:Hp) (a:Addr) (xs:List V):Prop:=
 Rd H a (.tup xs)∨
  ∃ (o:Obj) (its:Array Value) (n:Nat),K.lookup a=some o∧o.cls=.type "tuple"∧o.data=.seq its n∧its.size ≤ sizeLine∧Vals xs its.toList
def cL:Value→Option V
 | .none=>some .non
 | .bool b=>some (.bl b)
 | .int i _=>some (.int i)
 | .str x _=>some (.str x)
 | .bytes b _=>some (.byt b)
 | .float b _=>some (.flt b)
 | .ref a=>some (.ref a)
 | .type n=>some (.ty n)
 | _=>none
theorem RelV.abs {x:V} {u:Value} (r:RelV x u):cL u=some x:=by
 cases x with
 | non=>cases r; rfl
 | bl _=>cases r; rfl
 | int _=>obtain ⟨t,rfl⟩:=r; rfl
 | str _=>obtain ⟨t,rfl⟩:=r; rfl
 | byt _=>obtain ⟨t,rfl⟩:=r; rfl
 | flt _=>obtain ⟨t,rfl⟩:=r; rfl
 | ref _=>cases r; rfl
 | ty _=>cases r; rfl
theorem RelV.inj {x y:V} {u:Value} (r:RelV x u) (q:RelV y u):x=y:=Option.some.inj (r.abs.symm.trans q.abs)
theorem Vals.inj:∀ {xs ys:List V} {us:List Value},Vals xs us→Vals ys us→xs=ys
 | _,_,_,.nil,.nil=>rfl
 | _,_,_,.cons r t,.cons r' t'=>by rw [r.inj r',Vals.inj t t']
section
variable {X:Cx} {pins:List (Addr × Obj)} {σ:St} {H:Hp} {s:Shared} {a:Addr} {xs ys:List V}
theorem SqL.of {K:PySem.W.Frag} (h:H a=some (.lst xs)):SqL K H a xs:=.inl (.inl h)
theorem SqT.of {K:PySem.W.Frag} (h:H a=some (.tup xs)):SqT K H a xs:=.inl (.inl h)
theorem Inv.list (I:Inv X pins σ H s) (h:SqL X.K H a xs):∃ its:List Value,Vals xs its∧PlainL s.heap a its.toArray∧xs.length ≤ sizeLine:=by
 rcases h with h | ⟨o,its,n,hk,hc,hd,hs,hz,r⟩
 ·obtain ⟨z,its,n,r,e⟩:=h.ok I.hok
  exact ⟨its,r,⟨_,n,e,rfl,rfl,rfl⟩,z⟩
 ·refine ⟨its.toList,r,⟨o,n,I.kIn a o hk,hc,hd,by simpa using hs⟩,?_⟩
  have e:=r.length
  simp only [Array.length_toList] at e
  omega
theorem Inv.tuple (I:Inv X pins σ H s) (h:SqT X.K H a xs):∃ its:List Value,Vals xs its∧IsTup s.heap a its.toArray∧xs.length ≤ sizeLine:=by
 rcases h with h | ⟨o,its,n,hk,hc,hs,hz,r⟩
 ·obtain ⟨z,its,r,p⟩:=h.ok I.hok
  exact ⟨its,r,p,z⟩
 ·refine ⟨its.toList,r,⟨o,I.kIn a o hk,hc,n,by simpa using hs⟩,?_⟩
  have e:=r.length
  simp only [Array.length_toList] at e
  omega
theorem Inv.list_inj (I:Inv X pins σ H s) (h:SqL X.K H a xs) (h':SqL X.K H a ys):xs=ys:=by
 obtain ⟨its,r,⟨o,n,e,_,_,d⟩,_⟩:=I.list h
 obtain ⟨its',r',⟨o',n',e',_,_,d'⟩,_⟩:=I.list h'
 rw [e] at e'; cases e'
 rw [d] at d'
 injection d' with d1 _
 have:its=its':=by simpa using congrArg Array.toList d1
 subst this
 exact r.inj r'
end
abbrev Cx.wish (X:Cx) (E:Value→Shared→Prop):Cx:={ X with xe:=E }
abbrev Cx.nox (X:Cx):Cx:=X.wish fun _ _=>False
theorem Cx.Ok.wish {X:Cx} (ok:X.Ok) (E:Value→Shared→Prop):(X.wish E).Ok:=
 ⟨ok.mod,ok.kind,ok.glob,ok.blt,ok.above,ok.inj,ok.has,ok.cab,ok.hd,ok.frames,ok.stk,ok.exf,ok.bs,ok.bsz,ok.noex,ok.exfs,ok.funs,ok.frf⟩
theorem Cx.Ok.unwish {X:Cx} {E:Value→Shared→Prop} (ok:(X.wish E).Ok):X.Ok:=
 ⟨ok.mod,ok.kind,ok.glob,ok.blt,ok.above,ok.inj,ok.has,ok.cab,ok.hd,ok.frames,ok.stk,ok.exf,ok.bs,ok.bsz,ok.noex,ok.exfs,ok.funs,ok.frf⟩
section
variable {X:Cx} {pins:List (Addr × Obj)} {σ:St} {H:Hp} {s:Shared} {E:Value→Shared→Prop}
theorem Inv.wish (I:Inv X pins σ H s) (E:Value→Shared→Prop):Inv (X.wish E) pins σ H s:=⟨I.ok.wish E,I.os,I.bare,I.base,I.loc,I.cell,I.free,I.freeC,I.pin,I.hok,I.len⟩
theorem Inv.unwish (I:Inv (X.wish E) pins σ H s):Inv X pins σ H s:=⟨I.ok.unwish,I.os,I.bare,I.base,I.loc,I.cell,I.free,I.freeC,I.pin,I.hok,I.len⟩
theorem SP.unwish {D:Ends} {f:Flow} {s':Shared} (h:SP (X.wish E) pins D f s'):SP X pins D f s':=by
 cases f with
 | next=>obtain ⟨σ',H',I,q⟩:=h; exact ⟨σ',H',I.unwish,q⟩
 | brk=>obtain ⟨σ',H',I,q⟩:=h; exact ⟨σ',H',I.unwish,q⟩
 | cont=>obtain ⟨σ',H',I,q⟩:=h; exact ⟨σ',H',I.unwish,q⟩
 | ret u=>obtain ⟨v,σ',H',I,r,q⟩:=h; exact ⟨v,σ',H',I.unwish,r,q⟩
theorem PE.nox {e:Expr} {t:TE} (h:PE X.nox e t):PE X e t:=fun pins s σ H Q I hw=>
 wpAny_mono (h pins s σ H Q (I.wish _) hw) (fun _ _ ⟨v,H',I',r,q⟩=>⟨v,H',I'.unwish,r,q⟩) fun _ _ z=>False.elim z
theorem PT.nox {e:Expr} {t:TT} (h:PT X.nox e t):PT X e t:=fun pins s σ H Q I hw=>
 wpAny_mono (h pins s σ H Q (I.wish _) hw) (fun _ _ ⟨H',I',q⟩=>⟨H',I'.unwish,q⟩) fun _ _ z=>False.elim z
theorem PSs.nox {st:List Stmt} {t:TS} (h:PSs X.nox st t):PSs X st t:=fun pins s σ H D I hw=>
 wpAny_mono (h pins s σ H D (I.wish _) hw) (fun _ _ q=>q.unwish) fun _ _ z=>False.elim z
end
section
variable {X:Cx} {st:Stmt} {yq:List Stmt} {t u:TS} {e:Expr} {te:TE} {pos:Pos}
def fu:TS:=fun D σ H=>D.nx σ H
def dU (t u:TS):TS:=fun D σ H=>t { D with nx:=u D } σ H
theorem kW:PSs X [] fu:=fun _ _ σ H _ I h=>wpAny_execs_nil ⟨σ,H,I,h⟩
theorem qv (h1:PS X st t) (h2:PSs X yq u):PSs X (st :: yq) (dU t u):=by
 intro pins s σ H D I h
 refine wpAny_execs_cons (thn (h1 pins s σ H { D with nx:=u D } I h) fun f s1 q=>?_)
 cases f with
 | next=>
  obtain ⟨σ',H',I',q⟩:=q
  exact h2 pins s1 σ' H' D I' q
 | ret v=>exact q
 | brk=>exact q
 | cont=>exact q
theorem xE (h1:PS X st t):PSs X [st] t:=by
 intro pins s σ H D I h
 refine wpAny_execs_cons (thn (h1 pins s σ H D I h) fun f s1 q=>?_)
 cases f with
 | next=>exact wpAny_execs_nil q
 | ret v=>exact q
 | brk=>exact q
 | cont=>exact q
theorem Inv.quiet {pins:List (Addr × Obj)} {σ:St} {H:Hp} {s:Shared} (I:Inv X pins σ H s):interactive X.env=false:=by simp [interactive,I.ok.kind]
def fA (te:TE):TS:=fun D σ H=>te σ H fun _ H1=>D.nx σ H1
theorem ux (he:PE X e te) (hs:swapsWith e none pos.line X.env=pure false:=by rfl):PS X (.Expr e pos) (fA te):=by
 intro pins s σ H D I h
 exact wpAny_Expr_any (thn (he pins s σ H _ I h) fun v s1 ⟨x,H1,I1,r1,q1⟩=>⟨σ,H1,I1,q1⟩) I.quiet hs
def dW (te:TE):TS:=fun D σ H=>te σ H D.rt
theorem rp (he:PE X e te):PS X (.Return (some e) pos) (dW te):=by
 intro pins s σ H D I h
 exact wpAny_Return_some (thn (he pins s σ H _ I h) fun v s1 ⟨x,H1,I1,r1,q1⟩=>⟨x,σ,H1,I1,r1,q1⟩)
def d3 (c:TT) (t u:TS):TS:=fun D σ H=>c σ H fun b H1=>if b=true then t D σ H1 else u D σ H1
theorem fM {c:Expr} {a b:List Stmt} {tc:TT} (hc:PT X c tc) (ha:PSs X a t) (hb:PSs X b u):PS X (.If c a b pos) (d3 tc t u):=by
 intro pins s σ H D I h
 refine wpAny_If (thn (hc pins s σ H _ I h) fun d s1 ⟨H1,I1,q1⟩=>?_)
 cases d with
 | true=>exact ha pins s1 σ H1 D I1 q1
 | false=>exact hb pins s1 σ H1 D I1 q1
def iU:TS:=fun _ _ _=>False
theorem mS:PS X st iU:=fun _ _ _ _ _ _ h=>h.elim
end
abbrev TG:=V→St→Hp→(St→Hp→Prop)→Prop
abbrev TGs:=List V→St→Hp→(St→Hp→Prop)→Prop
def PG (X:Cx) (target:Expr) (t:TG):Prop:=
 ∀ (pins:List (Addr × Obj)) (s:Shared) (σ:St) (H:Hp) (v:V) (u:Value) (Q:St→Hp→Prop),Inv X pins σ H s→RelV v u→t v σ H Q→
  wpAny (model X.prog X.w) X.A (assign target X.env u) (fun _ s'=>∃ σ' H',Inv X pins σ' H' s'∧Q σ' H') X.xe s
def PGs (X:Cx) (ts:List Expr) (t:TGs):Prop:=
 ∀ (pins:List (Addr × Obj)) (s:Shared) (σ:St) (H:Hp) (vs:List V) (us:List Value) (Q:St→Hp→Prop),Inv X pins σ H s→Vals vs us→t vs σ H Q→
  wpAny (model X.prog X.w) X.A (assignInOrder ((assignEach ts X.env).map (·.2)) us) (fun _ s'=>∃ σ' H',Inv X pins σ' H' s'∧Q σ' H') X.xe s
abbrev fb:=V→V→V→Hp→(Hp→Prop)→Prop
def dQ (X:Cx) (t:fb):Prop:=
 ∀ (pins:List (Addr × Obj)) (s:Shared) (σ:St) (H:Hp) (o i v:V) (ov iv u:Value) (Q:Hp→Prop),Inv X pins σ H s→RelV o ov→RelV i iv→RelV v u→t o i v H Q→
  wpAny (model X.prog X.w) X.A (setItem ov iv u) (fun _ s'=>∃ H',Inv X pins σ H' s'∧Q H') X.xe s
section
variable {X:Cx} {pos:Pos}
def oQ (i:Nat):TG:=fun v σ H Q=>Q (σ.set i (some v)) H
theorem zS {i:Nat} {x:Str} (hN:X.N.Nodup) (hi:X.N[i]? = some x) (hx:Loc X.env.scope x) (hf:X.fn x=true∨X.env.scope.names.lookup x=some .local:=by first | exact .inl rfl | exact .inr rfl | assumption):PG X (.Name x pos) (oQ i):=by
 intro pins s σ H v u Q I r h
 exact wpAny_assign_Name (xR I hN hi hx r (fun s' I'=>⟨_,H,I',h⟩) hf)
def eP:TGs:=fun vs σ H Q=>vs=[]∧Q σ H
def lD (t:TG) (u:TGs):TGs:=fun vs σ H Q=>∃ v r,vs=v :: r∧t v σ H fun σ' H'=>u r σ' H' Q
theorem wU:PGs X [] eP:=by
 intro pins s σ H vs us Q I r h
 obtain ⟨e,h⟩:=h
 subst e
 cases r
 exact assignInOrder_nil ⟨σ,H,I,h⟩
theorem ye {e:Expr} {es:List Expr} {t:TG} {u:TGs} (h1:PG X e t) (h2:PGs X es u)
  (hs:(assignEach (e :: es) X.env).map (·.2)=assign e X.env :: (assignEach es X.env).map (·.2):=by rfl):PGs X (e :: es) (lD t u):=by
 intro pins s σ H vs us Q I r h
 obtain ⟨v,vr,e1,h⟩:=h
 subst e1
 cases r with
 | cons r rr=>
  rw [hs]
  refine assignInOrder_cons (thn (h1 pins s σ H _ _ _ I r h) fun _ s1 ⟨σ1,H1,I1,q1⟩=>?_)
  exact h2 pins s1 σ1 H1 _ _ Q I1 rr q1
def eO (K:PySem.W.Frag) (n:Nat) (t:TGs):TG:=fun v σ H Q=>∃ a xs,v=.ref a∧SqT K H a xs∧xs.length=n∧t xs σ H Q
theorem uV {es:List Expr} {k:Nat} {t:TGs} {n:Nat} (hc:X.calm=true) (h:PGs X es t)
  (hn:(assignEach es X.env).length=n:=by rfl) (hst:(assignEach es X.env).findIdx? (·.1)=none:=by rfl):PG X (.Tuple es k pos) (eO X.K n t):=by
 intro pins s σ H v u Q I r hw
 obtain ⟨a,xs,e1,hq,hl,hw⟩:=hw
 subst e1
 cases r
 obtain ⟨its,rv,ht,hz⟩:=I.tuple hq
 refine assign_Tuple_tuple (I.ok.hd hc) ht (by simp [hn,← hl,rv.length]) hst fun h' hx=>?_
 have I1:Inv X pins σ H { s with heap:=h' }:=I.kept (t':=s.toks) fun b o e=>hx b o (Nat.ne_of_lt (Heap.lt_size e)) e
 exact h pins _ σ H xs _ Q I1 (by simpa using rv) hw
def cv (to ti:TE) (t:fb):TG:=fun v σ H Q=>to σ H fun o H1=>ti σ H1 fun i H2=>t o i v H2 fun H3=>Q σ H3
theorem hU {o i:Expr} {to ti:TE} {t:fb} (ho:PE X o to) (hi:PE X i ti) (hs:dQ X t)
  (ha:∀ v,assign (.Subscript o i pos) X.env v=(do
   let ov ← holding [v] (eval o X.env)
   let iv ← holding [v,ov] (eval i X.env)
   standAt pos
   holding [v,ov,iv] (setItem ov iv v)
   release [v,ov,iv] []):=by intro _; rfl):PG X (.Subscript o i pos) (cv to ti t):=by
 intro pins s σ H v u Q I r h
 rw [ha]
 refine wpAny_bind (wpAny_holding (thn (ho pins s σ H _ I h) fun ov s1 ⟨x,H1,I1,r1,q1⟩=>?_))
 refine wpAny_bind (wpAny_holding (thn (hi pins s1 σ H1 _ I1 q1) fun iv s2 ⟨y,H2,I2,r2,q2⟩=>?_))
 refine wpAny_bind (wpAny_standAt (wpAny_bind (wpAny_holding (thn (hs pins s2 σ H2 x y v ov iv u _ I2 r1 r2 r q2) fun _ s3 ⟨H3,I3,q3⟩=>?_))))
 exact wpAny_release ⟨σ,H3,I3,q3⟩
def fD (te:TE) (g:TG):TS:=fun D σ H=>te σ H fun x H1=>g x σ H1 D.nx
theorem pL {tg e:Expr} {te:TE} {g:TG} (he:PE X e te) (hg:PG X tg g) (hs:swapsWithSole [tg] e pos.line X.env=pure false:=by rfl) (hw:swappedStores [tg] e X.env=pure none:=by rfl)
  (h1:(assignEach [tg] X.env).map (·.2)=[assign tg X.env]:=by rfl):PS X (.Assign [tg] e pos) (fD te g):=by
 intro pins s σ H D I h
 refine wpAny_Assign_stores (thn (he pins s σ H _ I h) fun v s1 ⟨x,H1,I1,r1,q1⟩=>?_) hs hw
 rw [h1]
 exact thn (hg pins s1 σ H1 x v _ I1 r1 q1) fun _ s2 q=>q
theorem mQ {i:Nat} {x:Str} {e:Expr} {te:TE} {pos':Pos} (hN:X.N.Nodup) (hi:X.N[i]? = some x) (hx:Loc X.env.scope x) (he:PE X e te) (hs:swapsWith e (some (.Name x pos')) pos.line X.env=pure false:=by rfl) (hf:X.fn x=true∨X.env.scope.names.lookup x=some .local:=by first | exact .inl rfl | exact .inr rfl | assumption):
  PS X (.Assign [.Name x pos'] e pos) (fD te (oQ i)):=by
 intro pins s σ H D I h
 refine wpAny_Assign_Name (thn (he pins s σ H _ I h) fun v s1 ⟨y,H1,I1,r1,q1⟩=>?_) hs
 exact xR I1 hN hi hx r1 (fun s2 I2=>⟨_,H1,I2,q1⟩) hf
end
section
variable {X:Cx} {pos:Pos}
def iT (c:TT) (tb:TS):TS:=fun D σ H=>∃ W:Nat→St→Hp→Prop,(∃ m,W m σ H)∧∀ m σ H,W m σ H→
 c σ H fun b H1=>if b=true then ∃ N:St→Hp→Prop,(∀ σ' H',N σ' H'→∃ m',m' < m∧W m' σ' H')∧tb { D with nx:=N,ct:=N,bk:=D.nx } σ H1 else D.nx σ H1
theorem mP {c:Expr} {body:List Stmt} {tc:TT} {tb:TS} (hp:PassesOwn (model X.prog X.w) X.A X.env X.xe) (hc:PT X c tc) (hb:PSs X body tb):PS X (.While c body [] pos) (iT tc tb):=by
 intro pins s σ H D I h
 obtain ⟨W,⟨m0,w0⟩,turn⟩:=h
 refine wpAny_While (codeAny_whileLoop (fun n s'=>∃ σ' H',Inv X pins σ' H' s'∧W n σ' H') ?_ m0 ⟨σ,H,I,w0⟩)
 rintro n s1 ⟨σ1,H1,I1,w1⟩
 refine wpAny_passesOwn hp (thn (hc pins s1 σ1 H1 _ I1 (turn n σ1 H1 w1)) fun b s2 ⟨H2,I2,q2⟩=>?_)
 cases b with
 | true=>
  obtain ⟨N,hN,q2⟩:=q2
  rw [if_pos rfl]
  refine wpAny_passesOwn hp (thn (hb pins s2 σ1 H2 _ I2 q2) fun f s3 q3=>?_)
  cases f with
  | next=>
   obtain ⟨σ3,H3,I3,n3⟩:=q3
   obtain ⟨m',hm,w3⟩:=hN σ3 H3 n3
   exact ⟨m',hm,σ3,H3,I3,w3⟩
  | cont=>
   obtain ⟨σ3,H3,I3,n3⟩:=q3
   obtain ⟨m',hm,w3⟩:=hN σ3 H3 n3
   exact ⟨m',hm,σ3,H3,I3,w3⟩
  | brk=>exact q3
  | ret v=>exact q3
 | false=>
  rw [if_neg Bool.false_ne_true]
  exact wpAny_execs_nil ⟨σ1,H2,I2,q2⟩
end
structure It where
 go:Nat→Hp→Prop
 yld:Nat→Hp→V→Hp→Prop
 stop:Nat→Hp→Prop
def wQ (X:Cx) (pins:List (Addr × Obj)) (H:Hp) (b:Addr):Prop:=
 H b=none∧b ≠ X.env.locals∧b ∉ X.fs∧(b ∈ X.ex∨X.s₀.heap.objs.size ≤ b)∧(∀ x c,X.env.cells.lookup x=some c→c ≠ b)∧∀ p ∈ X.pn ++ pins,p.1 ≠ b
theorem Inv.fpOk {X:Cx} {pins:List (Addr × Obj)} {σ:St} {H H':Hp} {s:Shared} {b:Addr} (I:Inv X pins σ H s) (hb:s.heap.objs.size ≤ b) (hn:H' b=none):wQ X pins H' b:=by
 refine ⟨hn,Nat.ne_of_gt (Nat.lt_of_lt_of_le I.lt hb),I.nofs hb,.inr (Nat.le_trans I.sz hb),fun x c e z=>?_,fun p hp z=>?_⟩
 ·obtain ⟨v,q⟩:=I.cell x c e
  exact absurd (Nat.lt_of_lt_of_le q.lt (by rw [z]; exact hb)) (Nat.lt_irrefl _)
 ·exact absurd (Nat.lt_of_lt_of_le (Heap.lt_size (I.pin p hp).1) (by rw [z]; exact hb)) (Nat.lt_irrefl _)
structure rX (P:Program) (w:World) (K:PySem.W.Frag) (tg:Expr) (J:It) (fp:List Addr) (it:Addr) (tn:Nat→Heap→Prop):Prop where
 mem:it ∈ fp
 obj:∀ i h,tn i h→∀ b ∈ fp,∃ o,h.get? b=some o∧∀ v,o.data ≠ .cell v
 keep:∀ i h h',tn i h→(∀ b ∈ fp,∀ o,h.get? b=some o→h'.get? b=some o)→tn i h'
 item:∀ (X:Cx),X.prog=P→X.w=w→X.K=K→X.calm=true→∀ (i:Nat) (pins:List (Addr × Obj)) (s:Shared) (σ:St) (H:Hp) (E:Value→Shared→Prop),Inv X pins σ H s→(∀ b ∈ fp,wQ X pins H b)→tn i s.heap→J.go i H→
  wpAny (model P w) X.A (pyNext (.ref it)) (fun r s1=>∃ u,r=some u∧
   wpAny (model P w) X.A (letOwnedTupleGo tg (.ref it) u) (fun _ s2=>∃ x H',Inv X pins σ H' s2∧RelV x u∧J.yld i H x H'∧tn (i + 1) s2.heap∧∀ b ∈ fp,H' b=none) E s1) E s
 done:∀ (X:Cx),X.prog=P→X.w=w→X.K=K→X.calm=true→∀ (i:Nat) (pins:List (Addr × Obj)) (s:Shared) (σ:St) (H:Hp) (E:Value→Shared→Prop),Inv X pins σ H s→(∀ b ∈ fp,wQ X pins H b)→tn i s.heap→J.stop i H→
  wpAny (model P w) X.A (pyNext (.ref it)) (fun r s1=>r=none∧Inv X pins σ H s1) E s
 self:∀ (A:Around) (i:Nat) (s:Shared) (Q:Value→Shared→Prop) (E:Value→Shared→Prop),tn i s.heap→Q (.ref it) s→wpAny (model P w) A (pyIter (.ref it)) Q E s
abbrev TI:=St→Hp→(It→Hp→Prop)→Prop
def PIE (X:Cx) (pins:List (Addr × Obj)) (σ:St) (tg:Expr) (R:It→Hp→Prop) (itv:Value) (s2:Shared):Prop:=
 ∃ (it:Addr) (fp:List Addr) (tn:Nat→Heap→Prop) (J:It) (H':Hp),itv=.ref it∧Inv X pins σ H' s2∧rX X.prog X.w X.K tg J fp it tn∧tn 0 s2.heap∧(∀ b ∈ fp,wQ X pins H' b)∧R J H'
def PI (X:Cx) (tg iter:Expr) (wi:TI):Prop:=
 ∀ (pins:List (Addr × Obj)) (s:Shared) (σ:St) (H:Hp) (R:It→Hp→Prop),Inv X pins σ H s→wi σ H R→
  wpAny (model X.prog X.w) X.A (eval iter X.env) (fun v s1=>wpAny (model X.prog X.w) X.A (pyIter v) (PIE X pins σ tg R) X.xe s1) X.xe s
theorem oP {M:Model} {A:Around} {E:Value→Shared→Prop} {s:Shared} {tg:Expr} {it:Addr} {u:Value} {o:Obj} {n:String} {vs:Array Value} {Q:Unit→Shared→Prop} (ho:s.heap.get? it=some o) (hc:o.cls=.type n) (hd:o.data=.fields vs)
  (hn:["enumerate","zip","dict_itemiterator","dict_reverseitemiterator","odict_iterator","itertools.zip_longest","itertools.pairwise"].contains n=false) (hQ:Q () s):wpAny M A (letOwnedTupleGo tg (.ref it) u) Q E s:=by
 unfold letOwnedTupleGo
 cases tg <;> first
  | exact wpAny_pure hQ
  | (cases u <;> first
    | exact wpAny_pure hQ
    | (refine wpAny_bind (wpAny_load ho ?_)
      rw [hc,hd]
      show wpAny M A (if (["enumerate","zip","dict_itemiterator","dict_reverseitemiterator","odict_iterator","itertools.zip_longest","itertools.pairwise"].contains n && vs[0]? == some (rawInt _))=true then _ else _) Q E s
      rw [if_neg (by intro h; rw [hn,Bool.false_and] at h; cases h)]
      exact wpAny_pure hQ))
def Itl (K:PySem.W.Frag) (a:Addr):It:=
 ⟨fun i H=>∃ xs x,SqL K H a xs∧xs[i]? = some x,fun i H x H'=>H'=H∧∀ xs,SqL K H a xs→xs[i]? = some x,fun i H=>∃ xs,SqL K H a xs∧xs.length ≤ i⟩
def Itr (lo:Int) (n:Nat):It:=⟨fun i _=>i < n,fun i H x H'=>H'=H∧x=.int (lo + i),fun i _=>n ≤ i⟩
theorem nt {P:Program} {w:World} {K:PySem.W.Frag} {tg:Expr} (a it:Addr):rX P w K tg (Itl K a) [it] it (fun i h=>h.IsListIter it a i) where
 mem:=by simp
 obj:=fun i h st b hb=>by
  have e:b=it:=by simpa using hb
  subst e
  obtain ⟨o,e,c,d⟩:=st
  exact ⟨o,e,fun v z=>by rw [d] at z; cases z⟩
 keep:=fun i h h' st k=>st.at fun o e=>k it (by simp) o e
 item:=by
  intro X hP hw hK hc i pins s σ H E I hf st hg
  subst hP hw hK
  obtain ⟨xs,x,hq,hx⟩:=hg
  obtain ⟨its,rv,p,hz⟩:=I.list hq
  obtain ⟨u,hu,ru⟩:=rv.get hx
  obtain ⟨f0,f1,f2,f3,f4,f5⟩:=hf it (by simp)
  refine wpAny_pyNext_list_item st p.isList (x:=u) (by simpa using hu) fun h' st' sb=>?_
  have I1:Inv X pins σ H { s with heap:=h' }:=I.turned (t':=s.toks) (fun b o hb e=>(sb.2 b hb).trans e) f0 f1 f3 f4 f5
  obtain ⟨o,e,c,d⟩:=id st'
  exact ⟨u,rfl,oP (s:={ s with heap:=h' }) e c d (by decide) ⟨x,H,I1,ru,⟨rfl,fun ys hy=>by rw [I.list_inj hy hq]; exact hx⟩,st',fun b hb=>(hf b hb).1⟩⟩
 done:=by
  intro X hP hw hK hc i pins s σ H E I hf st hg
  subst hP hw hK
  obtain ⟨xs,hq,hx⟩:=hg
  obtain ⟨its,rv,p,hz⟩:=I.list hq
  obtain ⟨f0,f1,f2,f3,f4,f5⟩:=hf it (by simp)
  have hl:=rv.length
  exact wpAny_pyNext_list_end (I.ok.hd hc) st p.isList (by simp; omega) fun h' eb=>⟨rfl,I.turned (t':=s.toks) (fun b o hb e=>eb b o hb e) f0 f1 f3 f4 f5⟩
 self:=fun _ _ _ _ _ st h=>wpAny_pyIter_listiter st h
theorem pb {P:Program} {w:World} {K:PySem.W.Frag} {tg:Expr} (it:Addr) (lo:Int) (n:Nat):rX P w K tg (Itr lo n) [it] it (fun i h=>IsRangeIter h it (lo + (i:Nat) * 1) ((n:Int) - (i:Nat)) 1) where
 mem:=by simp
 obj:=fun i h st b hb=>by
  have e:b=it:=by simpa using hb
  subst e
  exact ⟨_,st,fun v z=>by
   have z':Data.fields _=Data.cell v:=z
   cases z'⟩
 keep:=fun i h h' st k=>k it (by simp) _ st
 item:=by
  intro X hP hw hK hc i pins s σ H E I hf st hg
  subst hP hw hK
  obtain ⟨f0,f1,f2,f3,f4,f5⟩:=hf it (by simp)
  have W:=Walks.range (prog:=X.prog) (w:=X.w) (I.ok.hd hc) it lo 1 n
  refine W.item i s _ _ hg st fun v h' tk hv st' kk=>?_
  obtain ⟨t,rfl⟩:=hv
  have I1:Inv X pins σ H { s with heap:=h',toks:=tk }:=I.turned (fun b o hb e=>kk b o (by simpa using hb) e) f0 f1 f3 f4 f5
  refine ⟨_,rfl,oP (s:={ s with heap:=h',toks:=tk }) (n:="range_iterator") st' rfl rfl (by decide) ⟨.int (lo + i),H,I1,⟨t,?_⟩,⟨rfl,rfl⟩,st',fun b hb=>(hf b hb).1⟩⟩
  rw [Int.mul_one]
 done:=by
  intro X hP hw hK hc i pins s σ H E I hf st hg
  subst hP hw hK
  obtain ⟨f0,f1,f2,f3,f4,f5⟩:=hf it (by simp)
  exact wpAny_pyNext_range_end (I.ok.hd hc) st (by have:n ≤ i:=hg; omega) fun h' eb=>⟨rfl,I.turned (t':=s.toks) (fun b o hb e=>eb b o hb e) f0 f1 f3 f4 f5⟩
 self:=fun _ _ _ _ _ st h=>wpAny_pyIter_rangeiter st h
end L2
namespace L2
open PySem PySem.Spec PyProof.Rows
section
variable {X:Cx} {tg:Expr}
def eL (K:PySem.W.Frag) (tl:TE):TI:=fun σ H R=>tl σ H fun x H1=>∃ a,x=.ref a∧(∃ xs,SqL K H1 a xs)∧R (Itl K a) H1
theorem oH {l:Expr} {tl:TE} (hl:PE X l tl):PI X tg l (eL X.K tl):=by
 intro pins s σ H R I h
 refine thn (hl pins s σ H _ I h) fun v s1 ⟨x,H1,I1,r1,q1⟩=>?_
 obtain ⟨a,e,⟨xs,hq⟩,q⟩:=q1
 subst e
 cases r1
 obtain ⟨its,rv,p,hz⟩:=I1.list hq
 refine wpAny_pyIter_list p.isList ?_
 refine ⟨s1.heap.objs.size,[s1.heap.objs.size],_,_,H1,rfl,I1.kept (t':=s1.toks) fun b o e=>Heap.get?_push_of_some _ e,nt a _,⟨_,Heap.get?_push_size _ rfl,rfl,rfl⟩,fun b hb=>?_,q⟩
 have e:b=s1.heap.objs.size:=by simpa using hb
 subst e
 exact I1.fpOk (Nat.le_refl _) (I1.hok.fresh (Nat.le_refl _))
theorem qt {pins:List (Addr × Obj)} {σ:St} {H:Hp} {s:Shared} {R:It→Hp→Prop} {E:Value→Shared→Prop} {lo hi:Int} {t u v:Tok} {tk:Nat} (I:Inv X pins σ H s) (h1:-(2 ^ 62) ≤ lo) (h2:lo < 2 ^ 62) (h3:-(2 ^ 62) ≤ hi) (h4:hi < 2 ^ 62)
  (q:R (Itr lo (hi - lo).toNat) H):wpAny (model X.prog X.w) X.A (pyIter (.ref s.heap.objs.size)) (PIE X pins σ tg R) E { s with heap:=s.heap.push { cls:=.type "range",data:=.fields #[.int lo t,.int hi u,.int 1 v] },toks:=tk }:=by
 refine wpAny_pyIter_range (IsRange.new ..) (small_one h1 h2 h3 h4) ?_
 have I1:Inv X pins σ H { s with heap:=s.heap.push { cls:=.type "range",data:=.fields #[.int lo t,.int hi u,.int 1 v] },toks:=tk }:=I.kept fun b o e=>Heap.get?_push_of_some _ e
 refine ⟨(s.heap.push { cls:=.type "range",data:=.fields #[.int lo t,.int hi u,.int 1 v] }).objs.size,[(s.heap.push { cls:=.type "range",data:=.fields #[.int lo t,.int hi u,.int 1 v] }).objs.size],_,_,H,rfl,
  I1.kept (t':=tk) fun b o e=>Heap.get?_push_of_some _ e,pb _ lo (hi - lo).toNat,?_,fun b hb=>?_,q⟩
 ·have e1:lo + ((0:Nat):Int) * 1=lo:=by simp
  have e2:(((hi - lo).toNat:Nat):Int) - ((0:Nat):Int)=Builtin.Range.rangeSize lo hi 1:=by rw [rangeSize_one]; split <;> omega
  show IsRangeIter _ _ (lo + ((0:Nat):Int) * 1) ((((hi - lo).toNat:Nat):Int) - ((0:Nat):Int)) 1
  rw [e1,e2]
  exact Heap.get?_push_size _ rfl
 ·have e:b=(s.heap.push { cls:=.type "range",data:=.fields #[.int lo t,.int hi u,.int 1 v] }).objs.size:=by simpa using hb
  subst e
  exact I1.fpOk (Nat.le_refl _) (I1.hok.fresh (Nat.le_refl _))
def eK (ta:TA):TI:=fun σ H R=>ta σ H fun vs H1=>∃ j:Int,vs=[.int j]∧-(2 ^ 62) ≤ j∧j < 2 ^ 62∧R (Itr 0 j.toNat) H1
def eJ (ta:TA):TI:=fun σ H R=>ta σ H fun vs H1=>∃ i j:Int,vs=[.int i,.int j]∧(-(2 ^ 62) ≤ i∧i < 2 ^ 62∧-(2 ^ 62) ≤ j∧j < 2 ^ 62)∧R (Itr i (j - i).toNat) H1
theorem nJ {a:Expr} {ta:TA} {p pos:Pos} (hg:Gl X "range") (hm:X.mg "range"=none) (ha:PA X [a] ta) (hs:starEach [a] X.env=[(false,eval a X.env)]:=by rfl):PI X tg (.Call (.Name "range" p) [a] [] pos) (eK ta):=by
 intro pins s σ H R I h
 refine Call_ (xl I hg hm boot_range (PyProof.Rows.callWith_type1 (thn (ha pos pins s σ H _ I h) fun us s1 ⟨vs,H1,I1,r1,q1⟩=>?_) hs rfl))
 obtain ⟨j,e,q1,q2,q⟩:=q1
 subst e
 cases r1 with
 | cons r rr=>
  cases rr
  obtain ⟨t,rfl⟩:=r
  exact call_range_1 (qt I1 (by omega) (by omega) q1 q2 (by simpa using q))
theorem nI {a b:Expr} {ta:TA} {p pos:Pos} (hg:Gl X "range") (hm:X.mg "range"=none) (ha:PA X [a,b] ta) (hs:starEach [a,b] X.env=[(false,eval a X.env),(false,eval b X.env)]:=by rfl) (hs2:starEach [b] X.env=[(false,eval b X.env)]:=by rfl):
  PI X tg (.Call (.Name "range" p) [a,b] [] pos) (eJ ta):=by
 intro pins s σ H R I h
 refine Call_ (xl I hg hm boot_range (PyProof.Rows.callWith_type1 (thn (ha pos pins s σ H _ I h) fun us s1 ⟨vs,H1,I1,r1,q1⟩=>?_) (by rw [hs,hs2]) (by rw [hs2]; rfl)))
 obtain ⟨i,j,e,⟨q1,q2,q3,q4⟩,q⟩:=q1
 subst e
 cases r1 with
 | cons r rr=>
  cases rr with
  | cons r' rr=>
   cases rr
   obtain ⟨t,rfl⟩:=r
   obtain ⟨t',rfl⟩:=r'
   exact call_range_2 (qt I1 q1 q2 q3 q4 q)
def d6 (wi:TI) (g:TG) (tb:TS):TS:=fun D σ H=>wi σ H fun J H1=>∃ W:Nat→Nat→St→Hp→Prop,(∃ m,W 0 m σ H1)∧∀ i m σ H,W i m σ H→
 (J.stop i H∧D.nx σ H)∨(J.go i H∧∃ N:St→Hp→Prop,(∀ σ' H',N σ' H'→∃ m',m' < m∧W (i + 1) m' σ' H')∧∀ x H',J.yld i H x H'→g x σ H' fun σ2 H2=>tb { D with nx:=N,ct:=N,bk:=D.nx } σ2 H2)
def xi (fp:List Addr) (h:Heap):List (Addr × Obj):=fp.filterMap fun b=>(h.get? b).map fun o=>(b,o)
theorem wH {fp:List Addr} {h:Heap} {b:Addr} {o:Obj} (hb:b ∈ fp) (e:h.get? b=some o):(b,o) ∈ xi fp h:=List.mem_filterMap.mpr ⟨b,hb,by rw [e]; rfl⟩
theorem nN {fp:List Addr} {h:Heap} {p:Addr × Obj} (hp:p ∈ xi fp h):p.1 ∈ fp∧h.get? p.1=some p.2:=by
 obtain ⟨b,hb,e⟩:=List.mem_filterMap.mp hp
 cases q:h.get? b with
 | none=>rw [q] at e; cases e
 | some o=>
  rw [q] at e
  have e':(b,o)=p:=Option.some.inj e
  subst e'
  exact ⟨hb,q⟩
theorem Inv.pinned {pins:List (Addr × Obj)} {σ:St} {H:Hp} {s:Shared} {fp:List Addr} (I:Inv X pins σ H s) (hf:∀ b ∈ fp,wQ X pins H b) (ho:∀ b ∈ fp,∃ o,s.heap.get? b=some o∧∀ v,o.data ≠ .cell v):Inv X (pins ++ xi fp s.heap) σ H s:=
 I.pins_of fun p hp=>(List.mem_append.mp hp).elim (fun z=>I.pin p (List.mem_append_right _ z)) fun z=>by
  obtain ⟨hb,e⟩:=nN z
  obtain ⟨f0,f1,f2,_⟩:=hf p.1 hb
  obtain ⟨o,e',d⟩:=ho p.1 hb
  rw [e] at e'; cases e'
  exact ⟨e,f0,f1,f2,d⟩
theorem Inv.unpinned {pins pl:List (Addr × Obj)} {σ:St} {H:Hp} {s:Shared} (I:Inv X (pins ++ pl) σ H s):Inv X pins σ H s:=I.pins_of fun p hp=>I.pin p (List.mem_append_right _ (List.mem_append_left _ hp))
theorem wD {iter:Expr} {body:List Stmt} {wi:TI} {g:TG} {tb:TS} {pos:Pos} (hp:PassesOwn (model X.prog X.w) X.A X.env X.xe) (hc:X.calm=true) (hi:PI X tg iter wi) (hg:PG X tg g) (hb:PSs X body tb)
  (hs:∀ x,foldedSetIterable iter X.env x=pure x:=by intro _; rfl):PS X (.For tg iter body [] pos) (d6 wi g tb):=by
 intro pins s σ H D I h
 refine wpAny_For (thn (hi pins s σ H _ I h) fun v s1 h1=>thn h1 fun itv s2 h2=>?_) hs
 obtain ⟨it,fp,tn,J,H2,e,I2,T,st2,f2,W,⟨m0,w0⟩,turn⟩:=h2
 subst e
 have stat:∀ {H':Hp},(∀ b ∈ fp,H' b=none)→∀ b ∈ fp,wQ X pins H' b:=fun hn b hb=>⟨hn b hb,(f2 b hb).2⟩
 refine codeAny_forLoop_any (fun n s'=>∃ i σ' H',Inv X pins σ' H' s'∧tn i s'.heap∧(∀ b ∈ fp,H' b=none)∧W i n σ' H') ?_ m0 ⟨0,σ,H2,I2,st2,fun b hb=>(f2 b hb).1,w0⟩
 rintro n s3 ⟨i,σ3,H3,I3,st3,fr3,w3⟩
 rcases turn i n σ3 H3 w3 with ⟨stop,qn⟩ | ⟨go,N,hN,step⟩
 ·refine wpAny_passesOwn hp (thn (T.done X rfl rfl rfl hc i pins s3 σ3 H3 X.xe I3 (stat fr3) st3 stop) fun r s4 ⟨hr,I4⟩=>?_)
  subst hr
  exact wpAny_execs_nil ⟨σ3,H3,I4,qn⟩
 ·refine wpAny_passesOwn hp (thn (T.item X rfl rfl rfl hc i pins s3 σ3 H3 X.xe I3 (stat fr3) st3 go) fun r s4 ⟨u,hr,h4⟩=>?_)
  subst hr
  refine wpAny_passesOwn hp (thn h4 fun _ s5 ⟨x,H5,I5,r5,y5,st5,fr5⟩=>?_)
  have I5':=I5.pinned (stat fr5) (T.obj _ _ st5)
  refine wpAny_passesOwn hp (thn (hg _ s5 σ3 H5 x u _ I5' r5 (step x H5 y5)) fun _ s6 ⟨σ6,H6,I6,q6⟩=>?_)
  refine wpAny_passesOwn hp (thn (hb _ s6 σ6 H6 _ I6 q6) fun f s7 q7=>?_)
  have again:∀ {σ7:St} {H7:Hp},Inv X (pins ++ xi fp s5.heap) σ7 H7 s7→N σ7 H7→∃ m,m < n∧∃ i σ' H',Inv X pins σ' H' s7∧tn i s7.heap∧(∀ b ∈ fp,H' b=none)∧W i m σ' H':=fun {σ7 H7} I7 n7=>by
   obtain ⟨m',hm,w7⟩:=hN σ7 H7 n7
   refine ⟨m',hm,i + 1,σ7,H7,I7.unpinned,T.keep _ _ _ st5 fun b hb o e=>(I7.pin (b,o) (List.mem_append_right _ (List.mem_append_right _ (wH hb e)))).1,fun b hb=>?_,w7⟩
   obtain ⟨o,e,d⟩:=T.obj _ _ st5 b hb
   exact (I7.pin (b,o) (List.mem_append_right _ (List.mem_append_right _ (wH hb e)))).2.1
  cases f with
  | next=>obtain ⟨σ7,H7,I7,n7⟩:=q7; exact again I7 n7
  | cont=>obtain ⟨σ7,H7,I7,n7⟩:=q7; exact again I7 n7
  | brk=>obtain ⟨σ7,H7,I7,q7⟩:=q7; exact ⟨σ7,H7,I7.unpinned,q7⟩
  | ret v=>obtain ⟨x7,σ7,H7,I7,r7,q7⟩:=q7; exact ⟨x7,σ7,H7,I7.unpinned,r7,q7⟩
end
theorem lE {K:PySem.W.Frag} {a:Addr} {xs:List V} {g:TG} {tb:TS} {D:Ends} {σ:St} {H:Hp} (Pv:Nat→St→Hp→Prop) (h0:Pv 0 σ H) (hl:∀ i σ H,i ≤ xs.length→Pv i σ H→SqL K H a xs)
  (hs:∀ i x σ H,xs[i]? = some x→Pv i σ H→g x σ H fun σ2 H2=>tb { D with nx:=Pv (i + 1),ct:=Pv (i + 1),bk:=D.nx } σ2 H2) (hd:∀ σ H,Pv xs.length σ H→D.nx σ H):
  ∃ W:Nat→Nat→St→Hp→Prop,(∃ m,W 0 m σ H)∧∀ i m σ H,W i m σ H→
   ((Itl K a).stop i H∧D.nx σ H)∨((Itl K a).go i H∧∃ N:St→Hp→Prop,(∀ σ' H',N σ' H'→∃ m',m' < m∧W (i + 1) m' σ' H')∧∀ x H',(Itl K a).yld i H x H'→g x σ H' fun σ2 H2=>tb { D with nx:=N,ct:=N,bk:=D.nx } σ2 H2):=by
 refine ⟨fun i m σ H=>m=xs.length - i∧i ≤ xs.length∧Pv i σ H,⟨xs.length,by simp,Nat.zero_le _,h0⟩,?_⟩
 rintro i m σ H ⟨rfl,hi,p⟩
 have q:=hl i σ H hi p
 by_cases hlt:i < xs.length
 ·refine .inr ⟨⟨xs,xs[i],q,by simp [hlt]⟩,Pv (i + 1),fun σ' H' p'=>⟨xs.length - (i + 1),by omega,rfl,hlt,p'⟩,fun x H' y=>?_⟩
  obtain ⟨e,y⟩:=y
  subst e
  exact hs i x σ _ (y xs q) p
 ·have e:i=xs.length:=by omega
  subst e
  exact .inl ⟨⟨xs,q,Nat.le_refl _⟩,hd σ H p⟩
theorem sJ {lo:Int} {n:Nat} {g:TG} {tb:TS} {D:Ends} {σ:St} {H:Hp} (Pv:Nat→St→Hp→Prop) (h0:Pv 0 σ H)
  (hs:∀ i σ H,i < n→Pv i σ H→g (.int (lo + i)) σ H fun σ2 H2=>tb { D with nx:=Pv (i + 1),ct:=Pv (i + 1),bk:=D.nx } σ2 H2) (hd:∀ σ H,Pv n σ H→D.nx σ H):
  ∃ W:Nat→Nat→St→Hp→Prop,(∃ m,W 0 m σ H)∧∀ i m σ H,W i m σ H→
   ((Itr lo n).stop i H∧D.nx σ H)∨((Itr lo n).go i H∧∃ N:St→Hp→Prop,(∀ σ' H',N σ' H'→∃ m',m' < m∧W (i + 1) m' σ' H')∧∀ x H',(Itr lo n).yld i H x H'→g x σ H' fun σ2 H2=>tb { D with nx:=N,ct:=N,bk:=D.nx } σ2 H2):=by
 refine ⟨fun i m σ H=>m=n - i∧i ≤ n∧Pv i σ H,⟨n,by simp,Nat.zero_le _,h0⟩,?_⟩
 rintro i m σ H ⟨rfl,hi,p⟩
 by_cases hlt:i < n
 ·refine .inr ⟨hlt,Pv (i + 1),fun σ' H' p'=>⟨n - (i + 1),by omega,rfl,hlt,p'⟩,fun x H' y=>?_⟩
  obtain ⟨e,y⟩:=y
  subst e y
  exact hs i σ _ hlt p
 ·have e:i=n:=by omega
  subst e
  exact .inl ⟨Nat.le_refl _,hd σ H p⟩
end L2
namespace L2
open PySem PySem.Spec PyProof.Rows
abbrev R2:=V→V→Hp→VK→Prop
def OpR (X:Cx) (f:Value→Value→Sem Value) (r:R2):Prop:=
 ∀ (pins:List (Addr × Obj)) (s:Shared) (σ:St) (H:Hp) (x y:V) (v u:Value) (Q:VK),Inv X pins σ H s→RelV x v→RelV y u→r x y H Q→
  wpAny (model X.prog X.w) X.A (f v u) (EP X pins σ Q) X.xe s
def UnR (X:Cx) (f:Value→Sem Value) (r:V→Hp→VK→Prop):Prop:=
 ∀ (pins:List (Addr × Obj)) (s:Shared) (σ:St) (H:Hp) (x:V) (v:Value) (Q:VK),Inv X pins σ H s→RelV x v→r x H Q→
  wpAny (model X.prog X.w) X.A (f v) (EP X pins σ Q) X.xe s
def CallR (X:Cx) (f:Value) (r:List V→Hp→VK→Prop):Prop:=
 ∀ (pins:List (Addr × Obj)) (s:Shared) (σ:St) (H:Hp) (xs:List V) (us:List Value) (Q:VK),Inv X pins σ H s→Vals xs us→r xs H Q→
  wpAny (model X.prog X.w) X.A (call f us) (EP X pins σ Q) X.xe s
def cM (X:Cx) (r:V→Hp→(Bool→Hp→Prop)→Prop):Prop:=
 ∀ (pins:List (Addr × Obj)) (s:Shared) (σ:St) (H:Hp) (x:V) (v:Value) (Q:Bool→Hp→Prop),Inv X pins σ H s→RelV x v→r x H Q→
  wpAny (model X.prog X.w) X.A (truthy v) (TP X pins σ Q) X.xe s
def tOp (r:R2) (ta tb:TE):TE:=fun σ H Q=>ta σ H fun x H1=>tb σ H1 fun y H2=>r x y H2 Q
def tUn (r:V→Hp→VK→Prop) (ta:TE):TE:=fun σ H Q=>ta σ H fun x H1=>r x H1 Q
def rI (C:Int→Int→Prop) (g:Int→Int→V):R2:=fun x y H Q=>∃ i j,x=.int i∧y=.int j∧C i j∧Q (g i j) H
def rI0 (g:Int→Int→V):R2:=fun x y H Q=>∃ i j,x=.int i∧y=.int j∧Q (g i j) H
def rU (g:Int→V):V→Hp→VK→Prop:=fun x H Q=>∃ i,x=.int i∧Q (g i) H
section
variable {X:Cx} {a b c:Expr} {ta tb tc:TE} {pos:Pos}
theorem g7 (ha:PE X a ta) (hb:PE X b tb) {pins:List (Addr × Obj)} {s:Shared} {σ:St} {H:Hp} {R:V→V→Hp→Prop} (I:Inv X pins σ H s)
  (h:ta σ H fun x H1=>tb σ H1 fun y H2=>R x y H2) {Q:Value→Shared→Prop} {f:Value→Value→Sem Value}
  (hf:∀ v u s2 x y H2,Inv X pins σ H2 s2→RelV x v→RelV y u→R x y H2→wpAny (model X.prog X.w) X.A (f v u) Q X.xe s2):
  wpAny (model X.prog X.w) X.A (eval a X.env) (fun v s₁=>wpAny (model X.prog X.w) X.A (eval b X.env) (fun u s₂=>wpAny (model X.prog X.w) X.A (f v u) Q X.xe s₂) X.xe s₁) X.xe s:=by
 refine thn (ha pins s σ H _ I h) fun v s1 ⟨x,H1,I1,r1,q1⟩=>?_
 refine thn (hb pins s1 σ H1 _ I1 q1) fun u s2 ⟨y,H2,I2,r2,q2⟩=>?_
 exact hf v u s2 x y H2 I2 r1 r2 q2
theorem j8 {op:Operator} {r:R2} (ho:OpR X (binaryOp op) r) (ha:PE X a ta) (hb:PE X b tb):PE X (.BinOp a op b pos) (tOp r ta tb):=by
 intro pins s σ H Q I h
 exact wpAny_BinOp (g7 ha hb I h fun v u s2 x y H2 I2 rx ry q=>ho pins s2 σ H2 x y v u Q I2 rx ry q)
theorem fN {op:UnaryOp} {r:V→Hp→VK→Prop} (ho:UnR X (unaryOp op) r) (ha:PE X a ta):PE X (.UnaryOp op a pos) (tUn r ta):=by
 intro pins s σ H Q I h
 exact UnaryOp_ (thn (ha pins s σ H _ I h) fun v s1 ⟨x,H1,I1,r1,q1⟩=>ho pins s1 σ H1 x v Q I1 r1 q1)
theorem opI {f:Value→Value→Sem Value} {C:Int→Int→Prop} {g:Int→Int→Int}
  (rule:∀ (i j:Int) (t u:Tok) (s:Shared) (Q:Value→Shared→Prop) (E:Value→Shared→Prop),C i j→Q (.int (g i j) s.toks) { s with toks:=s.toks + 1 }→wpAny (model X.prog X.w) X.A (f (.int i t) (.int j u)) Q E s):
  OpR X f (rI C fun i j=>.int (g i j)):=by
 intro pins s σ H x y v u Q I rx ry h
 obtain ⟨i,j,rfl,rfl,hc,q⟩:=h
 obtain ⟨t,rfl⟩:=rx
 obtain ⟨t',rfl⟩:=ry
 exact rule i j t t' s _ _ hc ⟨.int (g i j),H,I.tok _,⟨_,rfl⟩,q⟩
theorem fY {f:Value→Value→Sem Value} {g:Int→Int→Int}
  (rule:∀ (i j:Int) (t u:Tok) (s:Shared) (Q:Value→Shared→Prop) (E:Value→Shared→Prop),Q (.int (g i j) s.toks) { s with toks:=s.toks + 1 }→wpAny (model X.prog X.w) X.A (f (.int i t) (.int j u)) Q E s):
  OpR X f (rI0 fun i j=>.int (g i j)):=by
 intro pins s σ H x y v u Q I rx ry h
 obtain ⟨i,j,rfl,rfl,q⟩:=h
 obtain ⟨t,rfl⟩:=rx
 obtain ⟨t',rfl⟩:=ry
 exact rule i j t t' s _ _ ⟨.int (g i j),H,I.tok _,⟨_,rfl⟩,q⟩
theorem jh {f:Value→Value→Sem Value} {g:Int→Int→Bool}
  (rule:∀ (i j:Int) (t u:Tok) (s:Shared) (Q:Value→Shared→Prop) (E:Value→Shared→Prop),Q (.bool (g i j)) s→wpAny (model X.prog X.w) X.A (f (.int i t) (.int j u)) Q E s):
  OpR X f (rI0 fun i j=>.bl (g i j)):=by
 intro pins s σ H x y v u Q I rx ry h
 obtain ⟨i,j,rfl,rfl,q⟩:=h
 obtain ⟨t,rfl⟩:=rx
 obtain ⟨t',rfl⟩:=ry
 exact rule i j t t' s _ _ ⟨.bl (g i j),H,I,rfl,q⟩
def nq (i j:Int):Prop:=j ≠ 0∧j.natAbs < 1073741824
def ff (i j:Int):Prop:=0 ≤ j∧j ≤ 1000000∧i.natAbs < 2 ^ 64
def CMul (i j:Int):Prop:=(-(2 ^ 64) < i∧i < 2 ^ 64)∨(-(2 ^ 64) < j∧j < 2 ^ 64)
theorem CMul.ok {i j:Int} (h:CMul i j):IntMulOk i j:=by
 rcases h with ⟨h1,h2⟩ | ⟨h1,h2⟩
 ·exact .of_left (intBits_le_64 h1 h2)
 ·exact .of_right (intBits_le_64 h1 h2)
theorem gj:OpR X (binaryOp .Add) (rI0 fun i j=>.int (i + j)):=fY fun _ _ _ _ _ _ _ q=>add_int q
theorem gf:OpR X (binaryOp .Sub) (rI0 fun i j=>.int (i - j)):=fY fun _ _ _ _ _ _ _ q=>sub_int q
theorem mZ:OpR X (binaryOp .FloorDiv) (rI nq fun i j=>.int (i.fdiv j)):=opI fun _ _ _ _ _ _ _ hc q=>floordiv_int hc.1 q (.inl (PyProof.noPylong_small hc.2))
theorem jg:OpR X (binaryOp .Mod) (rI (fun _ j=>j ≠ 0) fun i j=>.int (i.fmod j)):=opI fun _ _ _ _ _ _ _ hc q=>mod_int' hc q
theorem gh:OpR X (binaryOp .Pow) (rI ff fun i j=>.int (i ^ j.toNat)):=opI fun _ _ _ _ _ _ _ hc q=>pow_int_small hc.1 hc.2.1 hc.2.2 q
theorem unI {f:Value→Sem Value} {g:Int→Int}
  (rule:∀ (i:Int) (t:Tok) (s:Shared) (Q:Value→Shared→Prop) (E:Value→Shared→Prop),Q (.int (g i) s.toks) { s with toks:=s.toks + 1 }→wpAny (model X.prog X.w) X.A (f (.int i t)) Q E s):
  UnR X f (rU fun i=>.int (g i)):=by
 intro pins s σ H x v Q I rx h
 obtain ⟨i,rfl,q⟩:=h
 obtain ⟨t,rfl⟩:=rx
 exact rule i t s _ _ ⟨.int (g i),H,I.tok _,⟨_,rfl⟩,q⟩
theorem iP:UnR X (unaryOp .USub) (rU fun i=>.int (-i)):=unI fun _ _ _ _ _ q=>neg_int q
end
def fF:V→V→Bool
 | .non,.non=>true | .non,.int _=>true | .int _,.non=>true | .non,.bl _=>true | .bl _,.non=>true | .non,.str _=>true | .str _,.non=>true
 | .int _,.int _=>true | .bl _,.bl _=>true | .str _,.str _=>true | .byt _,.byt _=>true
 | .int _,.str _=>true | .str _,.int _=>true | .bl _,.str _=>true | .str _,.bl _=>true
 | _,_=>false
def rEq:R2:=fun x y H Q=>fF x y=true∧Q (.bl (decide (x=y))) H
def rNe:R2:=fun x y H Q=>fF x y=true∧Q (.bl (!decide (x=y))) H
theorem o2 {i j:Int}:decide (V.int i=V.int j)=(i == j):=by
 rw [Bool.eq_iff_iff]
 simp
theorem lV {i j:Bool}:decide (V.bl i=V.bl j)=(i == j):=by
 rw [Bool.eq_iff_iff]
 simp
theorem o1 {i j:Str}:decide (V.str i=V.str j)=(i == j):=by
 rw [Bool.eq_iff_iff]
 simp
theorem o3 {i j:Array UInt8}:decide (V.byt i=V.byt j)=(i.toList == j.toList):=by
 rw [Bool.eq_iff_iff]
 cases i
 cases j
 simp
section
variable {X:Cx} {a b c:Expr} {ta tb tc:TE} {pos:Pos}
theorem zA {pins:List (Addr × Obj)} {σ:St} {H:Hp} {s:Shared} {Q:VK} {k k':Bool} (I:Inv X pins σ H s) (q:Q (.bl k) H) (e:k=k'):EP X pins σ Q (.bool k') s:=by
 subst e
 exact ⟨.bl k,H,I,rfl,q⟩
theorem fX:OpR X (compareOp .Eq) rEq:=by
 intro pins s σ H x y v u Q I rx ry h
 obtain ⟨hs,q⟩:=h
 cases x with
 | non=>
  cases rx
  cases y with
  | non=>cases ry; exact PySem.EqNone.eq_none_none (zA I q (by simp))
  | bl j=>cases ry; exact PySem.EqNone.eq_none_bool (zA I q (by simp))
  | int j=>obtain ⟨t',rfl⟩:=ry; exact PySem.EqNone.eq_none_int (zA I q (by simp))
  | str j=>obtain ⟨t',rfl⟩:=ry; exact PySem.EqNone.eq_none_str (zA I q (by simp))
  | _=>exact absurd (show false=true from hs) Bool.false_ne_true
 | bl i=>
  cases rx
  cases y with
  | non=>cases ry; exact PySem.EqNone.eq_bool_none (zA I q (by simp))
  | bl j=>cases ry; exact eq_bool (zA I q lV)
  | str j=>obtain ⟨t',rfl⟩:=ry; exact PySem.EqMixed.eq_bool_str (zA I q (by simp))
  | _=>exact absurd (show false=true from hs) Bool.false_ne_true
 | int i=>
  obtain ⟨t,rfl⟩:=rx
  cases y with
  | non=>cases ry; exact PySem.EqNone.eq_int_none (zA I q (by simp))
  | int j=>obtain ⟨t',rfl⟩:=ry; exact eq_int (zA I q o2)
  | str j=>obtain ⟨t',rfl⟩:=ry; exact PySem.EqMixed.eq_int_str (zA I q (by simp))
  | _=>exact absurd (show false=true from hs) Bool.false_ne_true
 | str i=>
  obtain ⟨t,rfl⟩:=rx
  cases y with
  | non=>cases ry; exact PySem.EqNone.eq_str_none (zA I q (by simp))
  | bl j=>cases ry; exact PySem.EqMixed.eq_str_bool (zA I q (by simp))
  | int j=>obtain ⟨t',rfl⟩:=ry; exact PySem.EqMixed.eq_str_int (zA I q (by simp))
  | str j=>obtain ⟨t',rfl⟩:=ry; exact eq_str (zA I q o1)
  | _=>exact absurd (show false=true from hs) Bool.false_ne_true
 | byt i=>
  obtain ⟨t,rfl⟩:=rx
  cases y with
  | byt j=>obtain ⟨t',rfl⟩:=ry; exact PySem.W.eq_bytes (zA I q o3)
  | _=>exact absurd (show false=true from hs) Bool.false_ne_true
 | _=>cases y <;> exact absurd (show false=true from hs) Bool.false_ne_true
theorem fR:OpR X (compareOp .NotEq) rNe:=by
 intro pins s σ H x y v u Q I rx ry h
 obtain ⟨hs,q⟩:=h
 cases x with
 | non=>
  cases rx
  cases y with
  | non=>cases ry; exact PySem.EqNone.ne_none_none (zA I q (by simp))
  | bl j=>cases ry; exact PySem.EqNone.ne_none_bool (zA I q (by simp))
  | int j=>obtain ⟨t',rfl⟩:=ry; exact PySem.EqNone.ne_none_int (zA I q (by simp))
  | str j=>obtain ⟨t',rfl⟩:=ry; exact PySem.EqNone.ne_none_str (zA I q (by simp))
  | _=>exact absurd (show false=true from hs) Bool.false_ne_true
 | bl i=>
  cases rx
  cases y with
  | non=>cases ry; exact PySem.EqNone.ne_bool_none (zA I q (by simp))
  | bl j=>cases ry; exact ne_bool (zA I q (congrArg not lV))
  | str j=>obtain ⟨t',rfl⟩:=ry; exact PySem.EqMixed.ne_bool_str (zA I q (by simp))
  | _=>exact absurd (show false=true from hs) Bool.false_ne_true
 | int i=>
  obtain ⟨t,rfl⟩:=rx
  cases y with
  | non=>cases ry; exact PySem.EqNone.ne_int_none (zA I q (by simp))
  | int j=>obtain ⟨t',rfl⟩:=ry; exact ne_int (zA I q (congrArg not o2))
  | str j=>obtain ⟨t',rfl⟩:=ry; exact PySem.EqMixed.ne_int_str (zA I q (by simp))
  | _=>exact absurd (show false=true from hs) Bool.false_ne_true
 | str i=>
  obtain ⟨t,rfl⟩:=rx
  cases y with
  | non=>cases ry; exact PySem.EqNone.ne_str_none (zA I q (by simp))
  | bl j=>cases ry; exact PySem.EqMixed.ne_str_bool (zA I q (by simp))
  | int j=>obtain ⟨t',rfl⟩:=ry; exact PySem.EqMixed.ne_str_int (zA I q (by simp))
  | str j=>obtain ⟨t',rfl⟩:=ry; exact ne_str (zA I q (congrArg not o1))
  | _=>exact absurd (show false=true from hs) Bool.false_ne_true
 | byt i=>
  obtain ⟨t,rfl⟩:=rx
  cases y with
  | byt j=>obtain ⟨t',rfl⟩:=ry; exact PySem.W.ne_bytes (zA I q (congrArg not o3))
  | _=>exact absurd (show false=true from hs) Bool.false_ne_true
 | _=>cases y <;> exact absurd (show false=true from hs) Bool.false_ne_true
theorem fS:OpR X (compareOp .Lt) (rI0 fun i j=>.bl (decide (i < j))):=jh fun _ _ _ _ _ _ _ q=>lt_int q
theorem fU:OpR X (compareOp .LtE) (rI0 fun i j=>.bl (decide (i ≤ j))):=jh fun _ _ _ _ _ _ _ q=>le_int q
theorem fV:OpR X (compareOp .Gt) (rI0 fun i j=>.bl (decide (j < i))):=jh fun _ _ _ _ _ _ _ q=>gt_int q
theorem fW:OpR X (compareOp .GtE) (rI0 fun i j=>.bl (decide (j ≤ i))):=jh fun _ _ _ _ _ _ _ q=>ge_int q
theorem OpR.or {f:Value→Value→Sem Value} {r r':R2} (h:OpR X f r) (h':OpR X f r'):OpR X f (fun x y H Q=>r x y H Q∨r' x y H Q):=by
 intro pins s σ H x y v u Q I rx ry q
 rcases q with q | q
 ·exact h pins s σ H x y v u Q I rx ry q
 ·exact h' pins s σ H x y v u Q I rx ry q
theorem zo (b:Expr) {op:CmpOp} (h:op ≠ .In:=by decide) (h2:op ≠ .NotIn:=by decide):behindInMarks op b=false:=by
 have e1:(op == CmpOp.In)=false:=by cases op <;> first | rfl | exact absurd rfl h
 have e2:(op == CmpOp.NotIn)=false:=by cases op <;> first | rfl | exact absurd rfl h2
 cases b <;> simp [behindInMarks,e1,e2]
theorem jc {op:CmpOp} {r:R2} (ho:OpR X (compareOp op) r) (ha:PE X a ta) (hb:PE X b tb) (hm:behindInMarks op b=false):PE X (.Compare a [op] [b] pos) (tOp r ta tb):=by
 intro pins s σ H Q I h
 exact wpAny_Compare1 (g7 ha hb I h fun v u s2 x y H2 I2 rx ry q=>ho pins s2 σ H2 x y v u Q I2 rx ry q) hm
def mt (t:TE):TT:=fun σ H Q=>t σ H fun x H'=>∃ k,x=.bl k∧Q k H'
theorem kU {op:CmpOp} {r:R2} (ho:OpR X (compareOp op) r) (ha:PE X a ta) (hb:PE X b tb) (hm:behindInMarks op b=false):PT X (.Compare a [op] [b] pos) (mt (tOp r ta tb)):=by
 intro pins s σ H Q I h
 refine wpAny_isTrue_Compare1 (thn (ha pins s σ H _ I h) fun v s1 ⟨x,H1,I1,r1,q1⟩=>thn (hb pins s1 σ H1 _ I1 q1) fun u s2 ⟨y,H2,I2,r2,q2⟩=>
  thn (ho pins s2 σ H2 x y v u _ I2 r1 r2 q2) fun c s3 ⟨z,H3,I3,r3,k,e,q3⟩=>?_) hm
 subst e
 cases r3
 exact wpAny_truthy_bool ⟨H3,I3,q3⟩
def mx (r r':R2) (ta tb tc:TE):TE:=fun σ H Q=>ta σ H fun x H1=>tb σ H1 fun y H2=>r x y H2 fun z H3=>∃ k,z=.bl k∧
 (if k=true then tc σ H3 fun w' H4=>r' y w' H4 Q else Q (.bl false) H3)
theorem mO {op op':CmpOp} {r r':R2} (ho:OpR X (compareOp op) r) (ho':OpR X (compareOp op') r') (ha:PE X a ta) (hb:PE X b tb) (hc:PE X c tc)
  (hm:lastMarks [op,op'] [b,c]=false:=by with_unfolding_all rfl):PT X (.Compare a [op,op'] [b,c] pos) (mt (mx r r' ta tb tc)):=by
 intro pins s σ H Q I h
 refine isTrue_chain (thn (ha pins s σ H _ I h) fun v s1 ⟨x,H1,I1,r1,q1⟩=>test_link (thn (hb pins s1 σ H1 _ I1 q1) fun u s2 ⟨y,H2,I2,r2,q2⟩=>
  thn (ho pins s2 σ H2 x y v u _ I2 r1 r2 q2) fun d s3 ⟨z,H3,I3,r3,k,e,q3⟩=>?_)) hm
 subst e
 cases r3
 refine wpAny_truthy_bool ?_
 cases k with
 | false=>
  obtain ⟨k',e',q'⟩:=q3
  cases e'
  exact ite_ff ⟨H3,I3,q'⟩
 | true=>
  refine ite_tt (test_last (thn (hc pins s3 σ H3 _ I3 q3) fun w' s4 ⟨z',H4,I4,r4,q4⟩=>thn (ho' pins s4 σ H4 y z' u w' _ I4 r2 r4 q4) fun d' s5 ⟨z2,H5,I5,r5,k2,e2,q5⟩=>?_))
  subst e2
  cases r5
  exact wpAny_truthy_bool ⟨H5,I5,q5⟩
def dL (K:PySem.W.Frag) (x:V) (H:Hp) (k:Bool):Prop:=
 match x with
 | .non=>k=false
 | .bl b=>k=b
 | .int i=>k=(i != 0)
 | .str y=>y.length ≤ sizeLine∧k=((y.length:Int) != 0)
 | .byt y=>y.size ≤ sizeLine∧k=((y.size:Int) != 0)
 | .ref p=>(∃ xs,SqL K H p xs∧k=!xs.isEmpty)∨(∃ xs,SqT K H p xs∧k=!xs.isEmpty)∨∃ kvs,H p=some (.dK kvs)∧k=!kvs.isEmpty
 | _=>False
theorem pZ {κ:Type} {kvs:List (κ × V)} {vs:List (κ × Value)} (r:KV kvs vs):(!vs.isEmpty)=!kvs.isEmpty:=by
 cases r <;> rfl
theorem tj {xs:List V} {its:List Value} (r:Vals xs its):(!its.toArray.isEmpty)=!xs.isEmpty:=by
 cases r <;> simp
theorem vJ:(sizeLine:Nat) < 2 ^ 63:=by rw [sizeLine_eq]; decide
theorem iQ:cM X (fun x H Q=>∃ k,dL X.K x H k∧Q k H):=by
 intro pins s σ H x v Q I rx h
 obtain ⟨k,e,q⟩:=h
 have hl:=vJ
 have hs:sizeLine=16777216:=sizeLine_eq
 cases x with
 | non=>
  cases rx
  have e':k=false:=e
  subst e'
  exact truthy_none ⟨H,I,q⟩
 | bl b=>
  cases rx
  have e':k=b:=e
  subst e'
  exact wpAny_truthy_bool ⟨H,I,q⟩
 | int i=>
  obtain ⟨t,rfl⟩:=rx
  have e':k=(i != 0):=e
  subst e'
  exact PySem.P.truthy_int ⟨H,I,q⟩
 | str y=>
  obtain ⟨t,rfl⟩:=rx
  obtain ⟨hy,e'⟩:y.length ≤ sizeLine∧k=((y.length:Int) != 0):=e
  subst e'
  exact PySem.P.truthy_str (by omega) ⟨H,I.tok _,q⟩
 | byt y=>
  obtain ⟨t,rfl⟩:=rx
  obtain ⟨hy,e'⟩:y.size ≤ sizeLine∧k=((y.size:Int) != 0):=e
  subst e'
  exact PySem.W.truthy_bytes (by omega) ⟨H,I.tok _,q⟩
 | ref p=>
  cases rx
  have e':(∃ xs,SqL X.K H p xs∧k=!xs.isEmpty)∨(∃ xs,SqT X.K H p xs∧k=!xs.isEmpty)∨∃ kvs,H p=some (.dK kvs)∧k=!kvs.isEmpty:=e
  rcases e' with ⟨xs,hx,e'⟩ | ⟨xs,hx,e'⟩ | ⟨kvs,hx,e'⟩
  ·subst e'
   obtain ⟨its,r,pl,hz⟩:=I.list hx
   have hlen:=r.length
   exact wpAny_truthy_list pl.isList (by simp only [List.size_toArray]; omega) ⟨H,I.tok _,by rw [tj r]; exact q⟩
  ·subst e'
   obtain ⟨its,r,pl,hz⟩:=I.tuple hx
   have hlen:=r.length
   exact truthy_tuple pl (by simp only [List.size_toArray]; omega) ⟨H,I.tok _,by rw [tj r]; exact q⟩
  ·subst e'
   obtain ⟨hz,hS,vs,r,m⟩:kvs.length ≤ sizeLine∧(p == sysModules)=false∧∃ vs,KV kvs vs∧s.heap.DictOf (rH X.prog X.w) p vs:=I.hok p _ hx
   have hlen:kvs.length=vs.length:=Paired.length r
   exact wpAny_truthy_dict hS m (by omega) ⟨H,I.tok _,by rw [pZ r]; exact q⟩
 | _=>exact (show False from e).elim
theorem qu (ha:PE X a ta) (he:∀ yw,isTrue a X.env yw=(do let v ← yw; standAt a.pos; holding [v] (truthy v))):
  PT X a (fun σ H Q=>ta σ H fun x H'=>∃ k,dL X.K x H' k∧Q k H'):=by
 intro pins s σ H Q I h
 exact isTrue_plain (thn (ha pins s σ H _ I h) fun v s1 ⟨x,H1,I1,r1,q1⟩=>iQ pins s1 σ H1 x v Q I1 r1 q1) (he _)
theorem j0 {x:V} {us:List Value} (r:Vals [x] us):∃ u,us=[u]∧RelV x u:=by
 cases r with
 | cons r1 r2=>cases r2; exact ⟨_,rfl,r1⟩
end
end L2
namespace L2
open PySem PySem.Spec PyProof.Rows
structure ObjM (h:Heap) (x dx C:Addr) (mA:Str→Option Value):Prop where
 obj:h.get? x=some (PySem.W.instObj C dx)
 ns:h.Ns1 dx mA
 ne:dx ≠ x
theorem nQ {h:Heap} {dx:Addr} {mA:Str→Option Value} (n:h.Ns1 dx mA):∃ od,h.get? dx=some od∧∀ name,PySem.W.lookIn name od=some (mA name):=by
 obtain ⟨o,es,ep,ho,hd,hk,_,hm⟩:=n
 refine ⟨o,ho,fun name=>?_⟩
 have e:=hm name
 unfold nsFind findBy at e
 rw [← Array.find?_toList] at e
 unfold PySem.W.lookIn
 rw [hd]
 dsimp only
 split
 ·rename_i y q
  rw [q] at e
  exact congrArg some e
 ·rename_i q
  rw [q] at e
  have a:es.toList.any (·.refKey)=false:=by
   rw [List.any_eq_false]
   intro y hy
   obtain ⟨z,t,hkey⟩:=hk y (Array.mem_toList_iff.mp hy)
   simp [DictEntry.refKey,hkey]
  have a':¬ es.toList.any (·.refKey)=true:=by rw [a]; exact Bool.false_ne_true
  rw [if_neg a']
  exact congrArg some e
theorem ObjM.look {h:Heap} {x dx C:Addr} {mA:Str→Option Value} (I:ObjM h x dx C mA):∃ od,PySem.W.InstAt h x (PySem.W.instObj C dx) C (some od)∧∀ name,PySem.W.lookIn name od=some (mA name):=
 let ⟨od,ho,hl⟩:=nQ I.ns
 ⟨od,⟨I.obj,rfl,rfl,ho⟩,hl⟩
section
variable {prog:Program} {w:World} {A:Around} {E:Value→Shared→Prop} {s:Shared} {K:PySem.W.Frag} {x dx C f:Addr} {mA:Str→Option Value} {name:Str} {v:Value}
theorem jt {expr:Bool} {Q:Value→Shared→Prop} (X:K.In s.heap) (I:ObjM s.heap x dx C mA) (hg:PySem.W.plainGet K C name=true) (hh:PySem.W.hasDictIn K C=true)
  (ha:PySem.W.findIn K (.ref C) name=some none) (hv:mA name=some v) (hv':PySem.W.handedIn v=true) (h:Q v { s with toks:=s.toks + 1 }):
  wpAny (model prog w) A (getAttr (.ref x) name expr) Q E s:=by
 obtain ⟨od,J,hl⟩:=I.look
 exact PySem.W.get_value X J (PySem.W.plainGet_of hg).1 (PySem.W.findObj_own hh ha rfl (by rw [hl,hv])) hv' h
theorem lB {pl:Sem Bool} {Q:Value × List Value→Shared→Prop} (X:K.In s.heap) (I:ObjM s.heap x dx C mA) (hg:PySem.W.plainGet K C name=true)
  (hf:PySem.W.findIn K (.ref C) name=some (some (.ref f))) (ht:PySem.W.isFn K (.ref f)=true) (hv:mA name=none) (h:Q (.ref f,[.ref x]) s):
  wpAny (model prog w) A (getMethod (.ref x) name pl) Q E s:=by
 obtain ⟨od,J,hl⟩:=I.look
 exact PySem.W.method_fn X J (PySem.W.plainGet_of hg).1 (PySem.W.plainGet_of hg).2 hf (beq_iff_eq.mp ht) (by show (PySem.W.lookIn name od).map (·.isSome)=some false; rw [hl,hv]; rfl) h
theorem kM {ns:List Str} {Q:Unit→Shared→Prop} (X:K.In s.heap) (I:ObjM s.heap x dx C mA)
  (hs:PySem.W.findIn K (.ref C) "__setattr__"=some (some (.builtin "object.__setattr__"))) (hp:PySem.W.plainOver K C=true) (ht:PySem.W.takerIn K C name=some none) (hh:PySem.W.hasDictIn K C=true)
  (hw:PySem.Within mA ns) (hsz:ns.length ≤ sizeLine)
  (h:∀ h',ObjM h' x dx C (fun y=>if y=name then some v else mA y)→Heap.SameBut dx s.heap h'→Q () { s with heap:=h',toks:=s.toks + 2 }):
  wpAny (model prog w) A (setAttr (.ref x) name v) Q E s:=by
 obtain ⟨od,J,hl⟩:=I.look
 refine PySem.W.set_plain X J hs (PySem.W.osa_open (s:={ s with toks:=s.toks + 1 }) (r:=none) X J hp ht fun b=>?_)
 obtain ⟨cd,hc,hd'⟩:=PySem.W.any_some hh
 have hx:s.heap.get? x=some ⟨.ref C,some dx,.plain,#[]⟩:=I.obj
 refine wpAny_bind (wpAny_pure (wpAny_bind (wpAny_bind (wpAny_loadPart hx (wpAny_bind (PySem.W.Looks.here (s:={ s with toks:=s.toks + 1 }) (PySem.W.looks_clsIn X hc) ?_))))))
 rw [hd']
 refine wpAny_pure (a:=some dx) (wpAny_bind (wpAny_pure (wpAny_bind ?_)))
 refine wpAny_nsSet1 (s:={ s with toks:=s.toks + 1 }) I.ns fun h' hn2 hs2=>?_
 obtain ⟨oD,esD,epD,hoD,hdD,hcD⟩:=hn2.count (PySem.Within.cons name v hw)
 refine wpAny_bind (wpAny_lookBehind hoD (by rw [hdD]; exact pastItsLine_dict (Nat.le_trans hcD (by rw [List.length_cons]; omega))) ?_)
 exact wpAny_pure (h _ ⟨(hs2.2 _ (Ne.symm I.ne)).trans I.obj,hn2,I.ne⟩ hs2)
theorem lp {R:Result→Shared→Prop} {vs:List Value} {kw:List (Str × Value)} (X:K.In s.heap) (hm:PySem.W.makesIn K C=true)
  (hi:PySem.W.findIn K (.ref C) "__init__"=some (some (.ref f))) (hf:PySem.W.typeIn K (.ref f)=some (.type "function"))
  (h:codeAny (model prog w) (A.under (.builtin "type.__call__" ⟨.ref C :: vs,kw⟩)) (.call (.ref f) ⟨.ref (s.heap.objs.size + 1) :: vs,kw⟩) (PySem.W.InitBack (s.heap.objs.size + 1) R)
   { s with heap:=(s.heap.push PySem.W.emptyDict).push (PySem.W.instObj C s.heap.objs.size) }):
  codeAny (model prog w) A (.call (.ref C) ⟨vs,kw⟩) R s:=by
 obtain ⟨hh,g,d,t,os⟩:=s
 exact PySem.W.make_core (PySem.W.makes_of X hm) (PySem.W.looks_findIn X hi) (fun self=>PySem.W.bind_fn X self hf) (.inl rfl) h
end
def wx (f:Str) (v:V):List (Str × V)→List (Str × V)
 | []=>[(f,v)]
 | (g,x) :: r=>if g=f then (g,v) :: r else (g,x) :: wx f v r
theorem vW (f g:Str) (v:V):∀ fs:List (Str × V),(wx f v fs).lookup g=if g=f then some v else fs.lookup g
 | []=>by
  show List.lookup g [(f,v)]=_
  by_cases h:g=f
  ·have hb:(g == f)=true:=beq_iff_eq.mpr h
   simp only [List.lookup,hb,if_pos h]
  ·have hb:(g == f)=false:=beq_eq_false_iff_ne.mpr h
   simp only [List.lookup,hb,if_neg h]
 | (k,x) :: r=>by
  have ih:=vW f g v r
  rw [show wx f v ((k,x) :: r)=(if k=f then (k,v) :: r else (k,x) :: wx f v r) from rfl]
  by_cases hk:k=f
  ·rw [if_pos hk]
   by_cases h:g=k
   ·have hb:(g == k)=true:=beq_iff_eq.mpr h
    simp only [List.lookup,hb,if_pos (h.trans hk)]
   ·have hb:(g == k)=false:=beq_eq_false_iff_ne.mpr h
    simp only [List.lookup,hb,if_neg (fun e:g=f=>h (e.trans hk.symm))]
  ·rw [if_neg hk]
   by_cases h:g=k
   ·have hb:(g == k)=true:=beq_iff_eq.mpr h
    simp only [List.lookup,hb,if_neg (fun e:g=f=>hk (h.symm.trans e))]
   ·have hb:(g == k)=false:=beq_eq_false_iff_ne.mpr h
    simp only [List.lookup,hb]
    exact ih
theorem vL (f:Str) (v:V):∀ fs:List (Str × V),f ∈ (wx f v fs).map (·.1)∧∀ g,g ∈ fs.map (·.1)→g ∈ (wx f v fs).map (·.1)
 | []=>⟨by simp [wx],fun g h=>by simp at h⟩
 | (k,x) :: r=>by
  obtain ⟨i1,i2⟩:=vL f v r
  rw [show wx f v ((k,x) :: r)=(if k=f then (k,v) :: r else (k,x) :: wx f v r) from rfl]
  by_cases hk:k=f
  ·rw [if_pos hk]
   subst hk
   exact ⟨by simp,fun g h=>by simpa using h⟩
  ·rw [if_neg hk]
   refine ⟨?_,fun g h=>?_⟩
   ·rw [List.map_cons]
    exact List.mem_cons_of_mem _ i1
   ·rw [List.map_cons] at h ⊢
    rcases List.mem_cons.mp h with e | e
    ·exact List.mem_cons.mpr (.inl e)
    ·exact List.mem_cons_of_mem _ (i2 g e)
theorem vX (f:Str) (v:V):∀ fs:List (Str × V),(wx f v fs).length ≤ fs.length + 1
 | []=>by simp [wx]
 | (k,x) :: r=>by
  have ih:=vX f v r
  rw [show wx f v ((k,x) :: r)=(if k=f then (k,v) :: r else (k,x) :: wx f v r) from rfl]
  by_cases hk:k=f
  ·rw [if_pos hk,List.length_cons,List.length_cons]; omega
  ·rw [if_neg hk,List.length_cons,List.length_cons]; omega
theorem RelO.some_of {v:V} {o:Option Value} (r:RelO (some v) o):∃ u,o=some u∧RelV v u:=by
 cases o with
 | none=>exact (show False from r).elim
 | some u=>exact ⟨u,rfl,r⟩
theorem RelO.none_of {o:Option Value} (r:RelO none o):o=none:=by
 cases o with
 | none=>rfl
 | some u=>exact (show False from r).elim
theorem nY {v:V} {u:Value} (r:RelV v u):PySem.W.handedIn u=true:=by
 cases v with
 | non=>cases (show u=Value.none from r); rfl
 | bl b=>cases (show u=Value.bool b from r); rfl
 | int i=>obtain ⟨t,e⟩:=(show ∃ t,u=Value.int i t from r); cases e; rfl
 | str x=>obtain ⟨t,e⟩:=(show ∃ t,u=Value.str x t from r); cases e; rfl
 | byt b=>obtain ⟨t,e⟩:=(show ∃ t,u=Value.bytes b t from r); cases e; rfl
 | flt b=>obtain ⟨t,e⟩:=(show ∃ t,u=Value.float b t from r); cases e; rfl
 | ref a=>cases (show u=Value.ref a from r); rfl
 | ty n=>cases (show u=Value.type n from r); rfl
section
variable {P:Program} {w:World} {H H':Hp} {h h':Heap} {a C dx:Addr} {fs fs':List (Str × V)}
theorem uz (hok:HOk P w H h) (e:H a=some (.ins C dx fs)):∃ mA,ObjM h a dx C mA∧(∀ f,RelO (fs.lookup f) (mA f))∧PySem.Within mA (fs.map (·.1))∧fs.length ≤ 1000∧H dx=some (.own a):=by
 obtain ⟨d,z,ne,ob,mA,n,r,q⟩:=(show ObjOk P w H h a (.ins C dx fs) from hok a _ e)
 exact ⟨mA,⟨ob,n,ne⟩,r,q,z,d⟩
end
structure Cls (K:PySem.W.Frag) (C:Addr):Prop where
 pg:PySem.W.plainGet K C Str.empty=true
 hd:PySem.W.hasDictIn K C=true
 po:PySem.W.plainOver K C=true
 sa:PySem.W.findIn K (.ref C) "__setattr__"=some (some (.builtin "object.__setattr__"))
theorem Cls.get {K:PySem.W.Frag} {C:Addr} (c:Cls K C) (f:Str):PySem.W.plainGet K C f=true:=c.pg
def NoAttr (K:PySem.W.Frag) (C:Addr) (f:Str):Prop:=PySem.W.findIn K (.ref C) f=some none
theorem NoAttr.taker {K:PySem.W.Frag} {C:Addr} {f:Str} (n:NoAttr K C f):PySem.W.takerIn K C f=some none:=by
 unfold PySem.W.takerIn
 rw [show PySem.W.findIn K (.ref C) f=some none from n]
 rfl
structure jV (K:PySem.W.Frag) (C:Addr) (m:Str) (f:Addr):Prop where
 at_:PySem.W.findIn K (.ref C) m=some (some (.ref f))
 fn:PySem.W.isFn K (.ref f)=true
 kp:PySem.W.keepIn K (.ref f)=true
section
variable {X:Cx} {pins:List (Addr × Obj)} {σ:St} {H:Hp} {s:Shared} {a C dx:Addr} {fs:List (Str × V)} {f:Str} {v:V} {A:Around} {E:Value→Shared→Prop}
theorem p6 {b:Bool} {Q:Value→Shared→Prop} (I:Inv X pins σ H s) (e:H a=some (.ins C dx fs)) (c:Cls X.K C) (n:NoAttr X.K C f) (l:fs.lookup f=some v)
  (h:∀ u s',Inv X pins σ H s'→RelV v u→Q u s'):wpAny (model X.prog X.w) A (getAttr (.ref a) f b) Q E s:=by
 obtain ⟨mA,O,r,_,_,_⟩:=uz I.hok e
 obtain ⟨u,hu,ru⟩:=RelO.some_of (v:=v) (o:=mA f) (by rw [← l]; exact r f)
 exact jt I.kIn O (c.get f) c.hd n hu (nY ru) (h u _ (I.tok _) ru)
theorem tq {m:Str} {g:Addr} {pl:Sem Bool} {Q:Value × List Value→Shared→Prop} (I:Inv X pins σ H s) (e:H a=some (.ins C dx fs)) (c:Cls X.K C) (k:jV X.K C m g) (l:fs.lookup m=none)
  (h:Q (.ref g,[.ref a]) s):wpAny (model X.prog X.w) A (getMethod (.ref a) m pl) Q E s:=by
 obtain ⟨mA,O,r,_,_,_⟩:=uz I.hok e
 have hn:mA m=none:=RelO.none_of (by rw [← l]; exact r m)
 exact lB I.kIn O (c.get m) k.at_ k.fn hn h
theorem ph {y:V} {u:Value} {Q:Unit→Shared→Prop} (I:Inv X pins σ H s) (e:H a=some (.ins C dx fs)) (c:Cls X.K C) (n:NoAttr X.K C f) (hl:fs.length < 1000) (ry:RelV y u)
  (h:∀ s',Inv X pins σ (upd H a (.ins C dx (wx f y fs))) s'→Q () s'):wpAny (model X.prog X.w) A (setAttr (.ref a) f u) Q E s:=by
 obtain ⟨mA,O,r,wi,_,ho⟩:=uz I.hok e
 have hz:(fs.map (·.1)).length ≤ sizeLine:=by rw [List.length_map,sizeLine_eq]; omega
 refine kM I.kIn O c.sa c.po n.taker c.hd wi hz fun h' O' sb=>h _ ?_
 have hd:∃ o,h'.get? dx=some o:=let ⟨o,_,_,e',_⟩:=O'.ns; ⟨o,e'⟩
 refine I.write (x:=a) (e:=dx) (by rw [e]; exact True.intro) (.inr ho) (fun b q hb z=>(sb.2 b hb).trans z) hd ?_
 refine ⟨by rw [zr O.ne]; exact ho,?_,O.ne,O'.obj,_,O'.ns,fun g=>?_,fun g hg=>?_⟩
 ·have:=vX f y fs; omega
 ·show RelO ((wx f y fs).lookup g) (if g=f then some u else mA g)
  rw [vW]
  by_cases q:g=f
  ·rw [if_pos q,if_pos q]; exact ry
  ·rw [if_neg q,if_neg q]; exact r g
 ·by_cases q:g=f
  ·rw [q]; exact (vL f y fs).1
  ·refine (vL f y fs).2 g (wi g fun z=>hg ?_)
   show (if g=f then some u else mA g)=none
   rw [if_neg q]; exact z
theorem Inv.made (I:Inv X pins σ H s):Inv X pins σ (upd (upd H s.heap.objs.size (.own (s.heap.objs.size + 1))) (s.heap.objs.size + 1) (.ins C s.heap.objs.size []))
  { s with heap:=(s.heap.push PySem.W.emptyDict).push (PySem.W.instObj C s.heap.objs.size) }:=by
 have e1:(s.heap.push PySem.W.emptyDict).get? s.heap.objs.size=some PySem.W.emptyDict:=Heap.get?_push_size s.heap rfl
 have e2:((s.heap.push PySem.W.emptyDict).push (PySem.W.instObj C s.heap.objs.size)).get? (s.heap.objs.size + 1)=some (PySem.W.instObj C s.heap.objs.size):=by
  have:=Heap.get?_push_size (s.heap.push PySem.W.emptyDict) (o:=PySem.W.instObj C s.heap.objs.size) rfl
  rwa [Heap.size_push] at this
 have e3:(s.heap.push PySem.W.emptyDict).Ns s.heap.objs.size (fun _=>none):=⟨PySem.W.emptyDict,#[],_,e1,rfl,(fun e he=>absurd he (by simp)),fun _=>rfl⟩
 have I1:=I.laid (a:=s.heap.objs.size) (o:=.own (s.heap.objs.size + 1)) (h':=s.heap.push PySem.W.emptyDict) (t':=s.toks) (fun b u q=>Heap.get?_push_of_some _ q) (Nat.le_refl _) ⟨_,e1⟩
 refine I1.laid (a:=s.heap.objs.size + 1) (o:=.ins C s.heap.objs.size []) (t':=s.toks) (fun b u q=>Heap.get?_push_of_some _ q) (Nat.le_of_eq (Heap.size_push _ _)) ?_
 have ne:s.heap.objs.size ≠ s.heap.objs.size + 1:=Nat.ne_of_lt (Nat.lt_succ_self _)
 refine ⟨by rw [zr ne,zu],Nat.zero_le _,ne,e2,fun _=>none,(Heap.Ns1.of_empty e3).at fun o q=>Heap.get?_push_of_some _ q,fun _=>True.intro,fun y hy=>absurd rfl hy⟩
theorem jS {prog:Program} {w:World} {env:Env} {e:Expr} {f:Str} {pos:Pos} {s:Shared} {Q:Value→Shared→Prop} (hb:attributeBase e f env (eval e env)=eval e env)
  (h:wpAny (model prog w) A (eval e env) (fun o s₁=>wpAny (model prog w) A (getAttr o f true) Q E s₁) E s):wpAny (model prog w) A (eval (.Attribute e f pos) env) Q E s:=
 Attribute_any_ h (by rw [arm_eval_Attribute,hb])
end
def d7 (K:PySem.W.Frag) (ta:TE) (f:Str):TE:=fun σ H Q=>ta σ H fun x H1=>∃ a C dx fs v,x=.ref a∧H1 a=some (.ins C dx fs)∧Cls K C∧NoAttr K C f∧fs.lookup f=some v∧Q v H1
def fG (K:PySem.W.Frag) (ta tv:TE) (f:Str):TS:=fun D σ H=>tv σ H fun y H1=>ta σ H1 fun x H2=>∃ a C dx fs,x=.ref a∧H2 a=some (.ins C dx fs)∧Cls K C∧NoAttr K C f∧fs.length < 1000∧
 D.nx σ (upd H2 a (.ins C dx (wx f y fs)))
section
variable {X:Cx} {o e value:Expr} {f:Str} {pos pos' tpos:Pos} {ta tv:TE}
theorem gb (he:PE X e ta) (hb:attributeBase e f X.env (eval e X.env)=eval e X.env):PE X (.Attribute e f pos) (d7 X.K ta f):=by
 intro pins s σ H Q I h
 refine jS hb (thn (he pins s σ H _ I h) fun u s1 ⟨x,H1,I1,rx,a,C,dx,fs,v,ex,ea,c,n,l,q⟩=>?_)
 subst ex
 obtain rfl:u=Value.ref a:=rx
 exact p6 I1 ea c n l fun u' s2 I2 ru=>⟨v,H1,I2,ru,q⟩
theorem vB (ha:PE X o ta) (hv:PE X value tv) (hs:swapsWith value (some (.Attribute o f pos')) pos.line X.env=pure false):PS X (.Assign [.Attribute o f pos'] value pos) (fG X.K ta tv f):=by
 intro pins s σ H D I h
 refine plainObj_wpAny_Assign_Attribute (thn (hv pins s σ H _ I h) fun u s1 ⟨y,H1,I1,ry,q⟩=>thn (ha pins s1 σ H1 _ I1 q) fun ov s2 ⟨x,H2,I2,rx,a,C,dx,fs,ex,ea,c,n,l,q2⟩=>?_) hs
 subst ex
 obtain rfl:ov=Value.ref a:=rx
 exact ph I2 ea c n l ry fun s3 I3=>⟨σ,_,I3,q2⟩
end
section
variable {X:Cx} {pins:List (Addr × Obj)} {σ:St} {H:Hp} {s:Shared} {A:Around} {E:Value→Shared→Prop} {Q:Value→Shared→Prop} {c:Value} {b:Bool}
inductive wO (K:PySem.W.Frag) (H:Hp):V→Value→Prop where
 | non:wO K H .non (.type "NoneType")
 | bl (x:Bool):wO K H (.bl x) (.type "bool")
 | int (i:Int):wO K H (.int i) (.type "int")
 | str (x:Str):wO K H (.str x) (.type "str")
 | flt (x:UInt64):wO K H (.flt x) (.type "float")
 | lst {a:Addr} {xs:List V} (e:H a=some (.lst xs)):wO K H (.ref a) (.type "list")
 | frz {a:Addr} {o:Obj} {xs:List V} (e:H a=some (.frz o (.lst xs))):wO K H (.ref a) (.type "list")
 | tup {a:Addr} {xs:List V} (e:H a=some (.tup xs)):wO K H (.ref a) (.type "tuple")
 | dK {a:Addr} {kvs:List (Key × V)} (e:H a=some (.dK kvs)):wO K H (.ref a) (.type "dict")
 | dT {a:Addr} {kvs:List (List Key × V)} (e:H a=some (.dT kvs)):wO K H (.ref a) (.type "dict")
 | ins {a C dx:Addr} {fs:List (Str × V)} (e:H a=some (.ins C dx fs)) (cl:Cls K C) (ha:PySem.W.findIn K (.ref C) "__class__"=some (some (.builtin "object.__class__")))
   (hn:PySem.W.specialIn K (.builtin "object.__class__") "__get__"=some (some (.builtin "getset_descriptor.__get__"))) (htk:PySem.W.takesIn K (.builtin "object.__class__")=some true)
   (hm:PySem.W.mroIn K C (.type "object")=some true):wO K H (.ref a) (.ref C)
theorem sI {x:V} {u t:Value} (I:Inv X pins σ H s) (rx:RelV x u) (ty:wO X.K H x t) (e:PySem.W.kitOne X.K t c=some b) (h:∀ tk,Q (.bool b) { s with toks:=tk }):
  wpAny (model X.prog X.w) A (call (.builtin "isinstance") [u,c]) Q E s:=by
 cases ty with
 | non=>cases (show u=Value.none from rx); exact PySem.W.kia_one PySem.W.kitx_none I.kIn True.intro e (fun z=>nomatch z) h
 | bl y=>cases (show u=Value.bool y from rx); exact PySem.W.kia_one PySem.W.kitx_bool I.kIn True.intro e (fun z=>nomatch z) h
 | int i=>obtain ⟨t,q⟩:=(show ∃ t,u=Value.int i t from rx); cases q; exact PySem.W.kia_one PySem.W.kitx_int I.kIn True.intro e (fun z=>nomatch z) h
 | str y=>obtain ⟨t,q⟩:=(show ∃ t,u=Value.str y t from rx); cases q; exact PySem.W.kia_one PySem.W.kitx_str I.kIn True.intro e (fun z=>nomatch z) h
 | flt y=>obtain ⟨t,q⟩:=(show ∃ t,u=Value.float y t from rx); cases q; exact PySem.W.kia_one PySem.W.kitx_float I.kIn True.intro e (fun z=>nomatch z) h
 | @lst a xs ea=>
  cases (show u=Value.ref a from rx)
  obtain ⟨_,_,n,_,h1⟩:=(show ObjOk X.prog X.w H s.heap a (.lst xs) from I.hok a _ ea)
  exact PySem.W.kia_one PySem.W.kitx_list I.kIn ⟨_,h1,rfl⟩ e (fun z=>nomatch z) h
 | @frz a ob xs ea=>
  cases (show u=Value.ref a from rx)
  obtain ⟨_,_,_,n,_,h1⟩:=(show ObjOk X.prog X.w H s.heap a (.frz ob (.lst xs)) from I.hok a _ ea)
  exact PySem.W.kia_one PySem.W.kitx_list I.kIn ⟨_,h1,rfl⟩ e (fun z=>nomatch z) h
 | @tup a xs ea=>
  cases (show u=Value.ref a from rx)
  obtain ⟨_,_,_,p⟩:=(show ObjOk X.prog X.w H s.heap a (.tup xs) from I.hok a _ ea)
  obtain ⟨o,h1,h2,_⟩:=p
  exact PySem.W.kia_one PySem.W.kitx_tuple I.kIn ⟨o,h1,h2⟩ e (fun z=>nomatch z) h
 | @dK a kvs ea=>
  cases (show u=Value.ref a from rx)
  obtain ⟨_,_,vs,_,p⟩:=(show ObjOk X.prog X.w H s.heap a (.dK kvs) from I.hok a _ ea)
  obtain ⟨o,es,ep,h1,h2,_⟩:=p
  exact PySem.W.kia_one PySem.W.kitx_dict I.kIn ⟨o,h1,h2.1⟩ e (fun z=>nomatch z) h
 | @dT a kvs ea=>
  cases (show u=Value.ref a from rx)
  obtain ⟨_,_,xs,_,o,es,ep,h1,h2,_⟩:=(show ObjOk X.prog X.w H s.heap a (.dT kvs) from I.hok a _ ea)
  exact PySem.W.kia_one PySem.W.kitx_dict I.kIn ⟨o,h1,h2.1⟩ e (fun z=>nomatch z) h
 | @ins a C dx fs ea cl ha hn htk hm=>
  cases (show u=Value.ref a from rx)
  obtain ⟨mA,O,_⟩:=uz I.hok ea
  obtain ⟨od,J,_⟩:=O.look
  exact PySem.W.kia_one (PySem.W.kitx_own (cl.get _) cl.hd ha hn htk hm) I.kIn J e (fun z=>nomatch z) h
end
end L2
namespace L2
open PySem PySem.Spec PyProof.Rows
structure Room (k:Nat) (A:Around):Prop where
 hd:A.handled=none
 dp:A.depth + 3 * k + 5 < recursionLimit
 un:A.units + 16 * k + 200 < cLine
theorem Room.mono {j k:Nat} {A:Around} (r:Room k A) (h:j ≤ k):Room j A:=⟨r.hd,by have:=r.dp; omega,by have:=r.un; omega⟩
theorem Room.deeper {k:Nat} {A:Around} (r:Room (k + 1) A) (env:Env):Room k (A.deeper env):=
 ⟨r.hd,by have:=r.dp; show A.depth + 1 + 3 * k + 5 < _; omega,by have:=r.un; show A.units + 3 + 16 * k + 200 < _; omega⟩
theorem Room.in1 {k:Nat} {A:Around} (r:Room (k + 1) A):Room k A.in1:=
 ⟨r.hd,by have:=r.dp; show A.depth + 3 * k + 5 < _; omega,by have:=r.un; show A.units + 1 + 16 * k + 200 < _; omega⟩
theorem pY {A:Around} {C:Addr} {us:List Value} {kw:List (Str × Value)}:(A.under (.builtin "type.__call__" ⟨.ref C :: us,kw⟩)).depth=A.depth + 1:=by
 first | rfl | simp [Around.under,Code.weight,Code.isCreation,Code.isGuard,Code.isCaller,Code.frames,Code.isFrame,guardIds]
theorem pX {A:Around} {C:Addr} {us:List Value} {kw:List (Str × Value)}:(A.under (.builtin "type.__call__" ⟨.ref C :: us,kw⟩)).units=A.units + 1:=by
 first | rfl | simp [Around.under,Code.cUnits,Code.frames,Code.isFrame]
theorem Room.make {k:Nat} {A:Around} (r:Room (k + 1) A) (C:Addr) (us:List Value) (kw:List (Str × Value)):Room k (A.under (.builtin "type.__call__" ⟨.ref C :: us,kw⟩)):=
 ⟨r.hd,by have:=r.dp; rw [pY]; omega,by have:=r.un; rw [pX]; omega⟩
theorem Room.depth {k:Nat} {A:Around} (r:Room k A):A.depth < recursionLimit:=by have:=r.dp; omega
theorem Room.units {k:Nat} {A:Around} (r:Room k A):A.units + 64 < cLine:=by have:=r.un; omega
def ft:TA:=fun _ H Q=>Q [] H
def fB (ta:TE) (tr:TA):TA:=fun σ H Q=>ta σ H fun x H1=>tr σ H1 fun xs H2=>Q (x :: xs) H2
section
variable {X:Cx} {e:Expr} {es:List Expr} {te:TE} {t:TA} {pos:Pos}
theorem yF:PA X [] ft:=fun _ _ _ _ H Q I h=>Calls.spliced_nil ⟨[],H,I,.nil,h⟩
theorem zL (ha:PE X e te) (hr:PA X es t) (hs:starEach (e :: es) X.env=(false,eval e X.env) :: starEach es X.env:=by rfl):PA X (e :: es) (fB te t):=by
 intro pos pins s σ H Q I h
 rw [hs]
 show wpAny _ _ (spliced ((false,eval e X.env) :: backTo pos (starEach es X.env))) _ _ s
 refine Calls.spliced_cons (thn (ha pins s σ H _ I h) fun u s1 ⟨x,H1,I1,r1,q1⟩=>?_)
 exact thn (hr pos pins s1 σ H1 _ I1 q1) fun us s2 ⟨xs,H2,I2,r2,q2⟩=>⟨x :: xs,H2,I2,.cons r1 r2,q2⟩
def dS (t:TA):TE:=fun σ H Q=>t σ H fun xs H1=>xs.length ≤ sizeLine∧∀ p,H1 p=none→Q (.ref p) (upd H1 p (.tup xs))
def dZ (t:TA):TE:=fun σ H Q=>t σ H fun xs H1=>xs.length ≤ sizeLine∧∀ p,H1 p=none→Q (.ref p) (upd H1 p (.lst xs))
theorem mU {x1} (h:PA X es t):PE X (.Tuple es x1 pos) (dS t):=by
 intro pins s σ H Q I hq
 refine wpAny_Tuple_spliced (thn (h pos pins s σ H _ I hq) fun us s1 ⟨xs,H1,I1,r,z,q⟩=>⟨by rw [← r.length]; exact z,?_⟩)
 have hf:H1 s1.heap.objs.size=none:=I1.hok.fresh (Nat.le_refl _)
 refine ⟨.ref s1.heap.objs.size,upd H1 s1.heap.objs.size (.tup xs),I1.laid (t':=s1.toks) (fun b u e=>Heap.get?_push_of_some _ e) (Nat.le_refl _) ?_,rfl,q _ hf⟩
 exact ⟨z,us,r,⟨_,Heap.get?_push_size _ rfl,rfl,_,rfl⟩⟩
theorem mW (h:PA X es t):PE X (.List es pos) (dZ t):=by
 intro pins s σ H Q I hq
 refine wpAny_List_spliced (thn (h pos pins s σ H _ I hq) fun us s1 ⟨xs,H1,I1,r,z,q⟩=>⟨by rw [← r.length]; exact z,?_⟩)
 have hf:H1 s1.heap.objs.size=none:=I1.hok.fresh (Nat.le_refl _)
 refine ⟨.ref s1.heap.objs.size,upd H1 s1.heap.objs.size (.lst xs),I1.laid (t':=s1.toks) (fun b u e=>Heap.get?_push_of_some _ e) (Nat.le_refl _) ?_,rfl,q _ hf⟩
 exact ⟨z,us,0,r,Heap.get?_push_size _ rfl⟩
end
abbrev Sp:=List V→Hp→VK→XK→Prop
abbrev CXT:=List Env→Hp→Shared→XK→Value→Shared→Prop
structure Env0 (P:Program) (w:World) (K:PySem.W.Frag) (mg:Str→Option Value) (base:Heap) (A:Around) (outer:List Env) (s:Shared) (H:Hp):Prop where
 frames:A.frames=some outer
 mod:Mod K mg base
 bs:∀ b o,base.get? b=some o→s.heap.get? b=some o∧H b=none
 bsz:base.objs.size ≤ s.heap.objs.size
 funs:s.heap.FunFrames base outer
 frf:∀ b ∈ frs outer,H b=none
 hok:HOk P w H s.heap
 bare:AllBare s.gens
def CE (outer:List Env) (P:Program) (w:World) (H:Hp) (s:Shared) (Q:VK) (u:Value) (s':Shared):Prop:=
 ∃ v H',s'.os=s.os∧AllBare s'.gens∧Un (frs outer) [] H H' s.heap s'.heap∧HOk P w H' s'.heap∧RelV v u∧Q v H'
def CR (CX:CXT) (outer:List Env) (P:Program) (w:World) (H:Hp) (s:Shared) (Q:VK) (E:XK) (r:Result) (s':Shared):Prop:=
 match r with
 | .ok (.ret u)=>CE outer P w H s Q u s'
 | .ok _=>False
 | .error e=>CX outer H s E e s'
structure FnOk (P:Program) (w:World) (K:PySem.W.Frag) (mg:Str→Option Value) (base:Heap) (CX:CXT) (k:Nat) (f:Addr) (fd:FuncData) (ps:List Str) (sp:Sp):Prop where
 len:∀ vs H Q E,sp vs H Q E→vs.length=ps.length
 run:∀ (A:Around) (outer:List Env) (s:Shared) (H:Hp) (args:Args) (us:List Value) (vs:List V) (Q:VK) (E:XK),Room k A→Env0 P w K mg base A outer s H→BindsTo s fd args (ps.zip us)→Vals vs us→sp vs H Q E→
  codeAny (model P w) A (.call (.ref f) args) (CR CX outer P w H s Q E) s
theorem FnOk.mono {P:Program} {w:World} {K:PySem.W.Frag} {mg:Str→Option Value} {base:Heap} {CX:CXT} {j k:Nat} {f:Addr} {fd:FuncData} {ps:List Str} {sp:Sp} (F:FnOk P w K mg base CX j f fd ps sp) (h:j ≤ k):
  FnOk P w K mg base CX k f fd ps sp:=⟨F.len,fun A outer s H args us vs Q E hr=>F.run A outer s H args us vs Q E (hr.mono h)⟩
theorem FnOk.imp {P:Program} {w:World} {K:PySem.W.Frag} {mg:Str→Option Value} {base:Heap} {CX:CXT} {k:Nat} {f:Addr} {fd:FuncData} {ps:List Str} {sp sp':Sp} (F:FnOk P w K mg base CX k f fd ps sp)
  (h:∀ vs H Q E,sp' vs H Q E→sp vs H Q E):FnOk P w K mg base CX k f fd ps sp':=
 ⟨fun vs H Q E q=>F.len vs H Q E (h _ _ _ _ q),fun A outer s H args us vs Q E hr he hb hv hs=>F.run A outer s H args us vs Q E hr he hb hv (h _ _ _ _ hs)⟩
theorem Env0.make {P:Program} {w:World} {K:PySem.W.Frag} {mg:Str→Option Value} {base:Heap} {A:Around} {outer:List Env} {s:Shared} {H:Hp} (e:Env0 P w K mg base A outer s H) (C:Addr) (us:List Value) (kw:List (Str × Value)):
  Env0 P w K mg base (A.under (.builtin "type.__call__" ⟨.ref C :: us,kw⟩)) outer s H:=⟨by first | exact e.frames | (simpa [Around.under,Code.envs,Code.isFrame,pushEnvs] using e.frames),e.mod,e.bs,e.bsz,e.funs,e.frf,e.hok,e.bare⟩
theorem Env0.in1 {P:Program} {w:World} {K:PySem.W.Frag} {mg:Str→Option Value} {base:Heap} {A:Around} {outer:List Env} {s:Shared} {H:Hp} (e:Env0 P w K mg base A outer s H):
  Env0 P w K mg base A.in1 outer s H:=⟨e.frames,e.mod,e.bs,e.bsz,e.funs,e.frf,e.hok,e.bare⟩
section
variable {X:Cx} {pins:List (Addr × Obj)} {σ:St} {H:Hp} {s s':Shared}
theorem Inv.env0 (I:Inv X pins σ H s):Env0 X.prog X.w X.K X.mg X.base X.A X.stack s H:=
 ⟨I.ok.frames,I.ok.mod,I.bs,Nat.le_trans I.ok.bsz I.sz,I.stack,I.stkFree,I.hok,I.bare⟩
theorem Inv.after {Q:VK} {u:Value} (I:Inv X pins σ H s) (h:CE X.stack X.prog X.w H s Q u s'):EP X pins σ Q u s':=by
 obtain ⟨v,H',os,bare,un,hok,r,q⟩:=h
 obtain ⟨hh,g,d,t,os'⟩:=s'
 obtain rfl:os'=s.os:=os
 exact ⟨v,H',I.call (h':=hh) (g':=g) (d':=d) (t':=t) (ch:=[]) un hok bare (fun b z=>absurd z (by simp)),r,q⟩
end
def fC (sp:Sp) (dvs:List V) (E:XK) (t:TA):TE:=fun σ H Q=>t σ H fun vs H1=>sp (vs ++ dvs) H1 Q E
def fv (C:Addr) (sp:Sp) (dvs:List V) (E:XK) (t:TA):TE:=fun σ H Q=>t σ H fun vs H1=>∀ x dx,H1 x=none→H1 dx=none→dx ≠ x→
 sp (.ref x :: (vs ++ dvs)) (upd (upd H1 dx (.own x)) x (.ins C dx [])) (fun v H2=>v=.non∧Q (.ref x) H2) E
def Binds (K:PySem.W.Frag) (fd:FuncData) (ps:List Str) (ds:List Value):Prop:=
 ∀ (s:Shared) (us:List Value),K.In s.heap→(us ++ ds).length=ps.length→BindsTo s fd ⟨us,[]⟩ (ps.zip (us ++ ds))
theorem Binds.all {K:PySem.W.Frag} {fd:FuncData} {ps:List Str} (h:∀ us:List Value,us.length=ps.length→bindArgs fd ⟨us,[]⟩=pure (ps.zip us)):Binds K fd ps []:=fun s us _ hl=>by
 rw [List.append_nil] at hl ⊢
 exact .of_eq (h us hl)
def vU (CX:CXT) (X:Cx) (E:XK):Prop:=∀ (pins:List (Addr × Obj)) (σ:St) (H:Hp) (s:Shared) (e:Value) (s':Shared),Inv X pins σ H s→CX X.stack H s E e s'→X.xe e s'
section
variable {X:Cx} {CX:CXT} {k:Nat} {f C:Addr} {fd:FuncData} {ps:List Str} {sp:Sp} {dvs:List V} {ds:List Value} {E:XK} {x m:Str} {p pos apos:Pos} {e o:Expr} {es:List Expr} {ta:TE} {t:TA}
theorem pJ {pins:List (Addr × Obj)} {σ:St} {H:Hp} {s:Shared} {Q:VK} {us:List Value} {vs:List V} (F:FnOk X.prog X.w X.K X.mg X.base CX k f fd ps sp) (hr:Room k X.A) (hb:Binds X.K fd ps ds) (hd:Vals dvs ds) (hx:vU CX X E)
  (I:Inv X pins σ H s) (r:Vals vs us) (h:sp (vs ++ dvs) H Q E):wpAny (model X.prog X.w) X.A (call (.ref f) us) (EP X pins σ Q) X.xe s:=by
 have r2:Vals (vs ++ dvs) (us ++ ds):=r.append hd
 have hl:(us ++ ds).length=ps.length:=by rw [← r2.length]; exact F.len _ _ _ _ h
 refine wpAny_call (codeAny_mono (F.run X.A X.stack s H ⟨us,[]⟩ (us ++ ds) (vs ++ dvs) Q E hr I.env0 (hb s us I.kIn hl) r2 h) fun r s' hq=>?_)
 cases r with
 | error e=>exact hx pins σ H s e s' I hq
 | ok fl=>
  cases fl with
  | ret u=>exact I.after hq
  | next=>exact False.elim hq
  | brk=>exact False.elim hq
  | cont=>exact False.elim hq
theorem wV (F:FnOk X.prog X.w X.K X.mg X.base CX k f fd ps sp) (hr:Room k X.A) (hg:Gl X x) (hm:X.mg x=some (.ref f)) (hk:PySem.W.keepIn X.K (.ref f)=true) (hb:Binds X.K fd ps ds) (hd:Vals dvs ds) (hx:vU CX X E)
  (ha:PA X (e :: es) t) (hdb:(x == ("__debug__":Str))=false:=by decide) (he:starEach (e :: es) X.env=(false,eval e X.env) :: starEach es X.env:=by rfl) (hpl:(backTo pos (starEach es X.env)).any (·.1)=false:=by rfl):
  PE X (.Call (.Name x p) (e :: es) [] pos) (fC sp dvs E t):=by
 intro pins s σ H Q I h
 refine wpAny_Call_Name_kw (xH I hg hm ?_ hdb)
 refine PySem.W.callWith_K (h₀:=X.base) I.ok.mod.kin hk (thn (ha pos pins s σ H _ I h) fun us s1 ⟨vs,H1,I1,r,q⟩=>⟨I1.kIn,?_⟩) he hpl
 exact pJ F hr hb hd hx I1 r q
structure Mk (K:PySem.W.Frag) (C f:Addr):Prop where
 makes:PySem.W.makesIn K C=true
 init:PySem.W.findIn K (.ref C) "__init__"=some (some (.ref f))
 fn:PySem.W.isFn K (.ref f)=true
 kp:PySem.W.keepIn K (.ref C)=true
theorem mG {pins:List (Addr × Obj)} {σ:St} {H:Hp} {s:Shared} {Q:VK} {us:List Value} {vs:List V} (M:Mk X.K C f) (F:FnOk X.prog X.w X.K X.mg X.base CX k f fd ps sp) (hr:Room (k + 1) X.A) (hb:Binds X.K fd ps ds) (hd:Vals dvs ds)
  (hx:vU CX X E) (I:Inv X pins σ H s) (r:Vals vs us)
  (h:∀ x dx,H x=none→H dx=none→dx ≠ x→sp (.ref x :: (vs ++ dvs)) (upd (upd H dx (.own x)) x (.ins C dx [])) (fun v H2=>v=.non∧Q (.ref x) H2) E):
  wpAny (model X.prog X.w) X.A (call (.ref C) us) (EP X pins σ Q) X.xe s:=by
 have hq:=h (s.heap.objs.size + 1) s.heap.objs.size (I.hok.fresh (Nat.le_succ _)) (I.hok.fresh (Nat.le_refl _)) (Nat.ne_of_lt (Nat.lt_succ_self _))
 have I2:=Inv.made (C:=C) I
 have r2:Vals (V.ref (s.heap.objs.size + 1) :: (vs ++ dvs)) (Value.ref (s.heap.objs.size + 1) :: (us ++ ds)):=.cons rfl (r.append hd)
 have hl:(Value.ref (s.heap.objs.size + 1) :: us ++ ds).length=ps.length:=by
  have e:=r2.length
  rw [F.len _ _ _ _ hq] at e
  exact e.symm
 refine wpAny_call (lp (f:=f) I.kIn M.makes M.init (beq_iff_eq.mp M.fn) (codeAny_mono (F.run _ X.stack _ _ ⟨Value.ref (s.heap.objs.size + 1) :: us,[]⟩ (Value.ref (s.heap.objs.size + 1) :: (us ++ ds)) _ _ E (hr.make C us [])
  (I2.env0.make C us []) (hb _ (Value.ref (s.heap.objs.size + 1) :: us) I2.kIn hl) r2 hq) fun r s' hq'=>?_))
 cases r with
 | error e=>exact hx pins σ _ _ e s' I2 hq'
 | ok fl=>
  cases fl with
  | ret u=>
   obtain ⟨v,H',I3,rv,ev,q3⟩:=I2.after hq'
   subst ev
   exact ⟨rv,⟨V.ref (s.heap.objs.size + 1),H',I3,rfl,q3⟩⟩
  | next=>exact False.elim hq'
  | brk=>exact False.elim hq'
  | cont=>exact False.elim hq'
theorem jb (M:Mk X.K C f) (F:FnOk X.prog X.w X.K X.mg X.base CX k f fd ps sp) (hr:Room (k + 1) X.A) (hg:Gl X x) (hm:X.mg x=some (.ref C)) (hb:Binds X.K fd ps ds) (hd:Vals dvs ds) (hx:vU CX X E)
  (ha:PA X (e :: es) t) (hdb:(x == ("__debug__":Str))=false:=by decide) (he:starEach (e :: es) X.env=(false,eval e X.env) :: starEach es X.env:=by rfl) (hpl:(backTo pos (starEach es X.env)).any (·.1)=false:=by rfl):
  PE X (.Call (.Name x p) (e :: es) [] pos) (fv C sp dvs E t):=by
 intro pins s σ H Q I h
 refine wpAny_Call_Name_kw (xH I hg hm ?_ hdb)
 refine PySem.W.callWith_K (h₀:=X.base) I.ok.mod.kin M.kp (thn (ha pos pins s σ H _ I h) fun us s1 ⟨vs,H1,I1,r,q⟩=>⟨I1.kIn,?_⟩) he hpl
 exact mG M F hr hb hd hx I1 r q
end
section
variable {X:Cx} {CX:CXT} {k:Nat} {f C:Addr} {fd:FuncData} {ps ks:List Str} {sp:Sp} {E:XK} {x m:Str} {p pos apos kpos:Pos} {e o:Expr} {es:List Expr} {kws:List Keyword} {te ta:TE} {t tk:TA} {nm:Option Str}
variable {g:List Value→List Value→List Value} {gV:List V→List V→List V}
end
structure zf (N P:List Str) (sc:Scope):Prop where
 kind:sc.kind=.function
 co:sc.isCoroutine=false
 gen:sc.isGenerator=false
 nd:N.Nodup
 pre:N.take P.length=P
 par:∀ x ∈ P,sc.names.lookup x=some .local∨sc.names.lookup x=some .cell
 nofree:∀ y ∈ sc.names,y.2 ≠ .free
theorem sU {kindOf:Str→Option NameKind} {x:Str}:∀ {binds:List (Str × Value)} {m:Str→Option Value},(∀ v,(x,v) ∉ binds)→bindL kindOf binds m x=m x
 | [],_,_=>rfl
 | (n,v) :: r,m,h=>by
  unfold bindL
  rw [sU fun w hw=>h w (List.mem_cons_of_mem _ hw)]
  split
  ·have:x ≠ n:=by rintro rfl; exact h v List.mem_cons_self
   simp [this]
  ·rfl
theorem sW {kindOf:Str→Option NameKind} {x:Str}:∀ {binds:List (Str × Value)} {m:Str→Option Value},(∀ v,(x,v) ∉ binds)→bindC kindOf binds m x=m x
 | [],_,_=>rfl
 | (n,v) :: r,m,h=>by
  unfold bindC
  rw [sW fun w hw=>h w (List.mem_cons_of_mem _ hw)]
  split
  ·rfl
  ·have:x ≠ n:=by rintro rfl; exact h v List.mem_cons_self
   simp [this]
theorem sV {kindOf:Str→Option NameKind} {x:Str} {v:Value}:∀ {P:List Str} {vs:List Value} {i:Nat} {m:Str→Option Value},P.Nodup→P[i]? = some x→vs[i]? = some v→kindOf x=some .local→
  bindL kindOf (P.zip vs) m x=some v
 | [],_,_,_,_,h,_,_=>by simp at h
 | _ :: _,[],_,_,_,_,h,_=>by simp at h
 | p :: P,w :: vs,0,m,nd,h1,h2,hk=>by
  simp at h1 h2; subst h1; subst h2
  show bindL kindOf ((p,w) :: P.zip vs) m p=_
  unfold bindL
  rw [sU fun v hv=>(List.nodup_cons.mp nd).1 (List.of_mem_zip hv).1,if_pos hk]
  simp
 | p :: P,w :: vs,i + 1,m,nd,h1,h2,hk=>by
  show bindL kindOf ((p,w) :: P.zip vs) m x=_
  unfold bindL
  exact sV (i:=i) (List.nodup_cons.mp nd).2 (by simpa using h1) (by simpa using h2) hk
theorem sX {kindOf:Str→Option NameKind} {x:Str} {v:Value}:∀ {P:List Str} {vs:List Value} {i:Nat} {m:Str→Option Value},P.Nodup→P[i]? = some x→vs[i]? = some v→kindOf x ≠ some .local→
  bindC kindOf (P.zip vs) m x=some v
 | [],_,_,_,_,h,_,_=>by simp at h
 | _ :: _,[],_,_,_,_,h,_=>by simp at h
 | p :: P,w :: vs,0,m,nd,h1,h2,hk=>by
  simp at h1 h2; subst h1; subst h2
  show bindC kindOf ((p,w) :: P.zip vs) m p=_
  unfold bindC
  rw [sW fun v hv=>(List.nodup_cons.mp nd).1 (List.of_mem_zip hv).1,if_neg hk]
  simp
 | p :: P,w :: vs,i + 1,m,nd,h1,h2,hk=>by
  show bindC kindOf ((p,w) :: P.zip vs) m x=_
  unfold bindC
  exact sX (i:=i) (List.nodup_cons.mp nd).2 (by simpa using h1) (by simpa using h2) hk
def start (N:List Str) (vs:List V):St:=vs.map some ++ List.replicate (N.length - vs.length) none
def yu (CX:CXT) (P:Program) (w:World) (K:PySem.W.Frag) (mg:Str→Option Value) (base:Heap) (N:List Str) (qual:Str) (scope:Scope) (f:Addr) (cd:Value) (A:Around) (outer:List Env) (s:Shared) (H:Hp) (E:XK):Cx where
 prog:=P
 w:=w
 K:=K
 mg:=mg
 base:=base
 A:=A.deeper (envOfC qual scope s.heap.objs.size f cd)
 N:=N
 s₀:=s
 H₀:=H
 env:=envOfC qual scope s.heap.objs.size f cd
 outer:=outer
 stack:=envOfC qual scope s.heap.objs.size f cd :: outer
 ex:=[]
 calm:=true
 fn:=fun _=>true
 pn:=[]
 xe:=fun e s'=>wpAny (model P w) (A.deeper (envOfC qual scope s.heap.objs.size f cd)) (leaving (envOfC qual scope s.heap.objs.size f cd) e) (fun _ s''=>CX outer H s E e s'') (fun e' s''=>CX outer H s E e' s'') s'
theorem tI {sc:Scope} {n:Nat} {x:Str} (h:sc.names.lookup x=some .cell):∃ c,(cellsFrom n sc.names []).lookup x=some c:=by
 have q:=PySem.W.cellsFrom_some sc.names n [] (.inl h)
 exact Option.isSome_iff_exists.mp q
theorem nU {CX:CXT} {P:Program} {w:World} {K:PySem.W.Frag} {mg:Str→Option Value} {base:Heap} {N ps:List Str} {qual:Str} {scope:Scope} {f:Addr} {cd:Value} {A:Around} {outer:List Env} {s s1:Shared} {H:Hp} {E:XK} {us:List Value} {vs:List V}
  (S:zf N ps scope) (hd:A.handled=none) (e0:Env0 P w K mg base A outer s H) (hl:vs.length=ps.length) (r:Vals vs us)
  (x:InCallC s s.heap.objs.size (bindL (envOfC qual scope s.heap.objs.size f cd).kindOf (ps.zip us) fun _=>none) (cellsFrom (s.heap.objs.size + 1) scope.names []) (bindC (envOfC qual scope s.heap.objs.size f cd).kindOf (ps.zip us) fun _=>none) s1):
  Inv (yu CX P w K mg base N qual scope f cd A outer s H E) [] (start N vs) H s1:=by
 have hpl:ps.length ≤ N.length:=by have:=congrArg List.length S.pre; rw [List.length_take] at this; omega
 obtain ⟨h1,tk,rfl,hk⟩:=x.done
 have noA:∀ b:Addr,b ∉ (yu CX P w K mg base N qual scope f cd A outer s H E).ex:=fun b z=>absurd (show b ∈ ([]:List Addr) from z) (by simp)
 refine ⟨⟨e0.mod,S.kind,rfl,rfl,Nat.le_refl _,fun y z c h1 h2=>?_,fun y hy=>?_,fun y c _ h=>?_,fun _=>hd,Around.frames_deeper e0.frames,.inr ⟨rfl,rfl⟩,fun b z=>absurd z (noA b),e0.bs,e0.bsz,fun b _ _=>noA b,fun b z=>absurd z (noA b),e0.funs,e0.frf⟩,
  rfl,e0.bare,Un.kept hk,⟨_,x.toInCall.ns,fun i y v h1 h2 h3=>?_⟩,fun y c h=>⟨_,x.cell y c h⟩,e0.hok.fresh (Nat.le_refl _),fun y c h=>?_,fun p hp=>absurd (show p ∈ ([]:List (Addr × Obj)) from hp) (by simp),e0.hok.kept hk,?_⟩
 ·exact name_of_addr x.apart (PySem.mem_of_lookup h1) (PySem.mem_of_lookup h2)
 ·have hy:scope.names.lookup y=some .cell∨scope.names.lookup y=some .free:=hy
  rcases hy with hy | hy
  ·exact tI hy
  ·exact absurd rfl (S.nofree _ (PySem.mem_of_lookup hy))
 ·exact Nat.le_of_lt (x.above y c (PySem.mem_of_lookup h))
 ·have hi:i < vs.length:=by
   unfold start at h2
   by_cases hi:i < vs.length
   ·exact hi
   ·rw [List.getElem?_append_right (by simpa using hi)] at h2
    rw [List.getElem?_replicate] at h2
    split at h2 <;> cases h2
  have ha:vs[i]? = some v:=by
   unfold start at h2
   rw [List.getElem?_append_left (by simpa using hi),List.getElem?_map] at h2
   cases e:vs[i]? with
   | none=>rw [e] at h2; cases h2
   | some a=>rw [e] at h2; cases h2; rfl
  obtain ⟨u,hu,rv⟩:=r.get ha
  have hp:ps[i]? = some y:=by
   rw [← S.pre,List.getElem?_take_of_lt (by omega)]; exact h1
  have ndP:ps.Nodup:=by rw [← S.pre]; exact S.nd.sublist (List.take_sublist _ _)
  refine ⟨u,rv,?_⟩
  rcases S.par y (List.mem_of_getElem? hp) with k | k
  ·exact .inl ⟨k,sV ndP hp hu k⟩
  ·obtain ⟨c,e⟩:=tI (n:=s.heap.objs.size + 1) k
   refine .inr ⟨.inl k,c,e,?_⟩
   have q:=x.cell y c e
   rw [sX ndP hp hu (by show scope.names.lookup y ≠ _; rw [k]; decide)] at q
   exact q
 ·exact e0.hok.fresh (Nat.le_of_lt (x.above y c (PySem.mem_of_lookup h)))
 ·unfold start
  show _=N.length
  rw [List.length_append,List.length_map,List.length_replicate]
  omega
theorem iq {CX:CXT} {P:Program} {w:World} {K:PySem.W.Frag} {mg:Str→Option Value} {base:Heap} {k:Nat} {f:Addr} {name qual:Str} {params:Arguments} {body:List Stmt} {scope:Scope} {dV kV doc pm cdv ct oc:Value} {an od:Option Addr}
  {osl:Array (Option Value)} {N ps:List Str} {sp:Sp} (lk:K.lookup f=some ⟨oc,od,.func (PySem.W.fnOf name qual params body scope dV kV doc pm an cdv ct),osl⟩) (hcd:PySem.W.codeIn K cdv qual=true) (S:zf N ps scope)
  (len:∀ vs H Q E,sp vs H Q E→vs.length=ps.length)
  (hbody:∀ (A:Around) (outer:List Env) (s:Shared) (H:Hp) (vs:List V) (Q:VK) (E:XK),Room k (A.deeper (envOfC qual scope s.heap.objs.size f cdv))→sp vs H Q E→
   ∃ t,PSs (yu CX P w K mg base N qual scope f cdv A outer s H E) body t∧t { nx:=fun _ H'=>Q .non H',rt:=Q } (start N vs) H):
  FnOk P w K mg base CX (k + 1) f (PySem.W.fnOf name qual params body scope dV kV doc pm an cdv ct) ps sp:=by
 refine ⟨len,fun A outer s H args us vs Q E hr e0 hb r hsp=>?_⟩
 have hl:=len _ _ _ _ hsp
 have KX:K.In s.heap:=e0.mod.kin.keeps fun b o e=>(e0.bs b o e).1
 have lim:s.heap.NoLimit:=e0.mod.nolimit.keeps fun b o e=>(e0.bs b o e).1
 have hkind:∀ y ∈ ps.zip us,scope.names.lookup y.1=some .local∨(scope.names.lookup y.1=some .cell∧((cellsFrom (s.heap.objs.size + 1) scope.names []).lookup y.1).isSome=true):=fun ⟨n,v⟩ hy=>by
  rcases S.par n (List.of_mem_zip hy).1 with q | q
  ·exact .inl q
  ·exact .inr ⟨q,PySem.W.cellsFrom_some _ _ _ (.inl q)⟩
 refine codeAny_call_function hr.depth (KX _ _ lk) rfl S.co S.gen rfl (PySem.W.codeRec_of KX hcd) (hb _ _ _ _ ?_)
 refine wpAny_newFunctionEnv_cells S.kind hkind fun env he s1 x=>?_
 subst he
 refine ⟨lim.keeps x.toInCall.keep,codeAny_func ?_⟩
 obtain ⟨t,ht,hq⟩:=hbody A outer s H vs Q E (hr.deeper _) hsp
 have I:Inv (yu CX P w K mg base N qual scope f cdv A outer s H E) [] (start N vs) H s1:=nU S hr.hd e0 hl r x
 refine wpAny_mono (ht [] s1 (start N vs) H _ I hq) (fun fl s' hs=>?_) fun e s' hs=>hs
 have fin:∀ {σ':St} {H':Hp} {v:V} {u:Value},Inv (yu CX P w K mg base N qual scope f cdv A outer s H E) [] σ' H' s'→RelV v u→Q v H'→CE outer P w H s Q u s':=
  fun {σ' H' v u} J rv q=>⟨v,H',J.os,J.bare,J.base,J.hok,rv,q⟩
 cases fl with
 | ret u=>
  obtain ⟨v,σ',H',J,rv,q⟩:=hs
  exact fin J rv q
 | next=>
  obtain ⟨σ',H',J,q⟩:=hs
  exact fin (v:=V.non) (u:=Value.none) J rfl q
 | brk=>
  obtain ⟨_,_,_,q⟩:=hs
  exact False.elim q
 | cont=>
  obtain ⟨_,_,_,q⟩:=hs
  exact False.elim q
end L2
namespace L2
open PySem PySem.Spec PyProof.Rows
section
variable {X:Cx} {x:Str} {p pos:Pos} {e:Expr} {es:List Expr} {t:TA} {id T:String} {r:List V→Hp→VK→Prop}
def tCB (r:List V→Hp→VK→Prop) (t:TA):TE:=fun σ H Q=>t σ H fun vs H1=>r vs H1 Q
theorem xo (hc:CallR X (.builtin id) r) (hg:Gl X x) (hm:X.mg x=none) (hv:bootBuiltins x=some (.builtin id)) (ha:PA X (e :: es) t) (hn:x ≠ "__name__":=by decide) (hdb:(x == ("__debug__":Str))=false:=by decide)
  (he:starEach (e :: es) X.env=(false,eval e X.env) :: starEach es X.env:=by rfl) (hpl:(backTo pos (starEach es X.env)).any (·.1)=false:=by rfl):PE X (.Call (.Name x p) (e :: es) [] pos) (tCB r t):=by
 intro pins s σ H Q I h
 refine wpAny_Call_Name_kw (xl I hg hm hv ?_ hn hdb)
 exact PyProof.Rows.callWith_builtin1 (thn (ha pos pins s σ H _ I h) fun us s1 ⟨vs,H1,I1,r1,q1⟩=>hc pins s1 σ H1 vs us Q I1 r1 q1) he hpl
theorem nL (hc:CallR X (.type T) r) (hg:Gl X x) (hm:X.mg x=none) (hv:bootBuiltins x=some (.type T)) (ha:PA X (e :: es) t) (hn:x ≠ "__name__":=by decide) (hdb:(x == ("__debug__":Str))=false:=by decide)
  (he:starEach (e :: es) X.env=(false,eval e X.env) :: starEach es X.env:=by rfl) (hpl:(backTo pos (starEach es X.env)).any (·.1)=false:=by rfl):PE X (.Call (.Name x p) (e :: es) [] pos) (tCB r t):=by
 intro pins s σ H Q I h
 refine wpAny_Call_Name_kw (xl I hg hm hv ?_ hn hdb)
 exact PyProof.Rows.callWith_type1 (thn (ha pos pins s σ H _ I h) fun us s1 ⟨vs,H1,I1,r1,q1⟩=>hc pins s1 σ H1 vs us Q I1 r1 q1) he hpl
end
end L2
namespace HT
open PySem PyProof.Rows
section
open PySem.SeqAt
open PySem.AutoSeq1 (wpAny_loadPart')
open PySem.MeetsSeq PySem.MeetsSeq2 PySem.MeetsSeq3
end
section
variable {prog:Program} {w:World} {A:Around} {E:Value→Shared→Prop} {s:Shared}
def sIx (n d:Nat):Option Int→Nat
 | none=>d
 | some v=>if v < 0 then (v + (n:Int)).toNat else min v.toNat n
theorem sIx_none (n d:Nat):sIx n d none=d:=rfl
theorem sIx_nat (n d k:Nat):sIx n d (some (k:Int))=min k n:=by
 show (if (k:Int) < 0 then ((k:Int) + (n:Int)).toNat else min (k:Int).toNat n)=min k n
 rw [if_neg (by omega),Int.toNat_natCast]
end
end HT
namespace L2
open PySem PySem.Spec PyProof.Rows
abbrev TO:=St→Hp→(Option Int→Hp→Prop)→Prop
def PO (X:Cx) (e:Option Expr) (t:TO):Prop:=
 ∀ (pins:List (Addr × Obj)) (s:Shared) (σ:St) (H:Hp) (Q:Option Int→Hp→Prop),Inv X pins σ H s→t σ H Q→
  wpAny (model X.prog X.w) X.A (evalPart e X.env) (fun u s'=>∃ o H',Inv X pins σ H' s'∧IsPart u o∧Q o H') X.xe s
def kJ:TO:=fun _ H Q=>Q none H
def fo (t:TE):TO:=fun σ H Q=>t σ H fun x H1=>∃ i,x=.int i∧Q (some i) H1
section
variable {X:Cx} {e:Expr} {te:TE} {lo hi:Option Expr} {tl th:TO} {pos p2:Pos}
theorem kZ:PO X none kJ:=by
 intro pins s σ H Q I h
 rw [evalPart_none]
 exact wpAny_pure ⟨none,H,I,.none,h⟩
theorem kY (h:PE X e te):PO X (some e) (fo te):=by
 intro pins s σ H Q I hw
 rw [evalPart_some]
 refine thn (h pins s σ H _ I hw) fun u s1 ⟨x,H1,I1,r1,q1⟩=>?_
 obtain ⟨i,rfl,q⟩:=q1
 obtain ⟨t,rfl⟩:=r1
 exact ⟨some i,H1,I1,.int i t,q⟩
def SlR (X:Cx) (r:V→Option Int→Option Int→Hp→VK→Prop):Prop:=
 ∀ (pins:List (Addr × Obj)) (s:Shared) (σ:St) (H:Hp) (x:V) (v vl vu:Value) (lo hi:Option Int) (sl:Addr) (Q:VK),Inv X pins σ H s→RelV x v→s.heap.IsSliceOf sl vl vu .none→IsPart vl lo→IsPart vu hi→r x lo hi H Q→
  ∃ T id,typeLookup (.type T) "__getitem__"=pure (some (.builtin id))∧s.TypeIs v T∧wpAny (model X.prog X.w) X.A (getItem v (.ref sl)) (EP X pins σ Q) X.xe s
theorem SlR.or {r r':V→Option Int→Option Int→Hp→VK→Prop} (h:SlR X r) (h':SlR X r'):SlR X (fun x lo hi H Q=>r x lo hi H Q∨r' x lo hi H Q):=by
 intro pins s σ H x v vl vu lo hi sl Q I rx hs pl pu q
 rcases q with q | q
 ·exact h pins s σ H x v vl vu lo hi sl Q I rx hs pl pu q
 ·exact h' pins s σ H x v vl vu lo hi sl Q I rx hs pl pu q
def tSl (r:V→Option Int→Option Int→Hp→VK→Prop) (te:TE) (tl th:TO):TE:=fun σ H Q=>te σ H fun x H1=>tl σ H1 fun l H2=>th σ H2 fun u H3=>r x l u H3 Q
theorem mV {r:V→Option Int→Option Int→Hp→VK→Prop} (hr:SlR X r) (he:PE X e te) (hl:PO X lo tl) (hu:PO X hi th):PE X (.Subscript e (.Slice lo hi none p2) pos) (tSl r te tl th):=by
 intro pins s σ H Q I h
 refine Subscript_ (thn (he pins s σ H _ I h) fun v s1 ⟨x,H1,I1,r1,q1⟩=>?_)
 refine wpAny_Slice (thn (hl pins s1 σ H1 _ I1 q1) fun vl s2 ⟨l,H2,I2,pl,q2⟩=>thn (hu pins s2 σ H2 _ I2 q2) fun vu s3 ⟨u,H3,I3,pu,q3⟩=>?_)
 rw [evalPart_none]
 refine wpAny_pure ?_
 have I4:Inv X pins σ H3 { s3 with heap:=s3.heap.push { cls:=.type "slice",data:=.fields #[vl,vu,.none] } }:=I3.kept (t':=s3.toks) fun b ob q=>Heap.get?_push_of_some _ q
 obtain ⟨T,id,hT,ht,hg⟩:=hr pins { s3 with heap:=s3.heap.push { cls:=.type "slice",data:=.fields #[vl,vu,.none] } } σ H3 x v vl vu l u s3.heap.objs.size Q I4 r1 (Heap.IsSliceOf.new ..) pl pu q3
 show wpAny (model X.prog X.w) X.A (subscriptTail e (.Slice lo hi none p2) v (.ref s3.heap.objs.size)) (EP X pins σ Q) X.xe { s3 with heap:=s3.heap.push { cls:=.type "slice",data:=.fields #[vl,vu,.none] } }
 exact tail_any (ops:=[.ref s3.heap.objs.size,v]) ht hT hg (by with_unfolding_all rfl)
def ot (xs:List V) (lo hi:Option Int):List V:=(xs.drop (HT.sIx xs.length 0 lo)).take (HT.sIx xs.length xs.length hi - HT.sIx xs.length 0 lo)
theorem qT (xs:List V) (lo hi:Option Int):(ot xs lo hi).length ≤ xs.length:=by
 unfold ot
 rw [List.length_take,List.length_drop]
 omega
end
end L2
namespace L2
open PySem PySem.Spec PyProof.Rows
def ixN (n:Nat) (i:Int):Option Nat:=if 0 ≤ i then (if i < n then some i.toNat else none) else if -(n:Int) ≤ i then some (i + n).toNat else none
def atI {α:Type} (xs:List α) (i:Int):Option α:=(ixN xs.length i).bind fun j=>xs[j]?
theorem oN {n:Nat} {i:Int} {j:Nat} (h:ixN n i=some j):seqIndex? i n=some j∧j < n∧-(n:Int) ≤ i∧i < n:=by
 unfold ixN at h
 by_cases h0:0 ≤ i
 ·rw [if_pos h0] at h
  by_cases h1:i < n
  ·rw [if_pos h1] at h
   have e:i.toNat=j:=Option.some.inj h
   exact ⟨by rw [seqIndex_of h0 h1,e],by omega,by omega,h1⟩
  ·rw [if_neg h1] at h; cases h
 ·rw [if_neg h0] at h
  by_cases h1:-(n:Int) ≤ i
  ·rw [if_pos h1] at h
   have e:(i + n).toNat=j:=Option.some.inj h
   exact ⟨by rw [seqIndex_neg (by omega) h1,e],by omega,h1,by omega⟩
  ·rw [if_neg h1] at h; cases h
theorem rV {α:Type} {xs:List α} {i:Int} {v:α} (h:atI xs i=some v):∃ j,seqIndex? i xs.length=some j∧xs[j]? = some v∧j < xs.length∧-(xs.length:Int) ≤ i∧i < xs.length:=by
 unfold atI at h
 cases e:ixN xs.length i with
 | none=>rw [e] at h; cases h
 | some j=>
  rw [e] at h
  obtain ⟨h1,h2,h3,h4⟩:=oN e
  exact ⟨j,h1,h,h2,h3,h4⟩
theorem rT {α:Type} {xs:List α} {j:Nat} {v:α} (h:xs[j]? = some v):atI xs (j:Int)=some v:=by
 have hj:j < xs.length:=(List.getElem?_eq_some_iff.mp h).1
 have e:ixN xs.length (j:Int)=some j:=by
  unfold ixN
  rw [if_pos (by omega),if_pos (by omega)]; simp
 unfold atI; rw [e]; exact h
theorem wk {α:Type} (xs:List α) (v:α):atI (xs ++ [v]) (-1)=some v:=by
 have hl:(xs ++ [v]).length=xs.length + 1:=by simp
 have e:ixN (xs ++ [v]).length (-1)=some xs.length:=by
  unfold ixN
  rw [hl,if_neg (by decide),if_pos (by omega)]
  congr 1
  omega
 unfold atI
 rw [e]
 show (xs ++ [v])[xs.length]? = some v
 simp
def qa (b:Expr):Prop:=∀ o i,subscripted b false o i=operate [o,i] (getItem o i)
def IxR (X:Cx) (r:R2):Prop:=
 ∀ (value slice:Expr) (pins:List (Addr × Obj)) (s:Shared) (σ:St) (H:Hp) (x y:V) (v u:Value) (Q:VK),Inv X pins σ H s→RelV x v→RelV y u→r x y H Q→
  subscripted slice false v u=operate [v,u] (getItem v u)→wpAny (model X.prog X.w) X.A (subscriptTail value slice v u) (EP X pins σ Q) X.xe s
def MtR (X:Cx) (id:String) (r:V→List V→Hp→VK→Prop):Prop:=
 ∀ (pins:List (Addr × Obj)) (s:Shared) (σ:St) (H:Hp) (x:V) (xs:List V) (v:Value) (us:List Value) (Q:VK),Inv X pins σ H s→RelV x v→Vals xs us→r x xs H Q→
  wpAny (model X.prog X.w) X.A (call (.builtin id) (v :: us)) (EP X pins σ Q) X.xe s
section
variable {X:Cx} {a b:Expr} {ta tb:TE} {pos:Pos}
theorem IxR.or {r r':R2} (h:IxR X r) (h':IxR X r'):IxR X (fun x y H Q=>r x y H Q∨r' x y H Q):=by
 intro value slice pins s σ H x y v u Q I rx ry q hs
 rcases q with q | q
 ·exact h value slice pins s σ H x y v u Q I rx ry q hs
 ·exact h' value slice pins s σ H x y v u Q I rx ry q hs
theorem MtR.or {id:String} {r r':V→List V→Hp→VK→Prop} (h:MtR X id r) (h':MtR X id r'):MtR X id (fun x xs H Q=>r x xs H Q∨r' x xs H Q):=by
 intro pins s σ H x xs v us Q I rx rs q
 rcases q with q | q
 ·exact h pins s σ H x xs v us Q I rx rs q
 ·exact h' pins s σ H x xs v us Q I rx rs q
theorem j9 {r:R2} (hr:IxR X r) (ha:PE X a ta) (hb:PE X b tb) (hs:qa b):PE X (.Subscript a b pos) (tOp r ta tb):=by
 intro pins s σ H Q I h
 exact Subscript_ (g7 ha hb I h fun v u s2 x y H2 I2 rx ry q=>hr a b pins s2 σ H2 x y v u Q I2 rx ry q (hs _ _))
def fK (K:PySem.W.Frag):R2:=fun x y H Q=>∃ p xs i v,x=.ref p∧y=.int i∧SqL K H p xs∧atI xs i=some v∧Q v H
def fI (K:PySem.W.Frag):R2:=fun x y H Q=>∃ p xs i v,x=.ref p∧y=.int i∧SqT K H p xs∧atI xs i=some v∧Q v H
def fJ:R2:=fun x y H Q=>∃ z i c,x=.str z∧y=.int i∧z.length ≤ sizeLine∧atI z.cps.toList i=some c∧Q (.str ⟨#[c]⟩) H
theorem ix_list:IxR X (fK X.K):=by
 intro value slice pins s σ H x y v u Q I rx ry h hs
 obtain ⟨p,xs,i,z,rfl,rfl,hq,he,q⟩:=h
 cases rx
 obtain ⟨t,rfl⟩:=ry
 obtain ⟨its,r,pl,hz⟩:=I.list hq
 obtain ⟨j,h1,h2,h3,h4,h5⟩:=rV he
 obtain ⟨w,ew,rw'⟩:=r.get h2
 have hl:=r.length
 have hn:=vJ
 have fin:EP X pins σ Q w s:=⟨z,H,I,rw',q⟩
 by_cases h0:0 ≤ i
 ·have hj:i.toNat=j:=by
   rw [seqIndex_of h0 h5] at h1
   exact Option.some.inj h1
  exact item_listR pl.isList h0 (by omega) (by rw [hj]; simpa using ew) fin hs
 ·have hj:(i + (its.toArray.size:Int)).toNat=j:=by
   rw [seqIndex_neg (by omega) h4] at h1
   rw [List.size_toArray,← hl]
   exact Option.some.inj h1
  exact subscriptTail_builtinR (x:=w) pl.isList.typeIs slot_list_getitem.lookup
   (wpAny_getItem_list_neg (Q:=fun r s'=>r=w∧EP X pins σ Q r s') pl.isList (by omega) (by rw [List.size_toArray] <;> omega) (by omega) (by rw [hj]; simpa using ew) ⟨rfl,fin⟩) hs
theorem ix_tup:IxR X (fI X.K):=by
 intro value slice pins s σ H x y v u Q I rx ry h hs
 obtain ⟨p,xs,i,z,rfl,rfl,hq,he,q⟩:=h
 cases rx
 obtain ⟨t,rfl⟩:=ry
 obtain ⟨its,r,pl,hz⟩:=I.tuple hq
 obtain ⟨j,h1,h2,h3,h4,h5⟩:=rV he
 obtain ⟨w,ew,rw'⟩:=r.get h2
 have hl:=r.length
 have hn:=vJ
 have fin:EP X pins σ Q w s:=⟨z,H,I,rw',q⟩
 exact subscriptTail_builtinR (x:=w) pl.typeIs slot_tuple_getitem.lookup
  (getItem_tuple (j:=j) (Q:=fun r s'=>r=w∧EP X pins σ Q r s') pl (by omega) (by omega) (by rw [List.size_toArray,← hl]; exact h1) (by simpa using ew) ⟨rfl,fin⟩) hs
theorem gB:IxR X fJ:=by
 intro value slice pins s σ H x y v u Q I rx ry h hs
 obtain ⟨z,i,c,rfl,rfl,hz,he,q⟩:=h
 obtain ⟨t,rfl⟩:=rx
 obtain ⟨t',rfl⟩:=ry
 obtain ⟨j,h1,h2,h3,h4,h5⟩:=rV he
 have hl:z.cps.toList.length=z.length:=by simp [Str.length]
 rw [hl] at h1 h4 h5
 have hn:=vJ
 exact tail_any (typeIs_str s z t) slot_str_getitem.lookup (getItem_str (c:=c) (by
  have e1:decide (i < -(2 ^ 63:Int))=false:=decide_eq_false (by omega)
  have e2:decide (i ≥ 2 ^ 63)=false:=decide_eq_false (by omega)
  rw [e1,e2,Bool.or_false]) (by rw [h1]; simpa using h2) ⟨.str ⟨#[c]⟩,H,I.tok _,⟨_,rfl⟩,q⟩) hs
def rIx (K:PySem.W.Frag):R2:=fun x y H Q=>fK K x y H Q∨fI K x y H Q∨fJ x y H Q
theorem gC:IxR X (rIx X.K):=ix_list.or (ix_tup.or gB)
theorem pW (its:List Value) (n j:Nat) (u:Value):Obj.mapSeq (·.setIfInBounds j u) { cls:=.type "list",data:=.seq its.toArray n }={ cls:=.type "list",data:=.seq (its.set j u).toArray n }:=by
 simp [Obj.mapSeq]
theorem Inv.lst {pins:List (Addr × Obj)} {σ:St} {H:Hp} {s:Shared} {p:Addr} {xs:List V} (I:Inv X pins σ H s) (h:H p=some (.lst xs)):
  ∃ (its:List Value) (n:Nat),Vals xs its∧s.heap.get? p=some { cls:=.type "list",data:=.seq its.toArray n }∧xs.length ≤ sizeLine:=by
 obtain ⟨z,its,n,r,e⟩:=I.hok p _ h
 exact ⟨its,n,r,e,z⟩
theorem Inv.lstUpd {pins:List (Addr × Obj)} {σ:St} {H:Hp} {s:Shared} {p:Addr} {xs ys:List V} {its its':List Value} {n n':Nat} {f:Obj→Obj} (I:Inv X pins σ H s) (h:H p=some (.lst xs))
  (ho:s.heap.get? p=some { cls:=.type "list",data:=.seq its.toArray n }) (hf:f { cls:=.type "list",data:=.seq its.toArray n }={ cls:=.type "list",data:=.seq its'.toArray n' }) (r:Vals ys its') (hz:ys.length ≤ sizeLine) (t:Nat):
  Inv X pins σ (upd H p (.lst ys)) { s with heap:=s.heap.update p f,toks:=t }:=by
 have e:(s.heap.update p f).get? p=some { cls:=.type "list",data:=.seq its'.toArray n' }:=by
  rw [Heap.get?_update_self f ho (by rw [hf] <;> rfl),hf]
 refine I.write (x:=p) (e:=p) (by rw [h]; trivial) (.inl rfl) (fun b u hb q=>(Heap.get?_update_other _ _ (Ne.symm hb)).trans q) ⟨_,e⟩ ?_
 exact ⟨hz,its',n',r,e⟩
def fH:V→V→V→Hp→(Hp→Prop)→Prop:=fun o i v H Q=>∃ p xs k j,o=.ref p∧i=.int k∧H p=some (.lst xs)∧ixN xs.length k=some j∧Q (upd H p (.lst (xs.set j v)))
theorem mB:dQ X fH:=by
 intro pins s σ H o i v ov iv u Q I ro ri rv h
 obtain ⟨p,xs,k,j,rfl,rfl,hp,hj,q⟩:=h
 cases ro
 obtain ⟨t,rfl⟩:=ri
 obtain ⟨its,n,r,ho,hz⟩:=I.lst hp
 obtain ⟨h1,h2,h3,h4⟩:=oN hj
 have hl:=r.length
 have hn:=vJ
 have I':Inv X pins σ (upd H p (.lst (xs.set j v))) { s with heap:=s.heap.update p (Obj.mapSeq (·.setIfInBounds j u)) }:=
  I.lstUpd hp ho (pW its n j u) (r.set rv j) (by rw [List.length_set]; exact hz) s.toks
 by_cases h0:0 ≤ k
 ·have hk:k.toNat=j:=by
   rw [seqIndex_of h0 h4] at h1
   exact Option.some.inj h1
  exact PySem.W.ki_setAt ho h0 (by omega) (by rw [List.size_toArray,← hl]; exact h4) (by rw [hk]; exact ⟨_,I',q⟩)
 ·have hk:(k + (its.toArray.size:Int)).toNat=j:=by
   rw [seqIndex_neg (by omega) h3] at h1
   rw [List.size_toArray,← hl]
   exact Option.some.inj h1
  exact PySem.W.ki_setBack ho (by omega) (by rw [List.size_toArray,← hl]; exact h3) (by omega) (by rw [hk]; exact ⟨_,I',q⟩)
theorem ra (lo hi:Option Int) (n:Nat):(sliceBounds lo hi none n).1=((HT.sIx n 0 lo:Nat):Int)∧(sliceBounds lo hi none n).2.1=((HT.sIx n n hi:Nat):Int)∧(sliceBounds lo hi none n).2.2=1:=by
 refine ⟨?_,?_,rfl⟩
 ·cases lo with
  | none=>simp [sliceBounds,HT.sIx]
  | some i=>
   simp only [sliceBounds,HT.sIx,Option.getD_none,show (1:Int) > 0 by decide,if_true]
   by_cases h:i < 0
   ·simp only [h,if_true] <;> omega
   ·simp only [h,if_false] <;> omega
 ·cases hi with
  | none=>simp [sliceBounds,HT.sIx]
  | some i=>
   simp only [sliceBounds,HT.sIx,Option.getD_none,show (1:Int) > 0 by decide,if_true]
   by_cases h:i < 0
   ·simp only [h,if_true] <;> omega
   ·simp only [h,if_false] <;> omega
theorem tN (its:List Value) (lo hi:Option Int):slicePick its.toArray lo hi none=((its.drop (HT.sIx its.length 0 lo)).take (HT.sIx its.length its.length hi - HT.sIx its.length 0 lo)).toArray:=by
 obtain ⟨h1,h2,h3⟩:=ra lo hi its.toArray.size
 unfold slicePick
 rw [h1,h2,h3]
 simp only [sliceRange_one,pick_run,List.size_toArray] <;> rfl
def cc (K:PySem.W.Frag):V→Option Int→Option Int→Hp→VK→Prop:=fun x lo hi H Q=>∃ a xs,x=.ref a∧SqL K H a xs∧∀ p,H p=none→Q (.ref p) (upd H p (.lst (ot xs lo hi)))
theorem kK:SlR X (cc X.K):=by
 intro pins s σ H x v vl vu lo hi sl Q I rx hs pl pu h
 obtain ⟨a,xs,rfl,hx,q⟩:=h
 cases rx
 obtain ⟨its,r,ht,hz⟩:=I.list hx
 have hlen:=r.length
 refine ⟨"list",_,slot_list_getitem.lookup,ht.isList.typeIs,?_⟩
 refine wpAny_getItem_list_slice ht.isList hs pl pu .none (by simp) ?_ (by rw [List.size_toArray] <;> omega)
 rw [tN,← hlen]
 refine ⟨.ref s.heap.objs.size,_,I.laid (t':=s.toks) (o:=.lst (ot xs lo hi)) (fun b ob q=>Heap.get?_push_of_some _ q) (Nat.le_refl _) ?_,rfl,q _ (I.hok.fresh (Nat.le_refl _))⟩
 exact ⟨Nat.le_trans (qT xs lo hi) hz,_,0,(r.drop (HT.sIx xs.length 0 lo)).take (HT.sIx xs.length xs.length hi - HT.sIx xs.length 0 lo),Heap.get?_push_size _ rfl⟩
def x9:V→Bool
 | .non=>true
 | .bl _=>true
 | .int _=>true
 | .str _=>true
 | _=>false
def eqV:V→V→Bool
 | .non,.non=>true
 | .bl a,.bl b=>a == b
 | .bl a,.int b=>(if a then 1 else 0) == b
 | .int a,.bl b=>a == (if b then 1 else 0)
 | .int a,.int b=>a == b
 | .str a,.str b=>a == b
 | _,_=>false
theorem og {A:Around} {s:Shared} {y x:V} {u v:Value} (ry:RelV y u) (rx:RelV x v) (fy:x9 y=true) (fx:x9 x=true):SeqAt.EqAt A s u v (eqV y x):=by
 cases y with
 | non=>
  cases ry
  cases x with
  | non=>cases rx; exact SeqAt.EqAt.same _
  | bl b=>cases rx; exact SeqAt.EqAt.none_bool b
  | int b=>obtain ⟨t,rfl⟩:=rx; exact SeqAt.EqAt.none_int b t
  | str b=>obtain ⟨t,rfl⟩:=rx; exact SeqAt.EqAt.none_str b t
  | _=>exact absurd (show false=true from fx) Bool.false_ne_true
 | bl a=>
  cases ry
  cases x with
  | non=>cases rx; exact SeqAt.EqAt.bool_none a
  | bl b=>cases rx; exact SeqAt.EqAt.bool_bool a b
  | int b=>obtain ⟨t,rfl⟩:=rx; exact SeqAt.EqAt.bool_int a b t
  | str b=>obtain ⟨t,rfl⟩:=rx; exact SeqAt.EqAt.bool_str a b t
  | _=>exact absurd (show false=true from fx) Bool.false_ne_true
 | int a=>
  obtain ⟨t',rfl⟩:=ry
  cases x with
  | non=>cases rx; exact SeqAt.EqAt.int_none a t'
  | bl b=>cases rx; exact SeqAt.EqAt.int_bool a t' b
  | int b=>obtain ⟨t,rfl⟩:=rx; exact SeqAt.EqAt.int_int a t' b t
  | str b=>obtain ⟨t,rfl⟩:=rx; exact SeqAt.EqAt.int_str a t' b t
  | _=>exact absurd (show false=true from fx) Bool.false_ne_true
 | str a=>
  obtain ⟨t',rfl⟩:=ry
  cases x with
  | non=>cases rx; exact SeqAt.EqAt.str_none a t'
  | bl b=>cases rx; exact SeqAt.EqAt.str_bool a t' b
  | int b=>obtain ⟨t,rfl⟩:=rx; exact SeqAt.EqAt.str_int a t' b t
  | str b=>obtain ⟨t,rfl⟩:=rx; exact SeqAt.EqAt.str_str a t' b t
  | _=>exact absurd (show false=true from fx) Bool.false_ne_true
 | _=>exact absurd (show false=true from fy) Bool.false_ne_true
def eqU (x:V) (u:Value):Bool:=match u with
 | .none=>eqV .non x
 | .bool b=>eqV (.bl b) x
 | .int i _=>eqV (.int i) x
 | .str z _=>eqV (.str z) x
 | _=>false
theorem lK {x y:V} {u:Value} (r:RelV y u) (f:x9 y=true):eqU x u=eqV y x:=by
 cases y with
 | non=>cases r; rfl
 | bl b=>cases r; rfl
 | int i=>obtain ⟨t,rfl⟩:=r; rfl
 | str z=>obtain ⟨t,rfl⟩:=r; rfl
 | _=>exact absurd (show false=true from f) Bool.false_ne_true
theorem rW {x:V}:∀ {xs:List V} {us:List Value},Vals xs us→xs.all x9=true→us.any (eqU x)=xs.any fun y=>eqV y x
 | _,_,.nil,_=>rfl
 | y :: xs,u :: us,.cons r t,f=>by
  rw [List.all_cons,Bool.and_eq_true] at f
  rw [List.any_cons,List.any_cons,lK r f.1,rW t f.2]
theorem u9 {A:Around} {s:Shared} {x:V} {v:Value} (rx:RelV x v) (fx:x9 x=true):∀ {xs:List V} {us:List Value},Vals xs us→xs.all x9=true→∀ u ∈ us,SeqAt.EqAt A s u v (eqU x u)
 | _,_,.nil,_=>fun u hu=>by cases hu
 | y :: xs,u :: us,.cons r t,f=>fun u' hu=>by
  rw [List.all_cons,Bool.and_eq_true] at f
  rcases List.mem_cons.mp hu with rfl | hu
  ·rw [lK r f.1]; exact og r rx f.1 fx
  ·exact u9 rx fx t f.2 u' hu
def inV (x:V) (xs:List V):Bool:=xs.any fun y=>eqV y x
def rIn (K:PySem.W.Frag) (neg:Bool):R2:=fun x y H Q=>∃ p xs,y=.ref p∧(SqL K H p xs∨SqT K H p xs)∧x9 x=true∧xs.all x9=true∧Q (.bl (if neg then !inV x xs else inV x xs)) H
theorem nM:OpR X (compareOp .In) (rIn X.K false):=by
 intro pins s σ H x y v u Q I rx ry h
 obtain ⟨p,xs,rfl,hq,fx,fs,q⟩:=h
 cases ry
 rcases hq with hq | hq
 ·obtain ⟨its,r,pl,hz⟩:=I.list hq
  refine SeqAt.in_listAt (eqU x) pl.isList (fun w hw=>u9 rx fx r fs w (by simpa using hw)) ⟨.bl _,H,I,rfl,?_⟩
  rw [show its.toArray.any (eqU x)=its.any (eqU x) by simp,rW r fs]
  exact q
 ·obtain ⟨its,r,pl,hz⟩:=I.tuple hq
  refine SeqAt.in_tupleAt (eqU x) pl (fun w hw=>u9 rx fx r fs w (by simpa using hw)) ⟨.bl _,H,I,rfl,?_⟩
  rw [show its.toArray.any (eqU x)=its.any (eqU x) by simp,rW r fs]
  exact q
theorem vi:CallR X (.builtin "len") (fun xs H Q=>∃ p ys,xs=[.ref p]∧(SqL X.K H p ys∨SqT X.K H p ys)∧Q (.int ys.length) H):=by
 intro pins s σ H xs us Q I r h
 obtain ⟨p,ys,rfl,hq,q⟩:=h
 obtain ⟨u,rfl,rx⟩:=j0 r
 cases rx
 have hn:=vJ
 rcases hq with hq | hq
 ·obtain ⟨its,r',pl,hz⟩:=I.list hq
  have hlen:=r'.length
  exact Calls.call_len_list pl.isList (by simp only [List.size_toArray] <;> omega) ⟨.int ys.length,H,I.tok _,⟨s.toks + 1,by rw [List.size_toArray,hlen]⟩,q⟩
 ·obtain ⟨its,r',pl,hz⟩:=I.tuple hq
  have hlen:=r'.length
  exact len_tuple pl (by simp only [List.size_toArray] <;> omega) ⟨.int ys.length,H,I.tok _,⟨s.toks + 1,by rw [List.size_toArray,hlen]⟩,q⟩
theorem CallR.or {f:Value} {r r':List V→Hp→VK→Prop} (h:CallR X f r) (h':CallR X f r'):CallR X f (fun xs H Q=>r xs H Q∨r' xs H Q):=by
 intro pins s σ H xs us Q I rs q
 rcases q with q | q
 ·exact h pins s σ H xs us Q I rs q
 ·exact h' pins s σ H xs us Q I rs q
theorem rR:CallR X (.type "list") (fun xs H Q=>∃ p ys,xs=[.ref p]∧(SqL X.K H p ys∨SqT X.K H p ys)∧∀ l,H l=none→Q (.ref l) (upd H l (.lst ys))):=by
 intro pins s σ H xs us Q I r h
 obtain ⟨p,ys,rfl,hq,q⟩:=h
 obtain ⟨u,rfl,rx⟩:=j0 r
 cases rx
 have fin:∀ (its:List Value),Vals ys its→ys.length ≤ sizeLine→∀ (h':Heap) (c':Nat),(∀ b o',s.heap.get? b=some o'→h'.get? b=some o')→
   h'.get? s.heap.objs.size=some { cls:=.type "list",dict:=none,data:=.seq its.toArray c',slots:=#[] }→EP X pins σ Q (.ref s.heap.objs.size) { s with heap:=h' }:=fun its r' hz h' c' kp e=>
  ⟨.ref s.heap.objs.size,_,I.laid (t':=s.toks) kp (Nat.le_refl _) (show ObjOk X.prog X.w _ h' _ (.lst ys) from ⟨hz,its,c',r',e⟩),rfl,q _ (I.hok.fresh (Nat.le_refl _))⟩
 rcases hq with hq | hq
 ·obtain ⟨its,r',pl,hz⟩:=I.list hq
  have hlen:=r'.length
  obtain ⟨o,ho,hc,n,hd⟩:=pl.isList
  exact call_list_seq p (.inl rfl) ho hc hd (fun h' c' kp e=>fin its r' hz h' c' kp e) (by simp only [List.size_toArray] <;> omega)
 ·obtain ⟨its,r',pl,hz⟩:=I.tuple hq
  have hlen:=r'.length
  obtain ⟨o,ho,hc,n,hd⟩:=pl
  exact call_list_seq p (.inr rfl) ho hc hd (fun h' c' kp e=>fin its r' hz h' c' kp e) (by simp only [List.size_toArray] <;> omega)
def tyV (K:PySem.W.Frag) (T:String) (x:V) (H:Hp):Prop:=match x with
 | .str _=>T="str"
 | .int _=>T="int"
 | .ref p=>(T="list"∧∃ xs,SqL K H p xs)∨(T="tuple"∧∃ o,K.lookup p=some o∧o.cls=.type "tuple"∧o.dict=none)∨
   (T="dict"∧((∃ kvs,H p=some (.dK kvs))∨∃ kvs,H p=some (.dT kvs)))∨(T="set"∧∃ S n,H p=some (.set S n))
 | _=>False
theorem mo {pins:List (Addr × Obj)} {σ:St} {H:Hp} {s:Shared} {T:String} {x:V} {v:Value} (I:Inv X pins σ H s) (r:RelV x v) (ty:tyV X.K T x H):
  s.TypeIs v T∧∀ a,v=.ref a→∃ ob,s.heap.get? a=some ob∧ob.dict=none:=by
 cases x with
 | str z=>
  obtain ⟨t,rfl⟩:=r
  cases (show T="str" from ty)
  exact ⟨typeIs_str s z t,fun _ e=>nomatch e⟩
 | int i=>
  obtain ⟨t,rfl⟩:=r
  cases (show T="int" from ty)
  exact ⟨typeIs_int s i t,fun _ e=>nomatch e⟩
 | ref p=>
  cases r
  rcases ty with ⟨rfl,xs,hq⟩ | ⟨rfl,o,hk,hc,hd⟩ | ⟨rfl,hk⟩ | ⟨rfl,S,n,hk⟩
  ·obtain ⟨its,_,pl,_⟩:=I.list hq
   refine ⟨pl.isList.typeIs,fun a e=>?_⟩
   cases e
   obtain ⟨o,n,e,c,hd,_⟩:=pl
   exact ⟨o,e,hd⟩
  ·refine ⟨⟨o,I.kIn p o hk,hc⟩,fun a e=>?_⟩
   cases e
   exact ⟨o,I.kIn _ o hk,hd⟩
  ·have z:∃ o,s.heap.get? p=some o∧o.ExactDict:=by
    rcases hk with ⟨kvs,hk⟩ | ⟨kvs,hk⟩
    ·obtain ⟨_,_,_,_,o,_,_,e,ex,_⟩:=I.hok p _ hk
     exact ⟨o,e,ex⟩
    ·obtain ⟨_,_,_,_,o,_,_,e,ex,_⟩:=I.hok p _ hk
     exact ⟨o,e,ex⟩
   obtain ⟨o,e,ex⟩:=z
   refine ⟨⟨o,e,ex.1⟩,fun a e2=>?_⟩
   cases e2
   exact ⟨o,e,ex.2.1⟩
  ·obtain ⟨o,_,_,_,e,ex,_⟩:=I.hok p _ hk
   refine ⟨⟨o,e,ex.1⟩,fun a e2=>?_⟩
   cases e2
   exact ⟨o,e,ex.2.1⟩
 | _=>exact False.elim ty
def d8 (K:PySem.W.Frag) (T:String) (r:V→List V→Hp→VK→Prop) (to:TE):TE:=fun σ H Q=>to σ H fun x H1=>tyV K T x H1∧r x [] H1 Q
def tBM (K:PySem.W.Frag) (T:String) (r:V→List V→Hp→VK→Prop) (to:TE) (t:TA):TE:=fun σ H Q=>to σ H fun x H1=>tyV K T x H1∧t σ H1 fun xs H2=>r x xs H2 Q
variable {o e:Expr} {es:List Expr} {to:TE} {t:TA} {name:Str} {apos cpos:Pos} {T id:String} {r:V→List V→Hp→VK→Prop}
theorem pM (pa:PlainAttrs T) (slot:Slot T name id) (hty:typeOf (.builtin id)=pure (.type "method_descriptor")) (hm:MtR X id r) (ho:PE X o to)
  (hbase:attributeBase o name X.env (eval o X.env)=eval o X.env:=by rfl) (hline:(apos.endLine == cpos.line)=true:=by rfl):PE X (.Call (.Attribute o name apos) [] [] cpos) (d8 X.K T r to):=by
 intro pins s σ H Q I h
 refine wpAny_Call_method0_late hbase hline (thn (ho pins s σ H _ I h) fun v s1 ⟨x,H1,I1,r1,ty,q1⟩=>?_)
 obtain ⟨h1,h2⟩:=mo I1 r1 ty
 exact ⟨T,id,pa,slot,hty,h1,h2,Calls.callWith_builtin rfl (PySem.evalArgs_none (hm pins s1 σ H1 x [] v [] Q I1 r1 .nil q1))⟩
theorem fP (pa:PlainAttrs T) (slot:Slot T name id) (hty:typeOf (.builtin id)=pure (.type "method_descriptor")) (hm:MtR X id r) (ho:PE X o to) (ha:PA X (e :: es) t)
  (hbase:attributeBase o name X.env (eval o X.env)=eval o X.env:=by rfl)
  (hfew:((backTo cpos (starEach (e :: es) X.env)).all (fun x=>!x.1) && (backToKw cpos (keywordEach [] X.env)).all (fun x=>x.1.isSome)
   && decide ((e :: es).length + ([]:List Keyword).length + (if ([]:List Keyword).isEmpty then 0 else 1) < 30))=true:=by rfl)
  (hline:(apos.endLine == cpos.line)=true:=by rfl) (hs:starEach (e :: es) X.env=(false,eval e X.env) :: starEach es X.env:=by rfl) (hplain:(backTo cpos (starEach es X.env)).any (·.1)=false:=by rfl):
  PE X (.Call (.Attribute o name apos) (e :: es) [] cpos) (tBM X.K T r to t):=by
 intro pins s σ H Q I h
 refine wpAny_Call_method_late hbase hfew hline rfl (thn (ho pins s σ H _ I h) fun v s1 ⟨x,H1,I1,r1,ty,q1⟩=>?_)
 obtain ⟨h1,h2⟩:=mo I1 r1 ty
 refine ⟨T,id,pa,slot,hty,h1,h2,?_⟩
 have hA:=ha cpos pins s1 σ H1 _ I1 q1
 rw [hs] at hA ⊢
 refine Calls.callWith_builtin (by show (false || (backTo cpos (starEach es X.env)).any (·.1))=false; rw [hplain] <;> rfl) (Calls.evalArgs_plain ?_)
 exact thn hA fun us s2 ⟨vs,H2,I2,r2,q2⟩=>hm pins s2 σ H2 x vs v us Q I2 r1 r2 q2
end
end L2
namespace L2
open PySem PySem.Spec PyProof.Rows
def MtM (X:Cx) (id:String) (r:V→List V→Hp→VK→Prop):Prop:=
 ∀ (pins:List (Addr × Obj)) (s:Shared) (σ:St) (H:Hp) (x:V) (xs:List V) (v:Value) (us:List Value) (Q:VK),Inv X pins σ H s→RelV x v→Vals xs us→r x xs H Q→
  wpAny (model X.prog X.w) X.A (call (.builtin id) (v :: us)) (EP X pins σ Q) X.xe s
theorem Vals.one:∀ {x:V} {us:List Value},Vals [x] us→∃ u,us=[u]∧RelV x u
 | _,_,.cons r .nil=>⟨_,rfl,r⟩
theorem Vals.two:∀ {x y:V} {us:List Value},Vals [x,y] us→∃ u v,us=[u,v]∧RelV x u∧RelV y v
 | _,_,_,.cons r (.cons q .nil)=>⟨_,_,rfl,r,q⟩
theorem Vals.zero:∀ {us:List Value},Vals [] us→us=[]
 | _,.nil=>rfl
theorem Vals.dropLast {xs:List V} {us:List Value} (h:Vals xs us):Vals xs.dropLast us.dropLast:=by
 induction h with
 | nil=>exact .nil
 | cons r t ih=>
  cases t with
  | nil=>exact .nil
  | cons q t'=>exact .cons r ih
theorem Vals.eraseIdx:∀ {xs:List V} {us:List Value} (i:Nat),Vals xs us→Vals (xs.eraseIdx i) (us.eraseIdx i)
 | _,_,_,.nil=>.nil
 | _,_,0,.cons _ t=>t
 | _,_,i + 1,.cons r t=>.cons r (Vals.eraseIdx i t)
theorem Vals.reverse {xs:List V} {us:List Value} (h:Vals xs us):Vals xs.reverse us.reverse:=by
 induction h with
 | nil=>exact .nil
 | cons r t ih=>rw [List.reverse_cons,List.reverse_cons]; exact Vals.append ih (.cons r .nil)
theorem Vals.rep {xs:List V} {us:List Value} (h:Vals xs us):∀ k:Nat,Vals (List.replicate k xs).flatten (List.replicate k us).flatten
 | 0=>.nil
 | k + 1=>by
  rw [List.replicate_succ,List.replicate_succ,List.flatten_cons,List.flatten_cons]
  exact Vals.append h (Vals.rep h k)
theorem p9 {α:Type} (l:List α):l.eraseIdx (l.length - 1)=l.dropLast:=by
 induction l with
 | nil=>rfl
 | cons a r ih=>
  cases r with
  | nil=>rfl
  | cons b r=>
   have e:(a :: b :: r).length - 1=((b :: r).length - 1) + 1:=by
    have h1:(a :: b :: r).length=r.length + 2:=rfl
    have h2:(b :: r).length=r.length + 1:=rfl
    omega
   rw [e,List.eraseIdx_cons_succ,ih]
   all_goals rfl
theorem sK (its:List Value):∀ (k:Nat) (acc:List Value),
  List.foldl (fun x1 x2=>x1 ++ x2) acc.toArray (List.replicate k its.toArray)=(acc ++ (List.replicate k its).flatten).toArray
 | 0,acc=>by simp
 | k + 1,acc=>by
  have e:acc.toArray ++ its.toArray=(acc ++ its).toArray:=by simp
  have e2:(acc ++ its) ++ (List.replicate k its).flatten=acc ++ (List.replicate (k + 1) its).flatten:=by
   rw [List.replicate_succ,List.flatten_cons,List.append_assoc]
  rw [← e2,← sK its k (acc ++ its),← e,List.replicate_succ,List.foldl_cons]
section
variable {X:Cx} {pins:List (Addr × Obj)} {σ:St} {H:Hp} {s:Shared} {l b:Addr} {xs ys zs:List V}
theorem Inv.lset {its its':List Value} {n:Nat} {f:Array Value→Array Value} {t':Nat} (I:Inv X pins σ H s) (hH:H l=some (.lst xs))
  (e:s.heap.get? l=some { cls:=.type "list",data:=.seq its.toArray n }) (hf:f its.toArray=its'.toArray) (hv:Vals ys its') (hz:ys.length ≤ sizeLine):
  Inv X pins σ (upd H l (.lst ys)) { s with heap:=s.heap.update l (Obj.mapSeq f),toks:=t' }:=by
 have q:=PySem.IsL.update e f
 rw [hf] at q
 refine I.write (x:=l) (e:=l) (by rw [hH]; exact trivial) (.inl rfl) (fun b' u hb hu=>(Heap.get?_update_other s.heap (Obj.mapSeq f) (Ne.symm hb)).trans hu) ⟨_,q⟩ ?_
 exact ⟨hz,its',_,hv,q⟩
theorem Inv.lnew {its:List Value} {t':Nat} (I:Inv X pins σ H s) (hv:Vals ys its) (hz:ys.length ≤ sizeLine):
  Inv X pins σ (upd H s.heap.objs.size (.lst ys)) { s with heap:=s.heap.push { cls:=.type "list",data:=.seq its.toArray },toks:=t' }:=
 I.laid (fun _ _ q=>Heap.get?_push_of_some _ q) (Nat.le_refl _) ⟨hz,its,0,hv,Heap.get?_push_size _ rfl⟩
theorem Inv.fresh (I:Inv X pins σ H s):H s.heap.objs.size=none:=I.hok.fresh (Nat.le_refl _)
theorem Inv.lstM (I:Inv X pins σ H s) (hH:H l=some (.lst xs)):xs.length ≤ sizeLine∧∃ (its:List Value) (n:Nat),Vals xs its∧xs.length=its.length∧s.heap.get? l=some { cls:=.type "list",data:=.seq its.toArray n }:=by
 obtain ⟨z,its,n,r,e⟩:=I.hok l _ hH
 exact ⟨z,its,n,r,r.length,e⟩
theorem qE {n:Nat} (h:n ≤ sizeLine):Builtin.List.listTooLong n=false:=by
 unfold Builtin.List.listTooLong
 exact decide_eq_false (by omega)
end
section
variable {X:Cx}
def kS:V→List V→Hp→VK→Prop:=fun x vs H Q=>∃ l xs y,x=.ref l∧vs=[y]∧H l=some (.lst xs)∧xs.length < sizeLine∧Q .non (upd H l (.lst (xs ++ [y])))
theorem sH:MtM X "list.append" kS:=by
 intro pins s σ H x vs v us Q I rx rv h
 obtain ⟨l,xs,y,rfl,rfl,hH,hz,q⟩:=h
 cases rx
 obtain ⟨u,rfl,ru⟩:=rv.one
 obtain ⟨z,its,n,r,hl,e⟩:=I.lstM hH
 refine call_meets F.slot_list_append ⟨_,e,rfl⟩ F.entry_list_append (F.args_list_append_2 _ _) (PySem.list_append l its.toArray n u (by rw [List.size_toArray]; omega)) ⟨e,?_⟩
 refine ⟨.non,_,I.lset (its':=its ++ [u]) hH e (by simp) (r.append (.cons ru .nil)) ?_,rfl,q⟩
 rw [List.length_append,List.length_singleton]
 omega
def kR:V→List V→Hp→VK→Prop:=fun x vs H Q=>∃ l b xs zs,x=.ref l∧vs=[.ref b]∧H l=some (.lst xs)∧H b=some (.lst zs)∧xs.length + zs.length ≤ sizeLine∧Q .non (upd H l (.lst (xs ++ zs)))
theorem fg:MtM X "list.extend" kR:=by
 intro pins s σ H x vs v us Q I rx rv h
 obtain ⟨l,b,xs,zs,rfl,rfl,hH,hB,hz,q⟩:=h
 cases rx
 obtain ⟨u,rfl,ru⟩:=rv.one
 cases ru
 obtain ⟨z,its,n,r,hl,e⟩:=I.lstM hH
 obtain ⟨z2,its2,n2,r2,hl2,e2⟩:=I.lstM hB
 have hsz:its.toArray.size + its2.toArray.size ≤ sizeLine:=by rw [List.size_toArray,List.size_toArray]; omega
 have hlong:¬ (!its.toArray.isEmpty && Builtin.List.listTooLong (its.toArray.size + its2.toArray.size))=true:=by
  rw [qE hsz,Bool.and_false]
  exact Bool.false_ne_true
 refine call_meets F.slot_list_extend ⟨_,e,rfl⟩ F.entry_list_extend (F.args_list_extend_2 _ _)
  (AutoSeq1.list_extend_list_list_0 l its.toArray n b its2.toArray n2 hlong (by rw [List.size_toArray]; omega) (by omega)) ⟨e,e2,?_⟩
 refine ⟨.non,_,I.lset (its':=its ++ its2) hH e (by simp) (r.append r2) ?_,rfl,q⟩
 rw [List.length_append]
 omega
def cf:V→List V→Hp→VK→Prop:=fun x vs H Q=>∃ l xs y,x=.ref l∧vs=[]∧H l=some (.lst xs)∧xs[xs.length - 1]? = some y∧Q y (upd H l (.lst xs.dropLast))
theorem gr:MtM X "list.pop" cf:=by
 intro pins s σ H x vs v us Q I rx rv h
 obtain ⟨l,xs,y,rfl,rfl,hH,hy,q⟩:=h
 cases rx
 have hus:=rv.zero
 subst hus
 obtain ⟨z,its,n,r,hl,e⟩:=I.lstM hH
 obtain ⟨u,hu,ru⟩:=r.get hy
 have hy':its.toArray[its.toArray.size - 1]? = some u:=by
  show its.toArray[its.length - 1]? = some u
  rw [← Array.getElem?_toList,← hl]
  exact hu
 refine call_meets F.slot_list_pop ⟨_,e,rfl⟩ F.entry_list_pop (F.args_list_pop_1 _) (MeetsSeq.list_pop_last l its.toArray n u hy' (by rw [List.size_toArray]; omega)) ⟨e,?_⟩
 refine ⟨y,_,I.lset (its':=its.dropLast) hH e ?_ r.dropLast ?_,ru,q⟩
 ·show its.toArray.eraseIdxIfInBounds (its.toArray.size - 1)=its.dropLast.toArray
  rw [List.size_toArray,List.eraseIdxIfInBounds_toArray,p9]
 ·rw [List.length_dropLast]
  omega
def mL:V→List V→Hp→VK→Prop:=fun x vs H Q=>∃ l xs,x=.ref l∧vs=[]∧H l=some (.lst xs)∧Q .non (upd H l (.lst xs.reverse))
theorem pV:MtM X "list.reverse" mL:=by
 intro pins s σ H x vs v us Q I rx rv h
 obtain ⟨l,xs,rfl,rfl,hH,q⟩:=h
 cases rx
 have hus:=rv.zero
 subst hus
 obtain ⟨z,its,n,r,hl,e⟩:=I.lstM hH
 refine call_meets F.slot_list_reverse ⟨_,e,rfl⟩ F.entry_list_reverse (F.args_list_reverse_1 _) (AutoSeq1.list_reverse_list_0 l its.toArray n (by rw [List.size_toArray]; omega)) ⟨e,?_⟩
 refine ⟨.non,_,I.lset (its':=its.reverse) hH e (by simp) r.reverse ?_,rfl,q⟩
 rw [List.length_reverse]
 omega
def cg:R2:=fun x y H Q=>∃ l b xs zs,x=.ref l∧y=.ref b∧H l=some (.lst xs)∧H b=some (.lst zs)∧xs.length + zs.length ≤ sizeLine∧∀ p,H p=none→Q (.ref p) (upd H p (.lst (xs ++ zs)))
theorem gi:OpR X (binaryOp .Add) cg:=by
 intro pins s σ H x y v u Q I rx ry h
 obtain ⟨l,b,xs,zs,rfl,rfl,hH,hB,hz,q⟩:=h
 cases rx
 cases ry
 obtain ⟨z,its,n,r,hl,e⟩:=I.lstM hH
 obtain ⟨z2,its2,n2,r2,hl2,e2⟩:=I.lstM hB
 refine PySem.P.add_list e e2 ?_ (by rw [List.size_toArray,List.size_toArray]; omega)
 have ea:its.toArray ++ its2.toArray=(its ++ its2).toArray:=by simp
 rw [ea]
 exact ⟨.ref _,_,I.lnew (t':=s.toks) (r.append r2) (by rw [List.length_append]; omega),rfl,q _ I.fresh⟩
def ce:R2:=fun x y H Q=>∃ l k xs,x=.ref l∧y=.int k∧H l=some (.lst xs)∧-(2 ^ 63) ≤ k∧k < 2 ^ 63∧xs.length * k.toNat ≤ sizeLine∧
 ∀ p,H p=none→Q (.ref p) (upd H p (.lst (List.replicate k.toNat xs).flatten))
theorem jq {α:Type} (xs:List α) (k:Nat):(List.replicate k xs).flatten.length=k * xs.length:=by
 induction k with
 | zero=>simp
 | succ k ih=>rw [List.replicate_succ,List.flatten_cons,List.length_append,ih,Nat.succ_mul,Nat.add_comm]
theorem gg:OpR X (binaryOp .Mult) ce:=by
 intro pins s σ H x y v u Q I rx ry h
 obtain ⟨l,k,xs,rfl,rfl,hH,h1,h2,hz,q⟩:=h
 cases rx
 obtain ⟨t,rfl⟩:=ry
 obtain ⟨z,its,n,r,hl,e⟩:=I.lstM hH
 have hlen:its.toArray.size * k.toNat ≤ sizeLine:=by rw [List.size_toArray,← hl]; exact hz
 have hcap:¬ its.toArray.size * k.toNat > (2 ^ 63 - 1) / 8:=by
  have:(sizeLine:Nat) ≤ (2 ^ 63 - 1) / 8:=by decide
  omega
 have hfit:¬ (!Builtin.List.listFitsIndex k)=true:=by
  rw [fitsIndex_both h1 h2]
  exact Bool.false_ne_true
 have hlong:¬ Builtin.List.listTooLong (its.toArray.size * k.toNat)=true:=by
  rw [qE hlen]
  exact Bool.false_ne_true
 have hnew:List.foldl (fun x1 x2=>x1 ++ x2) #[] (List.replicate (if its.toArray.isEmpty=true then 0 else k.toNat) its.toArray)=(List.replicate k.toNat its).flatten.toArray:=by
  have f0:∀ m:Nat,List.foldl (fun x1 x2=>x1 ++ x2) #[] (List.replicate m its.toArray)=(List.replicate m its).flatten.toArray:=fun m=>by
   have:=sK its m []
   rw [List.nil_append] at this
   exact this
  rw [f0]
  cases its with
  | nil=>simp
  | cons a r'=>rw [if_neg (by simp)]
 refine wpAny_binaryOp_repeat_ref (T:="list") (U:="int") (by decide) ⟨_,e,rfl⟩ (fun s'=>typeIs_int s' k t) noFill_list_mul F.fills_int_mul F.slot_int_rmul repeat_list F.slot_int_index.lookup
  (call_meets F.slot_int_rmul (typeIs_int s k t) F.entry_int_rmul (F.args_int_rmul_2 _ _) (int___rmul___int_list k t l its.toArray n)
   ⟨e,rfl,⟨_,e,rfl⟩,call_meets F.slot_list_mul ⟨_,e,rfl⟩ F.entry_list_mul (F.args_list_mul_2 _ _) (AutoListH.list___mul___list_int_3 l its.toArray n k t hfit hcap hlong) ⟨e,?_⟩⟩)
 rw [hnew]
 exact ⟨.ref _,_,I.lnew (t':=s.toks) (r.rep k.toNat) (by rw [jq,Nat.mul_comm]; exact hz),rfl,q _ I.fresh⟩
end
section
variable {prog:Program} {w:World} {A:Around} {E:Value→Shared→Prop} {s:Shared}
set_option maxRecDepth 100000 in
end
section
variable {X:Cx}
end
end L2
namespace Att
open PySem PySem.W PySem.Calls PyProof.Rows
theorem ur {P:Params} {h:Heap}:∀ (ns:List Int) (vs:List Value),WellAll P h vs (ns.map WData.int)→IntsAre vs ns:=by
 intro ns
 induction ns with
 | nil=>
  intro vs w
  rw [List.map_nil] at w
  cases w
  exact .nil
 | cons n ns ih=>
  intro vs w
  rw [List.map_cons] at w
  cases w with
  | cons a b=>
   cases a
   exact .cons _ _ (ih _ b)
theorem nE {l:OpenLaw} {n:Nat} (hn:l.most=some n) {P:Params} {h:Heap} {args:List WData} {vals:List Value}
  (hpre:l.row.toRowW.claim.pre args=true) (hwl:WellAll P h vals args):
  ∃ a vs ns,vals=[Value.ref a]∧args=[WData.list (ns.map WData.int)]∧h.get? a=some { cls:=.type "list",data:=.seq vs.toArray }∧IntsAre vs ns∧ns.length ≤ n:=by
 have hsh:WShape.hasAll [] args [.list .int]=true:=(pre_splitW hpre).1
 have hc:l.pre.holds [] { args:=args }=true:=(pre_splitW hpre).2
 obtain ⟨d,r,rfl,h1,h2⟩:=hasAllW_cons hsh
 obtain rfl:=hasAllW_nil h2
 obtain ⟨xs,rfl,h3⟩:=hasW_list h1
 obtain ⟨ns,rfl⟩:=items_int h3
 have hlen:ns.length ≤ n:=by
  unfold OpenLaw.pre at hc
  have h4:(WTm.not (.lt (.lit (.int (n:Int))) (.len (.arg 0)))).holds [] { args:=[.list (ns.map .int)] }=true:=by
   have h4:=(holds_andW hc).1
   rw [hn] at h4
   exact h4
  have h5:=condW_of h4 (w_not (w_lt w_lit (w_len_list (w_arg rfl))))
  rw [List.length_map] at h5
  refine Nat.le_of_not_lt fun q=>?_
  have q':(n:Int) < ((ns.length:Nat):Int):=by omega
  first
   | (rw [decide_eq_true q'] at h5; exact absurd h5 (by decide))
   | (simp at h5; omega)
 cases hwl with
 | cons w1 w2=>
  cases w2
  cases w1 with
  | list ho hall=>exact ⟨_,_,ns,rfl,rfl,ho,ur ns _ hall,hlen⟩
theorem nH (l:OpenLaw) (args:List WData):l.row.toRowW.claim.post args (.bool true) args=true:=
 postW_of (r:=l.row.toRowW) (X:=(true == true))
  (show WShape.has [] (.bool true) .bool=true by first | rfl | decide | simp [WShape.has,WShape.arms,WShape.armsAll])
  (show (WTm.eq .res (.lit (.bool true))).value [] { args:=args,res:=some (.bool true),after:=args }=some (.bool (true == true)) from w_eq_bool (w_res rfl) w_lit) rfl
theorem attach_call {l:OpenLaw} {n:Nat} {q:Program} {loose:List Str} {XP:(Str→Option Value)→Heap→Prop} {YP:World→Heap→Prop} {d:DefRec}
  (hn:l.most=some n) (hdf:d.params.defaults=[])
  (call:∀ (w:World) (s₀ s₁:Shared) (mg mb:Str→Option Value) (fa:Addr) (o:Obj) (pm cd doc:Value) (a:Addr) (vs:List Value) (ns:List Int),
   Ground q loose [] XP w s₀ mg mb s₁.heap→YP w s₁.heap→
   s₁.heap.get? fa=some o→o.data=.func (docDef d.name d.params d.body d.scope pm cd doc)→s₁.heap.CodeRec cd d.name→mg d.name=some (.ref fa)→
   s₁.heap.get? a=some { cls:=.type "list",data:=.seq vs.toArray }→IntsAre vs ns→ns.length ≤ n→s₁.gens=#[]→
   codeAny (model l.prog w) callerA (.call (.ref fa) ⟨[.ref a],[]⟩) (fun r s'=>r=.ok (.ret (.bool true))∧OldK s₁.heap s'.heap∧s'.os=s₁.os∧AllBare s'.gens) s₁):
  WalkO q loose XP YP l.row.toRowW d [] (fun f vs=>PySem.call f vs):=by
 intro w s₀ s₁ mg mb G Y fa o pm cd doc dV kV ho hd hcd hD hmg hg args vals as hpre hlay hrd hwl hlo
 obtain rfl:dV=.none:=Dflts.none hD hdf
 obtain rfl:kV=.none:=Dflts.noKw hD
 obtain ⟨a,vs,ns,rfl,rfl,hobj,hints,hlen⟩:=nE hn hpre hwl
 refine enter_call (codeAny_mono (call w s₀ s₁ mg mb fa o pm cd doc a vs ns G Y ho (fd_plain hd) hcd hmg hobj hints hlen hg) fun r s' hq=>?_)
 obtain ⟨rfl,h2,h3,h4⟩:=hq
 exact ⟨.inl ⟨.bool true,.bool true,[],rfl,fun _=>rfl,.bool true,nH l _,fun _=>⟨List.Pairwise.nil,fun _ hm=>(nomatch hm)⟩⟩,h2,h3,h4⟩
section
variable {prog:Program} {w:World} {A:Around} {E:Value→Shared→Prop} {s:Shared} {K:Frag}
def ck (h:Heap) (L d:Addr):List (Addr × Obj):=(List.range h.objs.size).filterMap fun a=>if a=L∨a=d then none else (h.get? a).map fun o=>(a,o)
end
end Att
namespace L2
open PySem PySem.Spec PyProof.Rows
theorem sx:∀ {vs:List Value} {ns:List Int},IntsAre vs ns→Vals (ns.map V.int) vs
 | _,_,.nil=>.nil
 | _,_,.cons n t h=>.cons ⟨t,rfl⟩ (sx h)
def fe (H:Hp):Prop:=∀ b,H b=none∨∃ o xs,H b=some (.frz o (.lst xs))
theorem lu {P:Program} {w:World} {K:PySem.W.Frag} {mg mb:Str→Option Value} {CX:CXT} {k:Nat} {fa a:Addr} {fd:FuncData} {x:Str} {sp:Sp} {s₁:Shared} {vs:List Value} {ns:List Int}
  (KX:K.In s₁.heap) (hns:s₁.heap.Ns mainGlobals mg) (hb:s₁.heap.Ns builtinsNs mb) (hbb:∀ x:Str,x ≠ "__name__"→mb x=bootBuiltins x) (hlim:s₁.heap.NoLimit) (hg:s₁.gens=#[])
  (ha:s₁.heap.get? a=some { cls:=.type "list",data:=.seq vs.toArray }) (hi:IntsAre vs ns) (hl:ns.length ≤ sizeLine) (hr:Room k callerA)
  (F:∀ base:Heap,K.In base→base.Ns mainGlobals mg→FnOk P w K mg base CX k fa fd [x] sp) (hbind:∀ (s:Shared) (u:Value),BindsTo s fd ⟨[u],[]⟩ [(x,u)])
  (hsp:∀ H:Hp,fe H→SqL K H a (ns.map V.int)→sp [.ref a] H (fun v _=>v=.bl true) fun _ _ _=>False)
  (hCX:∀ H e s',CX [] H s₁ (fun _ _ _=>False) e s'→False):
  codeAny (model P w) callerA (.call (.ref fa) ⟨[.ref a],[]⟩) (fun r s'=>r=.ok (.ret (.bool true))∧OldK s₁.heap s'.heap∧s'.os=s₁.os∧AllBare s'.gens) s₁:=by
 have rv:=sx hi
 have lenV:=hi.length
 have core:∀ H:Hp,fe H→SqL K H a (ns.map V.int)→HOk P w H s₁.heap→(∀ b,H b ≠ none→b=a)→(H a ≠ none→K.lookup a=none)→
   codeAny (model P w) callerA (.call (.ref fa) ⟨[.ref a],[]⟩) (fun r s'=>r=.ok (.ret (.bool true))∧OldK s₁.heap s'.heap∧s'.os=s₁.os∧AllBare s'.gens) s₁:=by
  intro H hO hS hok hA hK
  have base_of:∀ {b:Addr} {o:Obj},s₁.heap.get? b=some o→H b=none→(rN s₁.heap H).get? b=some o:=fun e n=>lz e n
  have noA:∀ {b:Addr} {o:Obj} {es:Array DictEntry} {ep:Nat},s₁.heap.get? b=some o→o.data=.dict es ep→H b=none:=fun {b o es ep} e d=>by
   cases q:H b with
   | none=>rfl
   | some u=>
    have e':b=a:=hA b (by rw [q]; simp)
    subst e'
    rw [ha] at e; cases e
    have d':Data.seq vs.toArray _=Data.dict es ep:=d
    cases d'
  have nsK:∀ {b:Addr} {m:Str→Option Value},s₁.heap.Ns b m→(rN s₁.heap H).Ns b m:=fun {b m} ⟨o,es,ep,e,d,r⟩=>⟨o,es,ep,base_of e (noA e d),d,r⟩
  have hKb:K.In (rN s₁.heap H):=fun b o e=>base_of (KX b o e) (by
   cases q:H b with
   | none=>rfl
   | some u=>
    have e':b=a:=hA b (by rw [q]; simp)
    subst e'
    rw [hK (by rw [q]; simp)] at e; cases e)
  have hM:Mod K mg (rN s₁.heap H):=⟨hKb,nsK hns,⟨mb,nsK hb,hbb⟩,let ⟨mc,h1,h2⟩:=hlim; ⟨mc,nsK h1,h2⟩⟩
  have e0:Env0 P w K mg (rN s₁.heap H) callerA [] s₁ H:=⟨rfl,hM,fun b o e=>ji e,Nat.le_of_eq (nX _ _),trivial,fun b hb=>absurd (show b ∈ ([]:List Addr) from hb) (by simp),hok,.of_eq hg⟩
  refine codeAny_mono ((F _ hKb (nsK hns)).run callerA [] s₁ H ⟨[.ref a],[]⟩ [.ref a] [.ref a] _ _ hr e0 (hbind s₁ (.ref a)) (.cons rfl .nil) (hsp H hO hS)) fun r s' h=>?_
  cases r with
  | error e=>exact (hCX H e s' h).elim
  | ok fl=>
   cases fl with
   | next=>exact False.elim h
   | brk=>exact False.elim h
   | cont=>exact False.elim h
   | ret u=>
    obtain ⟨v,H',os,bare,un,hok',r',q⟩:=h
    have q':v=.bl true:=q
    subst q'
    obtain rfl:u=Value.bool true:=r'
    refine ⟨rfl,OldK.of_keep fun b o e=>?_,os,bare⟩
    cases q:H b with
    | none=>exact un.keep b o e q (by intro z; exact absurd (show b ∈ ([]:List Addr) from z) (by simp)) (by simp)
    | some u=>
     rcases hO b with z | ⟨ob,xs,z⟩
     ·rw [q] at z; cases z
     ·have z2:=un.frzs b ob _ z
      obtain ⟨e1,_⟩:=hok b _ z
      obtain ⟨e2,_⟩:=hok' b _ z2
      rw [e] at e1; cases e1
      exact e2
 cases hk:K.lookup a with
 | some o=>
  have e:=KX a o hk
  rw [ha] at e
  cases e
  refine core (fun _=>none) (fun _=>.inl rfl) (.inr ⟨_,vs.toArray,_,hk,rfl,rfl,rfl,by rw [List.size_toArray,lenV]; exact hl,by simpa using rv⟩) (fun b u z=>by have z':(none:Option HO)=some u:=z; cases z') (fun b z=>absurd rfl z) fun z=>absurd rfl z
 | none=>
  refine core (fun b=>if b=a then some (.frz { cls:=.type "list",data:=.seq vs.toArray } (.lst (ns.map V.int))) else none) (fun b=>?_) (.inl (.inr ⟨{ cls:=.type "list",data:=.seq vs.toArray },if_pos rfl⟩)) (fun b u z=>?_) (fun b z=>?_) fun _=>hk
  ·by_cases hb:b=a
   ·exact .inr ⟨_,_,if_pos hb⟩
   ·exact .inl (if_neg hb)
  ·by_cases hb:b=a
   ·have z':=(if_pos hb).symm.trans z
    cases z'
    subst hb
    exact ⟨ha,by rw [List.length_map]; exact hl,vs,_,rv,ha⟩
   ·have z':=(if_neg hb).symm.trans z
    cases z'
  ·by_cases hb:b=a
   ·exact hb
   ·exact absurd (if_neg hb) z
end L2
namespace L2
open PySem PySem.Spec PyProof.Rows
abbrev KOf {K:PySem.W.Frag} {h:Heap} (_:K.In h):PySem.W.Frag:=K
theorem walk_of {l:PySem.W.OpenLaw} {n k:Nat} {q:Program} {loose:List Str} {XP:(Str→Option Value)→Heap→Prop} {YP:World→Heap→Prop} {d:DefRec} {K:Params→PySem.W.Frag} {CX:World→CXT} {sp:World→Sp} {x:Str}
  (hn:l.most=some n) (hn2:n ≤ sizeLine) (hdf:d.params.defaults=[]) (hr:Room k callerA)
  (hY:∀ (w:World) (h:Heap),YP w h→(K w.params).In h)
  (F:∀ (w:World) (mg:Str→Option Value) (fa:Addr) (h:Heap),(K w.params).In h→h.Ns mainGlobals mg→mg d.name=some (.ref fa)→
   ∃ fd:FuncData,(∀ (s:Shared) (u:Value),BindsTo s fd ⟨[u],[]⟩ [(x,u)])∧
    ∀ base:Heap,(K w.params).In base→base.Ns mainGlobals mg→FnOk l.prog w (K w.params) mg base (CX w) k fa fd [x] (sp w))
  (hsp:∀ (w:World) (H:Hp) (a:Addr) (ns:List Int),ns.length ≤ n→fe H→SqL (K w.params) H a (ns.map V.int)→sp w [.ref a] H (fun v _=>v=.bl true) fun _ _ _=>False)
  (hCX:∀ (w:World) (H:Hp) (s:Shared) (e:Value) (s':Shared),CX w [] H s (fun _ _ _=>False) e s'→False):
  PySem.W.WalkO q loose XP YP l.row.toRowW d [] (fun f vs=>PySem.call f vs):=by
 refine Att.attach_call hn hdf fun w s₀ s₁ mg mb fa o pm cd doc a vs ns G Y ho hd hcd hmg hobj hints hlen hg=>?_
 have KX:=hY w _ Y
 obtain ⟨fd,hb,hF⟩:=F w mg fa _ KX G.T.g hmg
 exact lu KX G.T.g G.T.b G.T.builtins G.T.nolimit hg hobj hints (Nat.le_trans hlen hn2) hr hF hb (fun H hO hS=>hsp w H a ns hlen hO hS) fun H e s'=>hCX w H s₁ e s'
end L2
namespace L2
open PySem PySem.Spec PyProof.Rows
def inClass (s:Stmt) (j:Nat):Stmt:=match s with
 | .ClassDef _ _ _ body _ _ _ _ _ _ _=>body.getD j (.Pass ⟨0,0,0,0⟩)
 | _=>.Pass ⟨0,0,0,0⟩
def defArgs (s:Stmt):Arguments:=match s with
 | .FunctionDef _ a _ _ _ _ _ _ _ _=>a
 | _=>{ posonlyargs:=[],args:=[],vararg:=none,kwonlyargs:=[],kw_defaults:=[],kwarg:=none,defaults:=[] }
def defBody (s:Stmt):List Stmt:=match s with
 | .FunctionDef _ _ b _ _ _ _ _ _ _=>b
 | _=>[]
def defScope (s:Stmt):Scope:=match s with
 | .FunctionDef _ _ _ _ _ _ sc _ _ _=>sc
 | _=>{ kind:=.function,names:=[],isGenerator:=false,isCoroutine:=false }
abbrev CX0:CXT:=fun _ _ _ _ _ _=>False
abbrev E0:XK:=fun _ _ _=>False
theorem sE {X:Cx}:vU CX0 X E0:=fun _ _ _ _ _ _ _ h=>h.elim
structure Fun (K:PySem.W.Frag) (x qual:Str) (st:Stmt) (f:Addr) (fd:FuncData):Prop where
 ex:∃ (oc:Value) (od:Option Addr) (kV doc pm:Value) (an:Option Addr) (cdv ct:Value) (osl:Array (Option Value)),
  fd=PySem.W.fnOf x qual (defArgs st) (defBody st) (defScope st) .none kV doc pm an cdv ct∧K.lookup f=some ⟨oc,od,.func fd,osl⟩∧PySem.W.codeIn K cdv qual=true
 kp:PySem.W.keepIn K (.ref f)=true
section
variable {P:Program} {w:World} {K:PySem.W.Frag} {mg:Str→Option Value} {base:Heap}
theorem Fun.ok {x qual:Str} {st:Stmt} {f:Addr} {fd:FuncData} {N ps:List Str} {k:Nat} {sp:Sp} (F:Fun K x qual st f fd) (S:zf N ps (defScope st)) (len:∀ vs H Q E,sp vs H Q E→vs.length=ps.length)
  (hbody:∀ (cdv:Value) (A:Around) (outer:List Env) (s:Shared) (H:Hp) (vs:List V) (Q:VK) (E:XK),Room k (A.deeper (envOfC qual (defScope st) s.heap.objs.size f cdv))→sp vs H Q E→
   ∃ t,PSs (yu CX0 P w K mg base N qual (defScope st) f cdv A outer s H E).nox (defBody st) t∧t { nx:=fun _ H'=>Q .non H',rt:=Q } (start N vs) H):FnOk P w K mg base CX0 (k + 1) f fd ps sp:=by
 obtain ⟨oc,od,kV,doc,pm,an,cdv,ct,osl,rfl,lk,hcd⟩:=F.ex
 refine iq lk hcd S len fun A outer s H vs Q E hr hsp=>?_
 obtain ⟨t,h,q⟩:=hbody cdv A outer s H vs Q E hr hsp
 exact ⟨t,h.nox,q⟩
theorem Fun.binds {x qual:Str} {st:Stmt} {f:Addr} {fd:FuncData} {ps:List Str} (F:Fun K x qual st f fd)
  (h:∀ (kV doc pm:Value) (an:Option Addr) (cdv ct:Value) (us:List Value),us.length=ps.length→bindArgs (PySem.W.fnOf x qual (defArgs st) (defBody st) (defScope st) .none kV doc pm an cdv ct) ⟨us,[]⟩=pure (ps.zip us)):Binds K fd ps []:=by
 obtain ⟨oc,od,kV,doc,pm,an,cdv,ct,osl,rfl,lk,hcd⟩:=F.ex
 exact .all (h kV doc pm an cdv ct)
theorem p7 {x qual:Str} {st:Stmt} {f:Addr} {oc:Value} {od an:Option Addr} {osl:Array (Option Value)} {kV doc pm cdv ct:Value} (l:K.lookup f=some ⟨oc,od,.func (PySem.W.fnOf x qual (defArgs st) (defBody st) (defScope st) .none kV doc pm an cdv ct),osl⟩)
  (c:PySem.W.codeIn K cdv qual=true) (k:PySem.W.keepIn K (.ref f)=true):Fun K x qual st f (PySem.W.fnOf x qual (defArgs st) (defBody st) (defScope st) .none kV doc pm an cdv ct):=⟨⟨oc,od,kV,doc,pm,an,cdv,ct,osl,rfl,l,c⟩,k⟩
end
section
variable {X:Cx}
theorem pv (i:Nat) {x:Str} {pos:Pos} (hN:X.N[i]? = some x:=by rfl) (hv:Vis X.env.scope x:=by first | exact Or.inl rfl | exact Or.inr (Or.inl rfl) | exact Or.inr (Or.inr rfl)) (hd:(x == ("__debug__":Str))=false:=by decide)
  (hcd:(x == ("__classdict__":Str))=false:=by decide):PE X (.Name x pos) (kI i):=y3 hN hv hd hcd
end
theorem cq {A B:Prop} (h:B):if false=true then A else B:=by
 rw [if_neg Bool.false_ne_true]
 exact h
theorem cp {A B:Prop} (h:A):if true=true then A else B:=by
 rw [if_pos rfl]
 exact h
theorem eG {c A B:Prop} [Decidable c] (h1:c→A) (h2:¬ c→B):if c then A else B:=by
 by_cases h:c
 ·rw [if_pos h]
  exact h1 h
 ·rw [if_neg h]
  exact h2 h
def Same (H H':Hp):Prop:=∀ b o,H b=some o→H' b=some o
theorem Same.refl (H:Hp):Same H H:=fun _ _ h=>h
theorem Same.trans {H H1 H2:Hp} (a:Same H H1) (b:Same H1 H2):Same H H2:=fun c o h=>b c o (a c o h)
theorem Same.free {H H':Hp} (e:Same H H') {l:Addr} (h:H' l=Option.none):H l=Option.none:=by
 cases q:H l with
 | none=>rfl
 | some o=>
  rw [e l o q] at h
  cases h
theorem Same.seq {K:PySem.W.Frag} {H H':Hp} {a:Addr} {xs:List V} (e:Same H H') (h:SqL K H a xs):SqL K H' a xs:=by
 rcases h with (h | ⟨o,h⟩) | h
 ·exact .inl (.inl (e _ _ h))
 ·exact .inl (.inr ⟨o,e _ _ h⟩)
 ·exact .inr h
end L2
set_option maxRecDepth 1000000
set_option maxHeartbeats 0
open PySem in
def My.top (i:Nat):Stmt:=PySem.Challenge.pw_oddbases_k52_moved_refused.main.body.getD i (.Pass ⟨0,0,0,0⟩)
noncomputable section
open PySem My
abbrev My.v_:Option Value:=some (.ref 6)
abbrev My.g_:Array GenState:=⟨[]⟩
abbrev My.d_:=@Drawn.mk 0 0 0 0
abbrev My.P_:=@Pos.mk
abbrev My.N_ (o:Params→Obj) (a b:Params→W.BT) (x:Params):W.BT:=.node (o x) (a x) (b x)
abbrev My.Z_ (_:Params):W.BT:=.nil
abbrev My.L_ (o:Params→Obj):=N_ o Z_ Z_
theorem My.sg_ {tb p w n₀ ann b} {n:Nat} {s s':W.SharedT} {t:Thread} {f:Flow} {c:Code} {q:Pos} (h:W.segRunT tb p w n₀ ann b n s t=some (f,s',c,q)):W.segRun tb p w n₀ ann b n s.abs t=some (f,s'.abs,c,q):=W.segRun_of h
abbrev My.p_ (a:String) (b:Nat):Value:=.str (.ofString a) b
abbrev My.j_ (a:Int) (b:Nat):Value:=.int a b
abbrev My.r_ (a:Nat):Value:=.ref a
abbrev My.e_ (x:Params) (a:String) (b:Nat) (v:Value):DictEntry:=⟨PyData.keyHash x (.ofString a),.str (.ofString a) b,v⟩
abbrev My.t0 (a1:String) (a3:Nat) (a7:String) (a8 a9:Nat) (x:Params):Obj:=(@Obj.mk (.type "function") none (@Data.func (@FuncData.mk (.ofString a1) (.ofString a1) (L2.defArgs (My.top a3)) (@FuncBody.stmts (L2.defBody (My.top a3))) (L2.defScope (My.top a3)) 3 (@List.nil (@Prod @Str @Nat)) .none .none .none (p_ a7 a8) none (r_ a9) .none 0)) #[])
abbrev My.t1 (a1:String) (a2:Nat) (a3:String) (a4 a6:Nat) (a7 a9:Int) (a17 a20 a21 a22 a23:Nat) (a24:Int) (a29:Nat) (x:Params):Obj:=(@Obj.mk (.type "code") none (@Data.fields (List.toArray [(p_ a1 a2),(p_ a3 a4),(p_ "/claim/cut.py" a6),(j_ a7 0),(j_ a9 0),(j_ 0 0),(j_ 0 0),(j_ 3 0),(r_ a17),(.bool @Bool.true),(j_ 181 0),(r_ a20),.none,(r_ a21),(r_ a22),(r_ a23),(j_ a24 0),(j_ a7 0),(p_ "/claim/cut.py" a29)])) #[])
abbrev My.t2 (a0:String) (a2:Nat) (x:Params):Obj:=(@Obj.mk .none none (@Data.func (@FuncData.mk (.ofString a0) (.ofString a0) (L2.defArgs (My.top a2)) (@FuncBody.stmts (L2.defBody (My.top a2))) (L2.defScope (My.top a2)) 0 (@List.nil (@Prod @Str @Nat)) .none .none .none .none none .none .none 0)) #[])
abbrev My.t3 (x:Params):Obj:=(@Obj.mk (.type "tuple") none (@Data.seq #[] 0) #[])
abbrev My.t4 (x:Params):Obj:=(@Obj.mk .none none (@Data.fields #[]) #[])
abbrev My.t5 (a1:String) (a2:Nat) (a3:String) (a4:Nat) (a5:String) (a6:Nat) (a7:String) (a8:Nat) (a9:String) (a10:Nat) (a11:String) (a12:Nat) (x:Params):Obj:=(@Obj.mk (.type "tuple") none (@Data.seq (List.toArray [(p_ a1 a2),(p_ a3 a4),(p_ a5 a6),(p_ a7 a8),(p_ a9 a10),(p_ a11 a12)]) 0) #[])
abbrev My.t6 (a1:String) (a2:Nat) (a3:String) (a4:Nat) (a5:String) (a6:Nat) (a7:String) (a8:Nat) (a9:String) (a10:Nat) (x:Params):Obj:=(@Obj.mk (.type "tuple") none (@Data.seq (List.toArray [(p_ a1 a2),(p_ a3 a4),(p_ a5 a6),(p_ a7 a8),(p_ a9 a10)]) 0) #[])
abbrev My.t7 (a1:String) (a2:Nat) (a3:String) (a4:Nat) (a5:String) (a6:Nat) (a7:String) (a8:Nat) (x:Params):Obj:=(@Obj.mk (.type "tuple") none (@Data.seq (List.toArray [(p_ a1 a2),(p_ a3 a4),(p_ a5 a6),(p_ a7 a8)]) 0) #[])
abbrev My.t8 (a1:String) (a2:Nat) (a3:String) (a4:Nat) (a5:String) (a6:Nat) (x:Params):Obj:=(@Obj.mk (.type "tuple") none (@Data.seq (List.toArray [(p_ a1 a2),(p_ a3 a4),(p_ a5 a6)]) 0) #[])
abbrev My.t9 (a1:String) (a2:Nat) (a3:String) (a4:Nat) (x:Params):Obj:=(@Obj.mk (.type "tuple") none (@Data.seq (List.toArray [(p_ a1 a2),(p_ a3 a4)]) 0) #[])
abbrev My.t10 (a1:String) (a2:Nat) (a3:String) (a4:Nat) (a5:String) (a6:Nat) (a7:String) (a8:Nat) (a9:String) (a10:Nat) (a11:String) (a12:Nat) (a13:String) (a14:Nat) (x:Params):Obj:=(@Obj.mk (.type "tuple") none (@Data.seq (List.toArray [(p_ a1 a2),(p_ a3 a4),(p_ a5 a6),(p_ a7 a8),(p_ a9 a10),(p_ a11 a12),(p_ a13 a14)]) 0) #[])
abbrev My.t11 (a2:Nat) (x:Params):Obj:=(@Obj.mk (.type "builtin_function_or_method") none (@Data.fields (List.toArray [(.builtin "object.__init_subclass__"),(r_ a2)])) #[])
abbrev My.t12 (a1:Nat) (x:Params):Obj:=(@Obj.mk (.type "super") none (@Data.fields (List.toArray [(r_ a1),(r_ a1),(r_ a1)])) #[])
abbrev My.t13 (a1:String) (a3 a6 a8 a10 a12:Nat) (x:Params):Obj:=(@Obj.mk (.type "type") none (@Data.cls (@ClassData.mk (.ofString a1) [(r_ 265)] [(r_ a3),(r_ 265),(.type "object")] a6 (.ofString a1) @Bool.true [] [] @Bool.false (@Option.none @Bool) @Bool.false)) (@List.toArray (@Option @Value) [(some (r_ a8)),none,(some (p_ a1 a10)),(some (p_ a1 a12)),(some (.builtin "object.__new__")),(some (.bool @Bool.true))]))
abbrev My.t14 (a1:String) (a2:Nat) (x:Params):Obj:=(@Obj.mk (.type "tuple") none (@Data.seq (List.toArray [(p_ a1 a2)]) 0) #[])
abbrev My.t15 (a1 a2:String) (a3 a4 a12:Nat) (x:Params):Obj:=(@Obj.mk (.type "function") none (@Data.func (@FuncData.mk (.ofString a1) (.ofString a2) (L2.defArgs (L2.inClass (My.top a3) a4)) (@FuncBody.stmts (L2.defBody (L2.inClass (My.top a3) a4))) (L2.defScope (L2.inClass (My.top a3) a4)) 3 (@List.nil (@Prod @Str @Nat)) .none .none .none (p_ "oddbases.ways" 442) none (r_ a12) .none 0)) #[])
abbrev My.t16 (a0 a1:String) (a2 a3:Nat) (x:Params):Obj:=(@Obj.mk .none none (@Data.func (@FuncData.mk (.ofString a0) (.ofString a1) (L2.defArgs (L2.inClass (My.top a2) a3)) (@FuncBody.stmts (L2.defBody (L2.inClass (My.top a2) a3))) (L2.defScope (L2.inClass (My.top a2) a3)) 0 (@List.nil (@Prod @Str @Nat)) .none .none .none .none none .none .none 0)) #[])
abbrev My.t17 (a1 a3:Nat) (a4:String) (a5:Nat) (x:Params):Obj:=(@Obj.mk (.type "frame") none @Data.plain (@List.toArray (@Option @Value) [(some (r_ a1)),(some (r_ 3)),(some (r_ a3)),none,(some (p_ a4 a5)),none,(some (r_ 0))]))
abbrev My.t18 (a1:String) (a2 a4 a6:Nat) (a7:Int) (a17 a20:Nat) (a21:Int) (a26:Nat) (x:Params):Obj:=(@Obj.mk (.type "code") none (@Data.fields (List.toArray [(p_ a1 a2),(p_ a1 a4),(p_ "/claim/cut.py" a6),(j_ a7 0),(j_ 0 0),(j_ 0 0),(j_ 0 0),(j_ 0 0),(r_ a17),(.bool @Bool.false),(j_ 181 0),(r_ a20),.none,.none,.none,.none,(j_ a21 0),(j_ a7 0),(p_ "/claim/cut.py" a26)])) #[])
abbrev My.t19 (a0 a2:Int) (a4:Nat) (a5:Int) (a9:Nat) (a10:Int) (a14:Nat) (a15:Int) (a19:Nat) (a20:Int) (a24:Nat) (a25:Int) (a29:Nat) (x:Params):Obj:=(@Obj.mk .none none (@Data.fields (List.toArray [(j_ a0 0),(j_ a2 0),(r_ a4),(j_ a5 0),(j_ a2 0),(r_ a9),(j_ a10 0),(j_ a2 0),(r_ a14),(j_ a15 0),(j_ a2 0),(r_ a19),(j_ a20 0),(j_ a2 0),(r_ a24),(j_ a25 0),(j_ a2 0),(r_ a29)])) #[])
abbrev My.t20 (a3 a8:Nat) (a9:String) (a10 a13:Nat) (a14:Int) (a15:Nat) (a16:String) (a18 a19:Nat) (a20:String) (a22 a23:Nat) (a24:String) (a26 a27:Nat) (a28:String) (a30 a31 a34 a35 a38 a39 a42 a43:Nat) (x:Params):Obj:=(@Obj.mk (.type "dict") none (@Data.dict (List.toArray [(e_ x "__module__" a3 (p_ "oddbases.ways" 442)),(e_ x "__qualname__" a8 (p_ a9 a10)),(e_ x "__firstlineno__" a13 (j_ a14 a15)),(e_ x a16 a18 (r_ a19)),(e_ x a20 a22 (r_ a23)),(e_ x a24 a26 (r_ a27)),(e_ x a28 a30 (r_ a31)),(e_ x "split" a34 (r_ a35)),(e_ x "has" a38 (r_ a39)),(e_ x "__static_attributes__" a42 (r_ a43))]) 10) #[])
abbrev My.t21 (x:Params):Obj:=(@Obj.mk (.type "builtin_function_or_method") none (@Data.fields (List.toArray [(.builtin "type.__prepare__"),(.type "type")])) #[])
abbrev My.t22 (a1:Nat) (x:Params):Obj:=(@Obj.mk (.type "tuple") none (@Data.seq (List.toArray [(r_ a1)]) 0) #[])
abbrev My.t23 (a3 a8:Nat) (a9:Int) (a10 a13 a14:Nat) (a15:String) (a17 a18:Nat) (a19:String) (a21 a22 a25 a26:Nat) (a27:String) (a29 a30 a33 a34 a37:Nat) (x:Params):Obj:=(@Obj.mk (.type "dict") none (@Data.dict (List.toArray [(e_ x "__module__" a3 (p_ "oddbases.ways" 442)),(e_ x "__firstlineno__" a8 (j_ a9 a10)),(e_ x "__init__" a13 (r_ a14)),(e_ x a15 a17 (r_ a18)),(e_ x a19 a21 (r_ a22)),(e_ x "ratio" a25 (r_ a26)),(e_ x a27 a29 (r_ a30)),(e_ x "__static_attributes__" a33 (r_ a34)),(e_ x "__doc__" a37 .none)]) 2) #[])
abbrev My.t24 (a0:Int) (a4:Nat) (a5:Int) (a9:Nat) (a10:Int) (a14:Nat) (a15:Int) (a19:Nat) (a20:Int) (a24:Nat) (x:Params):Obj:=(@Obj.mk .none none (@Data.fields (List.toArray [(j_ a0 0),(j_ 4 0),(r_ a4),(j_ a5 0),(j_ 4 0),(r_ a9),(j_ a10 0),(j_ 4 0),(r_ a14),(j_ a15 0),(j_ 4 0),(r_ a19),(j_ a20 0),(j_ 4 0),(r_ a24)])) #[])
abbrev My.t25 (a3 a8:Nat) (a9:String) (a10 a13:Nat) (a14:Int) (a15 a18 a19:Nat) (a20:String) (a22 a23:Nat) (a24:String) (a26 a27 a30 a31:Nat) (a32:String) (a34 a35 a38 a39:Nat) (x:Params):Obj:=(@Obj.mk (.type "dict") none (@Data.dict (List.toArray [(e_ x "__module__" a3 (p_ "oddbases.ways" 442)),(e_ x "__qualname__" a8 (p_ a9 a10)),(e_ x "__firstlineno__" a13 (j_ a14 a15)),(e_ x "__init__" a18 (r_ a19)),(e_ x a20 a22 (r_ a23)),(e_ x a24 a26 (r_ a27)),(e_ x "ratio" a30 (r_ a31)),(e_ x a32 a34 (r_ a35)),(e_ x "__static_attributes__" a38 (r_ a39))]) 9) #[])
abbrev My.t26 (a3 a8:Nat) (a9:Int) (a10 a13 a14 a17 a18 a21 a22 a25 a26 a29:Nat) (x:Params):Obj:=(@Obj.mk (.type "dict") none (@Data.dict (List.toArray [(e_ x "__module__" a3 (p_ "oddbases.ways" 442)),(e_ x "__firstlineno__" a8 (j_ a9 a10)),(e_ x "__init__" a13 (r_ a14)),(e_ x "high" a17 (r_ a18)),(e_ x "ratio" a21 (r_ a22)),(e_ x "__static_attributes__" a25 (r_ a26)),(e_ x "__doc__" a29 .none)]) 2) #[])
abbrev My.t27 (a0:Int) (a4:Nat) (a5:Int) (a9:Nat) (a10:Int) (a14:Nat) (x:Params):Obj:=(@Obj.mk .none none (@Data.fields (List.toArray [(j_ a0 0),(j_ 4 0),(r_ a4),(j_ a5 0),(j_ 4 0),(r_ a9),(j_ a10 0),(j_ 4 0),(r_ a14)])) #[])
abbrev My.t28 (a3 a8:Nat) (a9:String) (a10 a13:Nat) (a14:Int) (a15 a18 a19 a22 a23 a26 a27 a30 a31:Nat) (x:Params):Obj:=(@Obj.mk (.type "dict") none (@Data.dict (List.toArray [(e_ x "__module__" a3 (p_ "oddbases.ways" 442)),(e_ x "__qualname__" a8 (p_ a9 a10)),(e_ x "__firstlineno__" a13 (j_ a14 a15)),(e_ x "__init__" a18 (r_ a19)),(e_ x "high" a22 (r_ a23)),(e_ x "ratio" a26 (r_ a27)),(e_ x "__static_attributes__" a30 (r_ a31))]) 7) #[])
abbrev My.t29 (a2 a3:Nat) (x:Params):Obj:=(@Obj.mk (.type "getset_descriptor") none (@Data.fields (List.toArray [(p_ "__weakref__" a2),(r_ a3),(.builtin "ExceptionGroup.__weakref__"),.none])) #[])
abbrev My.t30 (a1:String) (a3 a9 a11 a13 a15:Nat) (x:Params):Obj:=(@Obj.mk (.type "type") none (@Data.cls (@ClassData.mk (.ofString a1) [(r_ 59)] [(r_ a3),(r_ 59),(.type "ValueError"),(.type "Exception"),(.type "BaseException"),(.type "object")] a9 (.ofString a1) @Bool.true [] [] @Bool.false (@Option.none @Bool) @Bool.false)) (@List.toArray (@Option @Value) [(some (r_ a11)),none,(some (p_ a1 a13)),(some (p_ a1 a15)),(some (.builtin "ValueError.__new__")),(some (.bool @Bool.true))]))
abbrev My.t31 (a3 a8:Nat) (a9:Int) (a10 a13 a14 a17:Nat) (x:Params):Obj:=(@Obj.mk (.type "dict") none (@Data.dict (List.toArray [(e_ x "__module__" a3 (p_ "oddbases.errors" 230)),(e_ x "__firstlineno__" a8 (j_ a9 a10)),(e_ x "__static_attributes__" a13 (r_ a14)),(e_ x "__doc__" a17 .none)]) 2) #[])
abbrev My.t32 (a3 a8:Nat) (a9:String) (a10 a13:Nat) (a14:Int) (a15 a18 a19:Nat) (x:Params):Obj:=(@Obj.mk (.type "dict") none (@Data.dict (List.toArray [(e_ x "__module__" a3 (p_ "oddbases.errors" 230)),(e_ x "__qualname__" a8 (p_ a9 a10)),(e_ x "__firstlineno__" a13 (j_ a14 a15)),(e_ x "__static_attributes__" a18 (r_ a19))]) 4) #[])
abbrev My.U41 (x:Params):DictEntry:=(e_ x "Way" 526 (r_ 265))
abbrev My.U40 (x:Params):DictEntry:=(e_ x "NoWay" 265 (r_ 72))
abbrev My.U39 (x:Params):DictEntry:=(e_ x "added" 219 (r_ 42))
abbrev My.U38 (x:Params):DictEntry:=(e_ x "__doc__" 166 .none)
abbrev My.U37 (x:Params):DictEntry:=(e_ x "Pairs" 846 (r_ 521))
abbrev My.U36 (x:Params):DictEntry:=(e_ x "Below" 616 (r_ 340))
abbrev My.U35 (x:Params):DictEntry:=(e_ x "Plain" 567 (r_ 300))
abbrev My.U34 (x:Params):DictEntry:=(e_ x "NoRow" 441 (r_ 204))
abbrev My.U33 (x:Params):DictEntry:=(e_ x "__spec__" 169 .none)
abbrev My.U32 (x:Params):DictEntry:=(e_ x "NoText" 425 (r_ 192))
abbrev My.U31 (x:Params):DictEntry:=(e_ x "NoSpan" 393 (r_ 168))
abbrev My.U30 (x:Params):DictEntry:=(e_ x "Nought" 377 (r_ 156))
abbrev My.U29 (x:Params):DictEntry:=(e_ x "as_pair" 209 (r_ 35))
abbrev My.U28 (x:Params):DictEntry:=(e_ x "is_pair" 202 (r_ 28))
abbrev My.U27 (x:Params):DictEntry:=(e_ x "Falling" 777 (r_ 467))
abbrev My.U26 (x:Params):DictEntry:=(e_ x "Growing" 714 (r_ 420))
abbrev My.U25 (x:Params):DictEntry:=(e_ x "bounded" 452 (r_ 213))
abbrev My.U24 (x:Params):DictEntry:=(e_ x "NoTotal" 409 (r_ 180))
abbrev My.U23 (x:Params):DictEntry:=(e_ x "NoPairs" 361 (r_ 144))
abbrev My.U22 (x:Params):DictEntry:=(e_ x "NoRatio" 329 (r_ 120))
abbrev My.U21 (x:Params):DictEntry:=(e_ x "TooLess" 313 (r_ 108))
abbrev My.U20 (x:Params):DictEntry:=(e_ x "NoNumber" 281 (r_ 84))
abbrev My.U19 (x:Params):DictEntry:=(e_ x "OddError" 249 (r_ 59))
abbrev My.U18 (x:Params):DictEntry:=(e_ x "is_whole" 195 (r_ 21))
abbrev My.U17 (x:Params):DictEntry:=(e_ x "__cached__" 174 .none)
abbrev My.U16 (x:Params):DictEntry:=(e_ x "Balanced" 673 (r_ 387))
abbrev My.U15 (x:Params):DictEntry:=(e_ x "NoWriting" 297 (r_ 96))
abbrev My.U14 (x:Params):DictEntry:=(e_ x "__package__" 167 .none)
abbrev My.U13 (x:Params):DictEntry:=(e_ x "NoFalling" 345 (r_ 132))
abbrev My.U12 (x:Params):DictEntry:=(e_ x "multiplied" 229 (r_ 49))
abbrev My.U11 (x:Params):DictEntry:=(e_ x "__builtins__" 171 (r_ 4))
abbrev My.U10 (x:Params):DictEntry:=(e_ x "__annotations__" 170 (r_ 6))
abbrev My.U9 (x:Params):DictEntry:=(e_ x "has_figures_alone" 899 (r_ 558))
abbrev My.U8 (x:Params):DictEntry:=(e_ x "written_by_weights" 947 (r_ 593))
abbrev My.U7 (x:Params):DictEntry:=(e_ x "held_to_be_writings" 925 (r_ 579))
abbrev My.U6 (x:Params):DictEntry:=(e_ x "figures_and_carries" 879 (r_ 544))
abbrev My.U5 (x:Params):DictEntry:=(e_ x "__name__" 165 (p_ "oddbases.ways" 442))
abbrev My.U4 (x:Params):DictEntry:=(e_ x "__file__" 173 (p_ "/claim/cut.py" 172))
abbrev My.U3 (x:Params):DictEntry:=(e_ x "__name__" 165 (p_ "oddbases.errors" 230))
abbrev My.U2 (x:Params):DictEntry:=(e_ x "has_mosts_above_noughts_alone" 908 (r_ 565))
abbrev My.U1 (x:Params):DictEntry:=(e_ x "__loader__" 168 (.builtin "__main__.__loader__#opaque"))
abbrev My.U0 (x:Params):DictEntry:=(e_ x "__name__" 165 (p_ "law_oddbases_k52_moved_refused" 975))
def My.o801:=t0 "law" 59 "law_oddbases_k52_moved_refused" 975 702
def My.o800:=t1 "law" 1096 "law" 1097 1098 363 1 697 698 699 700 701 1112 1113
def My.o799:=t2 "law" 59
def My.o798:=t3
def My.o797 (x:Params):Obj:=(@Obj.mk (.type "tuple") none (@Data.seq (List.toArray [(p_ "_law_script" 1099),(p_ "_law_name" 1100),(p_ "_law_number" 1101),(p_ "_law_part" 1102),(p_ "_law_other_name" 1103),(p_ "_law_other_number" 1104),(p_ "_law_row" 1105),(p_ "_law_due" 1106),(p_ "_law_pair" 1107),(p_ "_law_handed" 1108),(p_ "_law_way_here" 1109),(p_ "_law_names_here" 1110),(p_ "_law_found" 1111)]) 0) #[])
def My.o796:=t4
def My.o794:=t0 "_law_asked" 58 "law_oddbases_k52_moved_refused" 975 695
def My.o793:=t1 "_law_asked" 1084 "_law_asked" 1085 1086 353 3 690 691 692 693 694 1093 1094
def My.o792:=t2 "_law_asked" 58
def My.o790:=t5 "_law_way_here" 1087 "_law_row" 1088 "_law_other" 1089 "_law_error" 1090 "_law_found" 1091 "_law_e" 1092
def My.o787:=t0 "_law_names" 57 "law_oddbases_k52_moved_refused" 975 688
def My.o786 (x:Params):Obj:=(@Obj.mk (.type "code") none (@Data.fields (List.toArray [(p_ "_law_names" 1078),(p_ "_law_names" 1079),(p_ "/claim/cut.py" 1080),(j_ 344 0),(j_ 1 0),(j_ 0 0),(j_ 0 0),(j_ 3 0),(r_ 685),(.bool @Bool.true),(j_ 181 0),(r_ 686),.none,.none,.none,(r_ 687),(j_ 1081 0),(j_ 344 0),(p_ "/claim/cut.py" 1082)])) #[])
def My.o785:=t2 "_law_names" 57
def My.o780:=t0 "_law_spoilt" 56 "law_oddbases_k52_moved_refused" 975 683
def My.o779:=t1 "_law_spoilt" 1066 "_law_spoilt" 1067 1068 336 4 678 679 680 681 682 1075 1076
def My.o778:=t2 "_law_spoilt" 56
def My.o776:=t5 "_law_name" 1069 "_law_number" 1070 "_law_row" 1071 "_law_cell" 1072 "_law_at" 1073 "_law_beyond" 1074
def My.o773:=t0 "_law_row_by" 55 "law_oddbases_k52_moved_refused" 975 676
def My.o772:=t1 "_law_row_by" 1054 "_law_row_by" 1055 1056 325 3 671 672 673 674 675 1063 1064
def My.o771:=t2 "_law_row_by" 55
def My.o769:=t5 "_law_name" 1057 "_law_number" 1058 "_law_cells" 1059 "_law_row" 1060 "_law_place" 1061 "_law_low_here" 1062
def My.o766:=t0 "_law_pair_of" 54 "law_oddbases_k52_moved_refused" 975 669
def My.o765:=t1 "_law_pair_of" 1040 "_law_pair_of" 1041 1042 315 3 664 665 666 667 668 1051 1052
def My.o764:=t2 "_law_pair_of" 54
def My.o762 (x:Params):Obj:=(@Obj.mk (.type "tuple") none (@Data.seq (List.toArray [(p_ "_law_name" 1043),(p_ "_law_number" 1044),(p_ "_law_row" 1045),(p_ "_law_found" 1046),(p_ "_law_here" 1047),(p_ "_law_lower" 1048),(p_ "_law_place" 1049),(p_ "_law_after" 1050)]) 0) #[])
def My.o759:=t0 "_law_next" 53 "law_oddbases_k52_moved_refused" 975 662
def My.o758:=t1 "_law_next" 1029 "_law_next" 1030 1031 303 5 657 658 659 660 661 1037 1038
def My.o757:=t2 "_law_next" 53
def My.o755:=t6 "_law_name" 1032 "_law_number" 1033 "_law_place" 1034 "_law_here" 1035 "_law_lower" 1036
def My.o752:=t0 "_law_is_writing" 52 "law_oddbases_k52_moved_refused" 975 655
def My.o751:=t1 "_law_is_writing" 1019 "_law_is_writing" 1020 1021 292 3 650 651 652 653 654 1026 1027
def My.o750:=t2 "_law_is_writing" 52
def My.o748:=t7 "_law_name" 1022 "_law_number" 1023 "_law_row" 1024 "_law_place" 1025
def My.o745:=t0 "_law_high" 51 "law_oddbases_k52_moved_refused" 975 648
def My.o744:=t1 "_law_high" 1010 "_law_high" 1011 1012 284 3 643 644 645 646 647 1016 1017
def My.o743:=t2 "_law_high" 51
def My.o741:=t8 "_law_name" 1013 "_law_number" 1014 "_law_place" 1015
def My.o738:=t0 "_law_low" 50 "law_oddbases_k52_moved_refused" 975 641
def My.o737:=t1 "_law_low" 1002 "_law_low" 1003 1004 280 2 636 637 638 639 640 1007 1008
def My.o736:=t2 "_law_low" 50
def My.o734:=t9 "_law_name" 1005 "_law_number" 1006
def My.o731:=t0 "_law_way" 49 "law_oddbases_k52_moved_refused" 975 634
def My.o730:=t1 "_law_way" 994 "_law_way" 995 996 268 2 629 630 631 632 633 999 1000
def My.o729:=t2 "_law_way" 49
def My.o727:=t9 "_law_name" 997 "_law_number" 998
def My.o724:=t0 "_law_chosen" 48 "law_oddbases_k52_moved_refused" 975 627
def My.o723:=t1 "_law_chosen" 985 "_law_chosen" 986 987 260 1 622 623 624 625 626 991 992
def My.o722:=t2 "_law_chosen" 48
def My.o720:=t8 "_law_cell" 988 "_law_name" 989 "_law_part" 990
def My.o717:=t0 "_law_cell_at" 47 "law_oddbases_k52_moved_refused" 975 620
def My.o716:=t1 "_law_cell_at" 977 "_law_cell_at" 978 979 256 2 615 616 617 618 619 982 983
def My.o715:=t2 "_law_cell_at" 47
def My.o713:=t9 "_law_script" 980 "_law_k" 981
def My.o710:=t0 "moved" 45 "oddbases.moving" 956 613
def My.o709:=t1 "moved" 966 "moved" 967 968 252 3 608 609 610 611 612 972 973
def My.o708:=t2 "moved" 45
def My.o706:=t8 "way" 969 "row" 970 "other" 971
def My.o703:=t0 "as_wanted" 44 "oddbases.moving" 956 606
def My.o702:=t1 "as_wanted" 958 "as_wanted" 959 960 246 2 601 602 603 604 605 963 964
def My.o701:=t2 "as_wanted" 44
def My.o699:=t9 "way" 961 "number" 962
def My.o694:=t0 "written" 42 "oddbases.writings" 888 599
def My.o693:=t1 "written" 948 "written" 949 950 239 2 594 595 596 597 598 953 954
def My.o692:=t2 "written" 42
def My.o690:=t9 "way" 951 "number" 952
def My.o687:=t0 "written_by_weights" 41 "oddbases.writings" 888 592
def My.o686:=t1 "written_by_weights" 937 "written_by_weights" 938 939 231 2 587 588 589 590 591 945 946
def My.o685:=t2 "written_by_weights" 41
def My.o683:=t6 "way" 940 "number" 941 "figures" 942 "rest" 943 "weight" 944
def My.o680:=t0 "worth" 40 "oddbases.writings" 888 585
def My.o679:=t1 "worth" 926 "worth" 927 928 226 2 580 581 582 583 584 934 935
def My.o678:=t2 "worth" 40
def My.o676:=t6 "way" 929 "row" 930 "number" 931 "thing" 932 "weight" 933
def My.o673:=t0 "held_to_be_writings" 39 "oddbases.writings" 888 578
def My.o672:=t1 "held_to_be_writings" 917 "held_to_be_writings" 918 919 222 2 573 574 575 576 577 923 924
def My.o671:=t2 "held_to_be_writings" 39
def My.o669:=t8 "way" 920 "rows" 921 "row" 922
def My.o666:=t0 "is_writing" 38 "oddbases.writings" 888 571
def My.o665:=t1 "is_writing" 909 "is_writing" 910 911 216 2 566 567 568 569 570 914 915
def My.o664:=t2 "is_writing" 38
def My.o662:=t9 "way" 912 "row" 913
def My.o659:=t0 "has_mosts_above_noughts_alone" 37 "oddbases.writings" 888 564
def My.o658:=t1 "has_mosts_above_noughts_alone" 900 "has_mosts_above_noughts_alone" 901 902 211 2 559 560 561 562 563 906 907
def My.o657:=t2 "has_mosts_above_noughts_alone" 37
def My.o655:=t8 "way" 903 "row" 904 "place" 905
def My.o652:=t0 "has_figures_alone" 36 "oddbases.writings" 888 557
def My.o651:=t1 "has_figures_alone" 890 "has_figures_alone" 891 892 206 2 552 553 554 555 556 897 898
def My.o650:=t2 "has_figures_alone" 36
def My.o648:=t7 "way" 893 "row" 894 "place" 895 "thing" 896
def My.o645:=t0 "settled" 34 "oddbases.settling" 865 550
def My.o644:=t1 "settled" 880 "settled" 881 882 203 2 545 546 547 548 549 885 886
def My.o643:=t2 "settled" 34
def My.o641:=t9 "way" 883 "totals" 884
def My.o638:=t0 "figures_and_carries" 33 "oddbases.settling" 865 543
def My.o637:=t1 "figures_and_carries" 867 "figures_and_carries" 868 869 188 2 538 539 540 541 542 877 878
def My.o636:=t2 "figures_and_carries" 33
def My.o634:=t10 "way" 870 "totals" 871 "figures" 872 "carry" 873 "found" 874 "place" 875 "parts" 876
def My.o631:=t0 "trimmed" 31 "oddbases.rows" 847 536
def My.o630:=t1 "trimmed" 857 "trimmed" 858 859 182 1 531 532 533 534 535 862 863
def My.o629:=t2 "trimmed" 31
def My.o627:=t9 "row" 860 "things" 861
def My.o624:=t0 "thing_at" 30 "oddbases.rows" 847 529
def My.o623:=t1 "thing_at" 849 "thing_at" 850 851 178 2 524 525 526 527 528 854 855
def My.o622:=t2 "thing_at" 30
def My.o620:=t9 "row" 852 "place" 853
def My.o615:=t11 521
def My.o614:=t12 521
def My.o613:=t13 "Pairs" 521 520 470 778 786
def My.o612 (x:Params):Obj:=(@Obj.mk (.type "dict") none (@Data.dict (List.toArray [(e_ x "__module__" 785 (p_ "oddbases.ways" 442)),(e_ x "__firstlineno__" 789 (j_ 154 788)),(e_ x "__init__" 797 (r_ 483)),(e_ x "nought" 804 (r_ 490)),(e_ x "high" 812 (r_ 497)),(e_ x "ratio" 820 (r_ 504)),(e_ x "split" 833 (r_ 511)),(e_ x "has" 841 (r_ 518)),(e_ x "__static_attributes__" 843 (r_ 519)),(e_ x "__doc__" 844 .none)]) 2) #[])
def My.o611:=t14 "most" 842
def My.o610:=t15 "has" "Pairs.has" 28 5 517
def My.o609:=t1 "has" 834 "Pairs.has" 835 836 175 2 512 513 514 515 516 839 840
def My.o608:=t16 "has" "Pairs.has" 28 5
def My.o606:=t9 "self" 837 "number" 838
def My.o603:=t15 "split" "Pairs.split" 28 4 510
def My.o602:=t1 "split" 821 "Pairs.split" 822 823 168 3 505 506 507 508 509 831 832
def My.o601:=t16 "split" "Pairs.split" 28 4
def My.o599:=t10 "self" 824 "total" 825 "place" 826 "pair" 827 "figures" 828 "figure" 829 "turned" 830
def My.o596:=t15 "ratio" "Pairs.ratio" 28 3 503
def My.o595:=t1 "ratio" 813 "Pairs.ratio" 814 815 165 2 498 499 500 501 502 818 819
def My.o594:=t16 "ratio" "Pairs.ratio" 28 3
def My.o592:=t9 "self" 816 "place" 817
def My.o589:=t15 "high" "Pairs.high" 28 2 496
def My.o588:=t1 "high" 805 "Pairs.high" 806 807 162 2 491 492 493 494 495 810 811
def My.o587:=t16 "high" "Pairs.high" 28 2
def My.o585:=t9 "self" 808 "place" 809
def My.o582:=t15 "nought" "Pairs.nought" 28 1 489
def My.o581:=t1 "nought" 798 "Pairs.nought" 799 800 159 1 484 485 486 487 488 802 803
def My.o580:=t16 "nought" "Pairs.nought" 28 1
def My.o578:=t14 "self" 801
def My.o575:=t15 "__init__" "Pairs.__init__" 28 0 482
def My.o574:=t1 "__init__" 790 "Pairs.__init__" 791 792 156 2 477 478 479 480 481 795 796
def My.o573:=t16 "__init__" "Pairs.__init__" 28 0
def My.o571:=t9 "self" 793 "most" 794
def My.o568:=t17 475 472 "oddbases.ways" 442
def My.o567:=t18 "Pairs" 780 781 782 154 473 474 783 784
def My.o566:=t19 156 4 482 159 489 162 496 165 503 168 510 175 517
def My.o564:=t20 785 787 "Pairs" 786 789 154 788 "__init__" 797 483 "nought" 804 490 "high" 812 497 "ratio" 820 504 833 511 841 518 843 519
def My.o563:=t21
def My.o562:=t22 265
def My.o558:=t11 467
def My.o557:=t12 467
def My.o556:=t13 "Falling" 467 466 423 715 723
def My.o555:=t23 722 726 130 725 734 436 "high" 742 443 "weights" 755 450 763 457 "split" 772 464 774 465 775
def My.o554:=t14 "most" 773
def My.o553:=t15 "split" "Falling.split" 27 4 463
def My.o552:=t1 "split" 764 "Falling.split" 765 766 152 3 458 459 460 461 462 770 771
def My.o551:=t16 "split" "Falling.split" 27 4
def My.o549:=t8 "self" 767 "total" 768 "place" 769
def My.o546:=t15 "ratio" "Falling.ratio" 27 3 456
def My.o545:=t1 "ratio" 756 "Falling.ratio" 757 758 149 2 451 452 453 454 455 761 762
def My.o544:=t16 "ratio" "Falling.ratio" 27 3
def My.o542:=t9 "self" 759 "place" 760
def My.o539:=t15 "weights" "Falling.weights" 27 2 449
def My.o538:=t1 "weights" 743 "Falling.weights" 744 745 138 2 444 445 446 447 448 753 754
def My.o537:=t16 "weights" "Falling.weights" 27 2
def My.o535:=t10 "self" 746 "many" 747 "weights" 748 "ahead" 749 "weight" 750 "place" 751 "following" 752
def My.o532:=t15 "high" "Falling.high" 27 1 442
def My.o531:=t1 "high" 735 "Falling.high" 736 737 135 2 437 438 439 440 441 740 741
def My.o530:=t16 "high" "Falling.high" 27 1
def My.o528:=t9 "self" 738 "place" 739
def My.o525:=t15 "__init__" "Falling.__init__" 27 0 435
def My.o524:=t1 "__init__" 727 "Falling.__init__" 728 729 132 2 430 431 432 433 434 732 733
def My.o523:=t16 "__init__" "Falling.__init__" 27 0
def My.o521:=t9 "self" 730 "most" 731
def My.o518:=t17 428 425 "oddbases.ways" 442
def My.o517:=t18 "Falling" 717 718 719 130 426 427 720 721
def My.o516:=t24 132 435 135 442 138 449 149 456 152 463
def My.o514:=t25 722 724 "Falling" 723 726 130 725 734 436 "high" 742 443 "weights" 755 450 763 457 "split" 772 464 774 465
def My.o508:=t11 420
def My.o507:=t12 420
def My.o506:=t13 "Growing" 420 419 390 674 682
def My.o505:=t26 681 685 120 684 693 403 701 410 709 417 711 418 712
def My.o504:=t14 "first" 710
def My.o503:=t15 "ratio" "Growing.ratio" 26 2 416
def My.o502:=t1 "ratio" 702 "Growing.ratio" 703 704 128 2 411 412 413 414 415 707 708
def My.o501:=t16 "ratio" "Growing.ratio" 26 2
def My.o499:=t9 "self" 705 "place" 706
def My.o496:=t15 "high" "Growing.high" 26 1 409
def My.o495:=t1 "high" 694 "Growing.high" 695 696 125 2 404 405 406 407 408 699 700
def My.o494:=t16 "high" "Growing.high" 26 1
def My.o492:=t9 "self" 697 "place" 698
def My.o489:=t15 "__init__" "Growing.__init__" 26 0 402
def My.o488:=t1 "__init__" 686 "Growing.__init__" 687 688 122 2 397 398 399 400 401 691 692
def My.o487:=t16 "__init__" "Growing.__init__" 26 0
def My.o485:=t9 "self" 689 "first" 690
def My.o482:=t17 395 392 "oddbases.ways" 442
def My.o481:=t18 "Growing" 676 677 678 120 393 394 679 680
def My.o480:=t27 122 402 125 409 128 416
def My.o478:=t28 681 683 "Growing" 682 685 120 684 693 403 701 410 709 417 711 418
def My.o472:=t11 387
def My.o471:=t12 387
def My.o470:=t13 "Balanced" 387 386 343 617 625
def My.o469:=t23 624 628 104 627 636 356 "low" 644 363 "high" 652 370 660 377 "has" 668 384 670 385 671
def My.o468:=t14 "half" 669
def My.o467:=t15 "has" "Balanced.has" 25 4 383
def My.o466:=t1 "has" 661 "Balanced.has" 662 663 118 2 378 379 380 381 382 666 667
def My.o465:=t16 "has" "Balanced.has" 25 4
def My.o463:=t9 "self" 664 "number" 665
def My.o460:=t15 "ratio" "Balanced.ratio" 25 3 376
def My.o459:=t1 "ratio" 653 "Balanced.ratio" 654 655 115 2 371 372 373 374 375 658 659
def My.o458:=t16 "ratio" "Balanced.ratio" 25 3
def My.o456:=t9 "self" 656 "place" 657
def My.o453:=t15 "high" "Balanced.high" 25 2 369
def My.o452:=t1 "high" 645 "Balanced.high" 646 647 112 2 364 365 366 367 368 650 651
def My.o451:=t16 "high" "Balanced.high" 25 2
def My.o449:=t9 "self" 648 "place" 649
def My.o446:=t15 "low" "Balanced.low" 25 1 362
def My.o445:=t1 "low" 637 "Balanced.low" 638 639 109 2 357 358 359 360 361 642 643
def My.o444:=t16 "low" "Balanced.low" 25 1
def My.o442:=t9 "self" 640 "place" 641
def My.o439:=t15 "__init__" "Balanced.__init__" 25 0 355
def My.o438:=t1 "__init__" 629 "Balanced.__init__" 630 631 106 2 350 351 352 353 354 634 635
def My.o437:=t16 "__init__" "Balanced.__init__" 25 0
def My.o435:=t9 "self" 632 "half" 633
def My.o432:=t17 348 345 "oddbases.ways" 442
def My.o431:=t18 "Balanced" 619 620 621 104 346 347 622 623
def My.o430:=t24 106 355 109 362 112 369 115 376 118 383
def My.o428:=t25 624 626 "Balanced" 625 628 104 627 636 356 "low" 644 363 "high" 652 370 660 377 "has" 668 384 670 385
def My.o422:=t11 340
def My.o421:=t12 340
def My.o420:=t13 "Below" 340 339 303 568 576
def My.o419 (x:Params):Obj:=(@Obj.mk (.type "dict") none (@Data.dict (List.toArray [(e_ x "__module__" 575 (p_ "oddbases.ways" 442)),(e_ x "__firstlineno__" 579 (j_ 91 578)),(e_ x "__init__" 587 (r_ 316)),(e_ x "high" 595 (r_ 323)),(e_ x "ratio" 603 (r_ 330)),(e_ x "has" 611 (r_ 337)),(e_ x "__static_attributes__" 613 (r_ 338)),(e_ x "__doc__" 614 .none)]) 2) #[])
def My.o418:=t14 "base" 612
def My.o417:=t15 "has" "Below.has" 24 3 336
def My.o416:=t1 "has" 604 "Below.has" 605 606 102 2 331 332 333 334 335 609 610
def My.o415:=t16 "has" "Below.has" 24 3
def My.o413:=t9 "self" 607 "number" 608
def My.o410:=t15 "ratio" "Below.ratio" 24 2 329
def My.o409:=t1 "ratio" 596 "Below.ratio" 597 598 99 2 324 325 326 327 328 601 602
def My.o408:=t16 "ratio" "Below.ratio" 24 2
def My.o406:=t9 "self" 599 "place" 600
def My.o403:=t15 "high" "Below.high" 24 1 322
def My.o402:=t1 "high" 588 "Below.high" 589 590 96 2 317 318 319 320 321 593 594
def My.o401:=t16 "high" "Below.high" 24 1
def My.o399:=t9 "self" 591 "place" 592
def My.o396:=t15 "__init__" "Below.__init__" 24 0 315
def My.o395:=t1 "__init__" 580 "Below.__init__" 581 582 93 2 310 311 312 313 314 585 586
def My.o394:=t16 "__init__" "Below.__init__" 24 0
def My.o392:=t9 "self" 583 "base" 584
def My.o389:=t17 308 305 "oddbases.ways" 442
def My.o388:=t18 "Below" 570 571 572 91 306 307 573 574
def My.o387 (x:Params):Obj:=(@Obj.mk .none none (@Data.fields (List.toArray [(j_ 93 0),(j_ 4 0),(r_ 315),(j_ 96 0),(j_ 4 0),(r_ 322),(j_ 99 0),(j_ 4 0),(r_ 329),(j_ 102 0),(j_ 4 0),(r_ 336)])) #[])
def My.o385 (x:Params):Obj:=(@Obj.mk (.type "dict") none (@Data.dict (List.toArray [(e_ x "__module__" 575 (p_ "oddbases.ways" 442)),(e_ x "__qualname__" 577 (p_ "Below" 576)),(e_ x "__firstlineno__" 579 (j_ 91 578)),(e_ x "__init__" 587 (r_ 316)),(e_ x "high" 595 (r_ 323)),(e_ x "ratio" 603 (r_ 330)),(e_ x "has" 611 (r_ 337)),(e_ x "__static_attributes__" 613 (r_ 338))]) 8) #[])
def My.o379:=t11 300
def My.o378:=t12 300
def My.o377:=t13 "Plain" 300 299 270 527 535
def My.o376:=t26 534 538 81 537 546 283 554 290 562 297 564 298 565
def My.o375:=t14 "base" 563
def My.o374:=t15 "ratio" "Plain.ratio" 23 2 296
def My.o373:=t1 "ratio" 555 "Plain.ratio" 556 557 89 2 291 292 293 294 295 560 561
def My.o372:=t16 "ratio" "Plain.ratio" 23 2
def My.o370:=t9 "self" 558 "place" 559
def My.o367:=t15 "high" "Plain.high" 23 1 289
def My.o366:=t1 "high" 547 "Plain.high" 548 549 86 2 284 285 286 287 288 552 553
def My.o365:=t16 "high" "Plain.high" 23 1
def My.o363:=t9 "self" 550 "place" 551
def My.o360:=t15 "__init__" "Plain.__init__" 23 0 282
def My.o359:=t1 "__init__" 539 "Plain.__init__" 540 541 83 2 277 278 279 280 281 544 545
def My.o358:=t16 "__init__" "Plain.__init__" 23 0
def My.o356:=t9 "self" 542 "base" 543
def My.o353:=t17 275 272 "oddbases.ways" 442
def My.o352:=t18 "Plain" 529 530 531 81 273 274 532 533
def My.o351:=t27 83 282 86 289 89 296
def My.o349:=t28 534 536 "Plain" 535 538 81 537 546 283 554 290 562 297 564 298
def My.o343:=t11 265
def My.o342:=t12 265
def My.o341:=t29 522 265
def My.o340 (x:Params):Obj:=(@Obj.mk (.type "getset_descriptor") none (@Data.fields (List.toArray [(p_ "__dict__" 520),(r_ 265),(.builtin "function.__dict__"),(.builtin "function.__dict__#set")])) #[])
def My.o561 (x:Params):Obj:=(@Obj.mk (.type "type") none (@Data.cls (@ClassData.mk (.ofString "Way") [(.type "object")] [(r_ 265),(.type "object")] 264 (.ofString "Way") @Bool.true [] [(r_ 300),(r_ 340),(r_ 387),(r_ 420),(r_ 467),(r_ 521)] @Bool.false (@Option.none @Bool) @Bool.false)) (@List.toArray (@Option @Value) [none,none,(some (p_ "Way" 453)),(some (p_ "Way" 461)),(some (.builtin "object.__new__")),(some (.bool @Bool.true))]))
def My.o338 (x:Params):Obj:=(@Obj.mk (.type "dict") none (@Data.dict (List.toArray [(e_ x "__module__" 460 (p_ "oddbases.ways" 442)),(e_ x "__firstlineno__" 464 (j_ 54 463)),(e_ x "nought" 471 (r_ 227)),(e_ x "low" 479 (r_ 234)),(e_ x "weights" 490 (r_ 241)),(e_ x "weight" 498 (r_ 248)),(e_ x "split" 510 (r_ 255)),(e_ x "has" 518 (r_ 262)),(e_ x "__static_attributes__" 519 (r_ 263)),(e_ x "__dict__" 521 (r_ 266)),(e_ x "__weakref__" 523 (r_ 267)),(e_ x "__doc__" 524 .none)]) 4) #[])
def My.o336:=t15 "has" "Way.has" 22 5 261
def My.o335:=t1 "has" 511 "Way.has" 512 513 79 2 256 257 258 259 260 516 517
def My.o334:=t16 "has" "Way.has" 22 5
def My.o332:=t9 "self" 514 "number" 515
def My.o329:=t15 "split" "Way.split" 22 4 254
def My.o328:=t1 "split" 499 "Way.split" 500 501 73 3 249 250 251 252 253 508 509
def My.o327:=t16 "split" "Way.split" 22 4
def My.o325:=t5 "self" 502 "total" 503 "place" 504 "low" 505 "figures" 506 "figure" 507
def My.o322:=t15 "weight" "Way.weight" 22 3 247
def My.o321:=t1 "weight" 491 "Way.weight" 492 493 70 2 242 243 244 245 246 496 497
def My.o320:=t16 "weight" "Way.weight" 22 3
def My.o318:=t9 "self" 494 "place" 495
def My.o315:=t15 "weights" "Way.weights" 22 2 240
def My.o314:=t1 "weights" 480 "Way.weights" 481 482 62 2 235 236 237 238 239 488 489
def My.o313:=t16 "weights" "Way.weights" 22 2
def My.o311:=t6 "self" 483 "many" 484 "weights" 485 "weight" 486 "place" 487
def My.o308:=t15 "low" "Way.low" 22 1 233
def My.o307:=t1 "low" 472 "Way.low" 473 474 59 2 228 229 230 231 232 477 478
def My.o306:=t16 "low" "Way.low" 22 1
def My.o304:=t9 "self" 475 "place" 476
def My.o301:=t15 "nought" "Way.nought" 22 0 226
def My.o300:=t1 "nought" 465 "Way.nought" 466 467 56 1 221 222 223 224 225 469 470
def My.o299:=t16 "nought" "Way.nought" 22 0
def My.o297:=t14 "self" 468
def My.o294:=t17 219 216 "oddbases.ways" 442
def My.o293:=t18 "Way" 455 456 457 54 217 218 458 459
def My.o292:=t19 56 4 226 59 233 62 240 70 247 73 254 79 261
def My.o290:=t20 460 462 "Way" 461 464 54 463 "nought" 471 227 "low" 479 234 "weights" 490 241 "weight" 498 248 510 255 518 262 519 263
def My.o285:=t0 "bounded" 21 "oddbases.ways" 442 212
def My.o284:=t1 "bounded" 444 "bounded" 445 446 50 3 207 208 209 210 211 450 451
def My.o283:=t2 "bounded" 21
def My.o281:=t8 "number" 447 "least" 448 "most" 449
def My.o278:=t11 204
def My.o277:=t12 204
def My.o276:=t30 "NoRow" 204 203 195 426 434
def My.o275:=t31 433 437 47 436 438 202 439
def My.o273:=t17 200 197 "oddbases.errors" 230
def My.o272:=t18 "NoRow" 428 429 430 47 198 199 431 432
def My.o269:=t32 433 435 "NoRow" 434 437 47 436 438 202
def My.o267:=t22 59
def My.o263:=t11 192
def My.o262:=t12 192
def My.o261:=t30 "NoText" 192 191 183 410 418
def My.o260:=t31 417 421 45 420 422 190 423
def My.o258:=t17 188 185 "oddbases.errors" 230
def My.o257:=t18 "NoText" 412 413 414 45 186 187 415 416
def My.o254:=t32 417 419 "NoText" 418 421 45 420 422 190
def My.o248:=t11 180
def My.o247:=t12 180
def My.o246:=t30 "NoTotal" 180 179 171 394 402
def My.o245:=t31 401 405 43 404 406 178 407
def My.o243:=t17 176 173 "oddbases.errors" 230
def My.o242:=t18 "NoTotal" 396 397 398 43 174 175 399 400
def My.o239:=t32 401 403 "NoTotal" 402 405 43 404 406 178
def My.o233:=t11 168
def My.o232:=t12 168
def My.o231:=t30 "NoSpan" 168 167 159 378 386
def My.o230:=t31 385 389 41 388 390 166 391
def My.o228:=t17 164 161 "oddbases.errors" 230
def My.o227:=t18 "NoSpan" 380 381 382 41 162 163 383 384
def My.o224:=t32 385 387 "NoSpan" 386 389 41 388 390 166
def My.o218:=t11 156
def My.o217:=t12 156
def My.o216:=t30 "Nought" 156 155 147 362 370
def My.o215:=t31 369 373 39 372 374 154 375
def My.o213:=t17 152 149 "oddbases.errors" 230
def My.o212:=t18 "Nought" 364 365 366 39 150 151 367 368
def My.o209:=t32 369 371 "Nought" 370 373 39 372 374 154
def My.o203:=t11 144
def My.o202:=t12 144
def My.o201:=t30 "NoPairs" 144 143 135 346 354
def My.o200:=t31 353 357 37 356 358 142 359
def My.o198:=t17 140 137 "oddbases.errors" 230
def My.o197:=t18 "NoPairs" 348 349 350 37 138 139 351 352
def My.o194:=t32 353 355 "NoPairs" 354 357 37 356 358 142
def My.o188:=t11 132
def My.o187:=t12 132
def My.o186:=t30 "NoFalling" 132 131 123 330 338
def My.o185:=t31 337 341 35 340 342 130 343
def My.o183:=t17 128 125 "oddbases.errors" 230
def My.o182:=t18 "NoFalling" 332 333 334 35 126 127 335 336
def My.o179:=t32 337 339 "NoFalling" 338 341 35 340 342 130
def My.o173:=t11 120
def My.o172:=t12 120
def My.o171:=t30 "NoRatio" 120 119 111 314 322
def My.o170:=t31 321 325 33 324 326 118 327
def My.o168:=t17 116 113 "oddbases.errors" 230
def My.o167:=t18 "NoRatio" 316 317 318 33 114 115 319 320
def My.o164:=t32 321 323 "NoRatio" 322 325 33 324 326 118
def My.o158:=t11 108
def My.o157:=t12 108
def My.o156:=t30 "TooLess" 108 107 99 298 306
def My.o155:=t31 305 309 31 308 310 106 311
def My.o153:=t17 104 101 "oddbases.errors" 230
def My.o152:=t18 "TooLess" 300 301 302 31 102 103 303 304
def My.o149:=t32 305 307 "TooLess" 306 309 31 308 310 106
def My.o143:=t11 96
def My.o142:=t12 96
def My.o141:=t30 "NoWriting" 96 95 87 282 290
def My.o140:=t31 289 293 29 292 294 94 295
def My.o138:=t17 92 89 "oddbases.errors" 230
def My.o137:=t18 "NoWriting" 284 285 286 29 90 91 287 288
def My.o134:=t32 289 291 "NoWriting" 290 293 29 292 294 94
def My.o128:=t11 84
def My.o127:=t12 84
def My.o126:=t30 "NoNumber" 84 83 75 266 274
def My.o125:=t31 273 277 27 276 278 82 279
def My.o123:=t17 80 77 "oddbases.errors" 230
def My.o122:=t18 "NoNumber" 268 269 270 27 78 79 271 272
def My.o119:=t32 273 275 "NoNumber" 274 277 27 276 278 82
def My.o113:=t11 72
def My.o112:=t12 72
def My.o111:=t30 "NoWay" 72 71 63 250 258
def My.o110:=t31 257 261 25 260 262 70 263
def My.o108:=t17 68 65 "oddbases.errors" 230
def My.o107:=t18 "NoWay" 252 253 254 25 66 67 255 256
def My.o104:=t32 257 259 "NoWay" 258 261 25 260 262 70
def My.o98:=t11 59
def My.o97:=t12 59
def My.o96:=t29 245 59
def My.o266 (x:Params):Obj:=(@Obj.mk (.type "type") none (@Data.cls (@ClassData.mk (.ofString "OddError") [(.type "ValueError")] [(r_ 59),(.type "ValueError"),(.type "Exception"),(.type "BaseException"),(.type "object")] 58 (.ofString "OddError") @Bool.true [] [(r_ 72),(r_ 84),(r_ 96),(r_ 108),(r_ 120),(r_ 132),(r_ 144),(r_ 156),(r_ 168),(r_ 180),(r_ 192),(r_ 204)] @Bool.false (@Option.none @Bool) @Bool.false)) (@List.toArray (@Option @Value) [(some (r_ 50)),none,(some (p_ "OddError" 232)),(some (p_ "OddError" 240)),(some (.builtin "ValueError.__new__")),(some (.bool @Bool.true))]))
def My.o94 (x:Params):Obj:=(@Obj.mk (.type "dict") none (@Data.dict (List.toArray [(e_ x "__module__" 239 (p_ "oddbases.errors" 230)),(e_ x "__firstlineno__" 243 (j_ 23 242)),(e_ x "__static_attributes__" 244 (r_ 57)),(e_ x "__weakref__" 246 (r_ 60)),(e_ x "__doc__" 247 .none)]) 3) #[])
def My.o92:=t17 55 52 "oddbases.errors" 230
def My.o91:=t18 "OddError" 234 235 236 23 53 54 237 238
def My.o88:=t32 239 241 "OddError" 240 243 23 242 244 57
def My.o86 (x:Params):Obj:=(@Obj.mk (.type "tuple") none (@Data.seq (List.toArray [(.type "ValueError")]) 0) #[])
def My.o85:=t0 "multiplied" 5 "oddbases.pairs" 187 48
def My.o84:=t1 "multiplied" 220 "multiplied" 221 222 16 2 43 44 45 46 47 227 228
def My.o83:=t2 "multiplied" 5
def My.o81:=t7 "one" 223 "other" 224 "left" 225 "right" 226
def My.o78:=t0 "added" 4 "oddbases.pairs" 187 41
def My.o77:=t1 "added" 210 "added" 211 212 10 2 36 37 38 39 40 217 218
def My.o76:=t2 "added" 4
def My.o74:=t7 "one" 213 "other" 214 "left" 215 "right" 216
def My.o71:=t0 "as_pair" 3 "oddbases.pairs" 187 34
def My.o70:=t1 "as_pair" 203 "as_pair" 204 205 6 1 29 30 31 32 33 207 208
def My.o69:=t2 "as_pair" 3
def My.o67:=t14 "number" 206
def My.o64:=t0 "is_pair" 2 "oddbases.pairs" 187 27
def My.o63:=t1 "is_pair" 196 "is_pair" 197 198 4 1 22 23 24 25 26 200 201
def My.o62:=t2 "is_pair" 2
def My.o60:=t14 "value" 199
def My.o57:=t0 "is_whole" 1 "oddbases.pairs" 187 20
def My.o56:=t1 "is_whole" 189 "is_whole" 190 191 2 1 15 16 17 18 19 193 194
def My.o55:=t2 "is_whole" 1
def My.o53:=t14 "value" 192
def My.o46:=t17 13 3 "__main__" 164
def My.o45:=t18 "<module>" 182 183 184 1 11 12 185 186
def My.o782 (x:Params):Obj:=(@Obj.mk .none none (@Data.fields (List.toArray ((j_ 2 0) :: (j_ 0 0) :: (r_ 20) :: (j_ 4 0) :: (j_ 0 0) :: (r_ 27) :: (j_ 6 0) :: (j_ 0 0) :: (r_ 34) :: (j_ 10 0) :: (j_ 0 0) :: (r_ 41) :: (j_ 16 0) :: (j_ 0 0) :: (r_ 48) :: (j_ 23 0) :: (j_ 0 0) :: (r_ 55) :: (j_ 25 0) :: (j_ 0 0) :: (r_ 68) :: (j_ 27 0) :: (j_ 0 0) :: (r_ 80) :: (j_ 29 0) :: (j_ 0 0) :: (r_ 92) :: (j_ 31 0) :: (j_ 0 0) :: (r_ 104) :: (j_ 33 0) :: (j_ 0 0) :: (r_ 116) :: (j_ 35 0) :: (j_ 0 0) :: (r_ 128) :: (j_ 37 0) :: (j_ 0 0) :: (r_ 140) :: (j_ 39 0) :: (j_ 0 0) :: (r_ 152) :: (j_ 41 0) :: (j_ 0 0) :: (r_ 164) :: (j_ 43 0) :: (j_ 0 0) :: (r_ 176) :: (j_ 45 0) :: (j_ 0 0) :: (r_ 188) :: (j_ 47 0) :: (j_ 0 0) :: (r_ 200) :: (j_ 50 0) :: (j_ 0 0) :: (r_ 212) :: (j_ 54 0) :: (j_ 0 0) :: (r_ 219) :: (j_ 81 0) :: (j_ 0 0) :: (r_ 275) :: (j_ 91 0) :: (j_ 0 0) :: (r_ 308) :: (j_ 104 0) :: (j_ 0 0) :: (r_ 348) :: (j_ 120 0) :: (j_ 0 0) :: (r_ 395) :: (j_ 130 0) :: (j_ 0 0) :: (r_ 428) :: (j_ 154 0) :: (j_ 0 0) :: (r_ 475) :: (j_ 178 0) :: (j_ 0 0) :: (r_ 529) :: (j_ 182 0) :: (j_ 0 0) :: (r_ 536) :: (j_ 188 0) :: (j_ 0 0) :: (r_ 543) :: (j_ 203 0) :: (j_ 0 0) :: (r_ 550) :: (j_ 206 0) :: (j_ 0 0) :: (r_ 557) :: (j_ 211 0) :: (j_ 0 0) :: (r_ 564) :: (j_ 216 0) :: (j_ 0 0) :: (r_ 571) :: (j_ 222 0) :: (j_ 0 0) :: (r_ 578) :: (j_ 226 0) :: (j_ 0 0) :: (r_ 585) :: (j_ 231 0) :: (j_ 0 0) :: (r_ 592) :: (j_ 239 0) :: (j_ 0 0) :: (r_ 599) :: (j_ 246 0) :: (j_ 0 0) :: (r_ 606) :: (j_ 252 0) :: (j_ 0 0) :: (r_ 613) :: (j_ 256 0) :: (j_ 0 0) :: (r_ 620) :: (j_ 260 0) :: (j_ 0 0) :: (r_ 627) :: (j_ 268 0) :: (j_ 0 0) :: (r_ 634) :: (j_ 280 0) :: (j_ 0 0) :: (r_ 641) :: (j_ 284 0) :: (j_ 0 0) :: (r_ 648) :: (j_ 292 0) :: (j_ 0 0) :: (r_ 655) :: (j_ 303 0) :: (j_ 0 0) :: (r_ 662) :: (j_ 315 0) :: (j_ 0 0) :: (r_ 669) :: (j_ 325 0) :: (j_ 0 0) :: (r_ 676) :: (j_ 336 0) :: (j_ 0 0) :: (r_ 683) :: (j_ 344 0) :: (j_ 0 0) :: (r_ 688) :: (j_ 353 0) :: (j_ 0 0) :: (r_ 695) :: (j_ 363 0) :: (j_ 0 0) :: (r_ 702) :: []))) #[])
def My.o781 (x:Params):Obj:=(@Obj.mk (.type "dict") none (@Data.dict (List.toArray ((U0 x) :: (U38 x) :: (U14 x) :: (U1 x) :: (U33 x) :: (U10 x) :: (U11 x) :: (U4 x) :: (U17 x) :: (U18 x) :: (U28 x) :: (U29 x) :: (U39 x) :: (U12 x) :: (U19 x) :: (U40 x) :: (U20 x) :: (U15 x) :: (U21 x) :: (U22 x) :: (U13 x) :: (U23 x) :: (U30 x) :: (U31 x) :: (U24 x) :: (U32 x) :: (U34 x) :: (U25 x) :: (U41 x) :: (U35 x) :: (U36 x) :: (U16 x) :: (U26 x) :: (U27 x) :: (U37 x) :: (e_ x "thing_at" 856 (r_ 530)) :: (e_ x "trimmed" 864 (r_ 537)) :: (U6 x) :: (e_ x "settled" 887 (r_ 551)) :: (U9 x) :: (U2 x) :: (e_ x "is_writing" 916 (r_ 572)) :: (U7 x) :: (e_ x "worth" 936 (r_ 586)) :: (U8 x) :: (e_ x "written" 955 (r_ 600)) :: (e_ x "as_wanted" 965 (r_ 607)) :: (e_ x "moved" 974 (r_ 614)) :: (e_ x "_law_cell_at" 984 (r_ 621)) :: (e_ x "_law_chosen" 993 (r_ 628)) :: (e_ x "_law_way" 1001 (r_ 635)) :: (e_ x "_law_low" 1009 (r_ 642)) :: (e_ x "_law_high" 1018 (r_ 649)) :: (e_ x "_law_is_writing" 1028 (r_ 656)) :: (e_ x "_law_next" 1039 (r_ 663)) :: (e_ x "_law_pair_of" 1053 (r_ 670)) :: (e_ x "_law_row_by" 1065 (r_ 677)) :: (e_ x "_law_spoilt" 1077 (r_ 684)) :: (e_ x "_law_names" 1083 (r_ 689)) :: (e_ x "_law_asked" 1095 (r_ 696)) :: (e_ x "law" 1114 (r_ 703)) :: [])) 61) #[])
def My.o696 (x:Params):Obj:=(@Obj.mk .none none (@Data.fields (List.toArray ((j_ 2 0) :: (j_ 0 0) :: (r_ 20) :: (j_ 4 0) :: (j_ 0 0) :: (r_ 27) :: (j_ 6 0) :: (j_ 0 0) :: (r_ 34) :: (j_ 10 0) :: (j_ 0 0) :: (r_ 41) :: (j_ 16 0) :: (j_ 0 0) :: (r_ 48) :: (j_ 23 0) :: (j_ 0 0) :: (r_ 55) :: (j_ 25 0) :: (j_ 0 0) :: (r_ 68) :: (j_ 27 0) :: (j_ 0 0) :: (r_ 80) :: (j_ 29 0) :: (j_ 0 0) :: (r_ 92) :: (j_ 31 0) :: (j_ 0 0) :: (r_ 104) :: (j_ 33 0) :: (j_ 0 0) :: (r_ 116) :: (j_ 35 0) :: (j_ 0 0) :: (r_ 128) :: (j_ 37 0) :: (j_ 0 0) :: (r_ 140) :: (j_ 39 0) :: (j_ 0 0) :: (r_ 152) :: (j_ 41 0) :: (j_ 0 0) :: (r_ 164) :: (j_ 43 0) :: (j_ 0 0) :: (r_ 176) :: (j_ 45 0) :: (j_ 0 0) :: (r_ 188) :: (j_ 47 0) :: (j_ 0 0) :: (r_ 200) :: (j_ 50 0) :: (j_ 0 0) :: (r_ 212) :: (j_ 54 0) :: (j_ 0 0) :: (r_ 219) :: (j_ 81 0) :: (j_ 0 0) :: (r_ 275) :: (j_ 91 0) :: (j_ 0 0) :: (r_ 308) :: (j_ 104 0) :: (j_ 0 0) :: (r_ 348) :: (j_ 120 0) :: (j_ 0 0) :: (r_ 395) :: (j_ 130 0) :: (j_ 0 0) :: (r_ 428) :: (j_ 154 0) :: (j_ 0 0) :: (r_ 475) :: (j_ 178 0) :: (j_ 0 0) :: (r_ 529) :: (j_ 182 0) :: (j_ 0 0) :: (r_ 536) :: (j_ 188 0) :: (j_ 0 0) :: (r_ 543) :: (j_ 203 0) :: (j_ 0 0) :: (r_ 550) :: (j_ 206 0) :: (j_ 0 0) :: (r_ 557) :: (j_ 211 0) :: (j_ 0 0) :: (r_ 564) :: (j_ 216 0) :: (j_ 0 0) :: (r_ 571) :: (j_ 222 0) :: (j_ 0 0) :: (r_ 578) :: (j_ 226 0) :: (j_ 0 0) :: (r_ 585) :: (j_ 231 0) :: (j_ 0 0) :: (r_ 592) :: (j_ 239 0) :: (j_ 0 0) :: (r_ 599) :: (j_ 246 0) :: (j_ 0 0) :: (r_ 606) :: (j_ 252 0) :: (j_ 0 0) :: (r_ 613) :: (j_ 256 0) :: (j_ 0 0) :: (r_ 620) :: (j_ 260 0) :: (j_ 0 0) :: (r_ 627) :: (j_ 268 0) :: (j_ 0 0) :: (r_ 634) :: (j_ 280 0) :: (j_ 0 0) :: (r_ 641) :: (j_ 284 0) :: (j_ 0 0) :: (r_ 648) :: (j_ 292 0) :: (j_ 0 0) :: (r_ 655) :: (j_ 303 0) :: (j_ 0 0) :: (r_ 662) :: (j_ 315 0) :: (j_ 0 0) :: (r_ 669) :: (j_ 325 0) :: (j_ 0 0) :: (r_ 676) :: (j_ 336 0) :: (j_ 0 0) :: (r_ 683) :: []))) #[])
def My.o695 (x:Params):Obj:=(@Obj.mk (.type "dict") none (@Data.dict (List.toArray [(U0 x),(U38 x),(U14 x),(U1 x),(U33 x),(U10 x),(U11 x),(U4 x),(U17 x),(U18 x),(U28 x),(U29 x),(U39 x),(U12 x),(U19 x),(U40 x),(U20 x),(U15 x),(U21 x),(U22 x),(U13 x),(U23 x),(U30 x),(U31 x),(U24 x),(U32 x),(U34 x),(U25 x),(U41 x),(U35 x),(U36 x),(U16 x),(U26 x),(U27 x),(U37 x),(e_ x "thing_at" 856 (r_ 530)),(e_ x "trimmed" 864 (r_ 537)),(U6 x),(e_ x "settled" 887 (r_ 551)),(U9 x),(U2 x),(e_ x "is_writing" 916 (r_ 572)),(U7 x),(e_ x "worth" 936 (r_ 586)),(U8 x),(e_ x "written" 955 (r_ 600)),(e_ x "as_wanted" 965 (r_ 607)),(e_ x "moved" 974 (r_ 614)),(e_ x "_law_cell_at" 984 (r_ 621)),(e_ x "_law_chosen" 993 (r_ 628)),(e_ x "_law_way" 1001 (r_ 635)),(e_ x "_law_low" 1009 (r_ 642)),(e_ x "_law_high" 1018 (r_ 649)),(e_ x "_law_is_writing" 1028 (r_ 656)),(e_ x "_law_next" 1039 (r_ 663)),(e_ x "_law_pair_of" 1053 (r_ 670)),(e_ x "_law_row_by" 1065 (r_ 677)),(e_ x "_law_spoilt" 1077 (r_ 684))]) 58) #[])
def My.o617 (x:Params):Obj:=(@Obj.mk .none none (@Data.fields (List.toArray ((j_ 2 0) :: (j_ 0 0) :: (r_ 20) :: (j_ 4 0) :: (j_ 0 0) :: (r_ 27) :: (j_ 6 0) :: (j_ 0 0) :: (r_ 34) :: (j_ 10 0) :: (j_ 0 0) :: (r_ 41) :: (j_ 16 0) :: (j_ 0 0) :: (r_ 48) :: (j_ 23 0) :: (j_ 0 0) :: (r_ 55) :: (j_ 25 0) :: (j_ 0 0) :: (r_ 68) :: (j_ 27 0) :: (j_ 0 0) :: (r_ 80) :: (j_ 29 0) :: (j_ 0 0) :: (r_ 92) :: (j_ 31 0) :: (j_ 0 0) :: (r_ 104) :: (j_ 33 0) :: (j_ 0 0) :: (r_ 116) :: (j_ 35 0) :: (j_ 0 0) :: (r_ 128) :: (j_ 37 0) :: (j_ 0 0) :: (r_ 140) :: (j_ 39 0) :: (j_ 0 0) :: (r_ 152) :: (j_ 41 0) :: (j_ 0 0) :: (r_ 164) :: (j_ 43 0) :: (j_ 0 0) :: (r_ 176) :: (j_ 45 0) :: (j_ 0 0) :: (r_ 188) :: (j_ 47 0) :: (j_ 0 0) :: (r_ 200) :: (j_ 50 0) :: (j_ 0 0) :: (r_ 212) :: (j_ 54 0) :: (j_ 0 0) :: (r_ 219) :: (j_ 81 0) :: (j_ 0 0) :: (r_ 275) :: (j_ 91 0) :: (j_ 0 0) :: (r_ 308) :: (j_ 104 0) :: (j_ 0 0) :: (r_ 348) :: (j_ 120 0) :: (j_ 0 0) :: (r_ 395) :: (j_ 130 0) :: (j_ 0 0) :: (r_ 428) :: (j_ 154 0) :: (j_ 0 0) :: (r_ 475) :: (j_ 178 0) :: (j_ 0 0) :: (r_ 529) :: (j_ 182 0) :: (j_ 0 0) :: (r_ 536) :: (j_ 188 0) :: (j_ 0 0) :: (r_ 543) :: (j_ 203 0) :: (j_ 0 0) :: (r_ 550) :: (j_ 206 0) :: (j_ 0 0) :: (r_ 557) :: (j_ 211 0) :: (j_ 0 0) :: (r_ 564) :: (j_ 216 0) :: (j_ 0 0) :: (r_ 571) :: (j_ 222 0) :: (j_ 0 0) :: (r_ 578) :: (j_ 226 0) :: (j_ 0 0) :: (r_ 585) :: (j_ 231 0) :: (j_ 0 0) :: (r_ 592) :: (j_ 239 0) :: (j_ 0 0) :: (r_ 599) :: []))) #[])
def My.o616 (x:Params):Obj:=(@Obj.mk (.type "dict") none (@Data.dict (List.toArray [(e_ x "__name__" 165 (p_ "oddbases.moving" 956)),(U38 x),(U14 x),(U1 x),(U33 x),(U10 x),(U11 x),(U4 x),(U17 x),(U18 x),(U28 x),(U29 x),(U39 x),(U12 x),(U19 x),(U40 x),(U20 x),(U15 x),(U21 x),(U22 x),(U13 x),(U23 x),(U30 x),(U31 x),(U24 x),(U32 x),(U34 x),(U25 x),(U41 x),(U35 x),(U36 x),(U16 x),(U26 x),(U27 x),(U37 x),(e_ x "thing_at" 856 (r_ 530)),(e_ x "trimmed" 864 (r_ 537)),(U6 x),(e_ x "settled" 887 (r_ 551)),(U9 x),(U2 x),(e_ x "is_writing" 916 (r_ 572)),(U7 x),(e_ x "worth" 936 (r_ 586)),(U8 x),(e_ x "written" 955 (r_ 600))]) 46) #[])
def My.o560 (x:Params):Obj:=(@Obj.mk .none none (@Data.fields (List.toArray ((j_ 2 0) :: (j_ 0 0) :: (r_ 20) :: (j_ 4 0) :: (j_ 0 0) :: (r_ 27) :: (j_ 6 0) :: (j_ 0 0) :: (r_ 34) :: (j_ 10 0) :: (j_ 0 0) :: (r_ 41) :: (j_ 16 0) :: (j_ 0 0) :: (r_ 48) :: (j_ 23 0) :: (j_ 0 0) :: (r_ 55) :: (j_ 25 0) :: (j_ 0 0) :: (r_ 68) :: (j_ 27 0) :: (j_ 0 0) :: (r_ 80) :: (j_ 29 0) :: (j_ 0 0) :: (r_ 92) :: (j_ 31 0) :: (j_ 0 0) :: (r_ 104) :: (j_ 33 0) :: (j_ 0 0) :: (r_ 116) :: (j_ 35 0) :: (j_ 0 0) :: (r_ 128) :: (j_ 37 0) :: (j_ 0 0) :: (r_ 140) :: (j_ 39 0) :: (j_ 0 0) :: (r_ 152) :: (j_ 41 0) :: (j_ 0 0) :: (r_ 164) :: (j_ 43 0) :: (j_ 0 0) :: (r_ 176) :: (j_ 45 0) :: (j_ 0 0) :: (r_ 188) :: (j_ 47 0) :: (j_ 0 0) :: (r_ 200) :: (j_ 50 0) :: (j_ 0 0) :: (r_ 212) :: (j_ 54 0) :: (j_ 0 0) :: (r_ 219) :: (j_ 81 0) :: (j_ 0 0) :: (r_ 275) :: (j_ 91 0) :: (j_ 0 0) :: (r_ 308) :: (j_ 104 0) :: (j_ 0 0) :: (r_ 348) :: (j_ 120 0) :: (j_ 0 0) :: (r_ 395) :: (j_ 130 0) :: (j_ 0 0) :: (r_ 428) :: (j_ 154 0) :: (j_ 0 0) :: (r_ 475) :: []))) #[])
def My.o559 (x:Params):Obj:=(@Obj.mk (.type "dict") none (@Data.dict (List.toArray [(U5 x),(U38 x),(U14 x),(U1 x),(U33 x),(U10 x),(U11 x),(U4 x),(U17 x),(U18 x),(U28 x),(U29 x),(U39 x),(U12 x),(U19 x),(U40 x),(U20 x),(U15 x),(U21 x),(U22 x),(U13 x),(U23 x),(U30 x),(U31 x),(U24 x),(U32 x),(U34 x),(U25 x),(U41 x),(U35 x),(U36 x),(U16 x),(U26 x),(U27 x),(U37 x)]) 35) #[])
def My.o510 (x:Params):Obj:=(@Obj.mk .none none (@Data.fields (List.toArray ((j_ 2 0) :: (j_ 0 0) :: (r_ 20) :: (j_ 4 0) :: (j_ 0 0) :: (r_ 27) :: (j_ 6 0) :: (j_ 0 0) :: (r_ 34) :: (j_ 10 0) :: (j_ 0 0) :: (r_ 41) :: (j_ 16 0) :: (j_ 0 0) :: (r_ 48) :: (j_ 23 0) :: (j_ 0 0) :: (r_ 55) :: (j_ 25 0) :: (j_ 0 0) :: (r_ 68) :: (j_ 27 0) :: (j_ 0 0) :: (r_ 80) :: (j_ 29 0) :: (j_ 0 0) :: (r_ 92) :: (j_ 31 0) :: (j_ 0 0) :: (r_ 104) :: (j_ 33 0) :: (j_ 0 0) :: (r_ 116) :: (j_ 35 0) :: (j_ 0 0) :: (r_ 128) :: (j_ 37 0) :: (j_ 0 0) :: (r_ 140) :: (j_ 39 0) :: (j_ 0 0) :: (r_ 152) :: (j_ 41 0) :: (j_ 0 0) :: (r_ 164) :: (j_ 43 0) :: (j_ 0 0) :: (r_ 176) :: (j_ 45 0) :: (j_ 0 0) :: (r_ 188) :: (j_ 47 0) :: (j_ 0 0) :: (r_ 200) :: (j_ 50 0) :: (j_ 0 0) :: (r_ 212) :: (j_ 54 0) :: (j_ 0 0) :: (r_ 219) :: (j_ 81 0) :: (j_ 0 0) :: (r_ 275) :: (j_ 91 0) :: (j_ 0 0) :: (r_ 308) :: (j_ 104 0) :: (j_ 0 0) :: (r_ 348) :: (j_ 120 0) :: (j_ 0 0) :: (r_ 395) :: (j_ 130 0) :: (j_ 0 0) :: (r_ 428) :: []))) #[])
def My.o511 (x:Params):Obj:=(@Obj.mk (.type "type") none (@Data.cls (@ClassData.mk (.ofString "Way") [(.type "object")] [(r_ 265),(.type "object")] 264 (.ofString "Way") @Bool.true [] [(r_ 300),(r_ 340),(r_ 387),(r_ 420),(r_ 467)] @Bool.false (@Option.none @Bool) @Bool.false)) (@List.toArray (@Option @Value) [none,none,(some (p_ "Way" 453)),(some (p_ "Way" 461)),(some (.builtin "object.__new__")),(some (.bool @Bool.true))]))
def My.o509 (x:Params):Obj:=(@Obj.mk (.type "dict") none (@Data.dict (List.toArray [(U5 x),(U38 x),(U14 x),(U1 x),(U33 x),(U10 x),(U11 x),(U4 x),(U17 x),(U18 x),(U28 x),(U29 x),(U39 x),(U12 x),(U19 x),(U40 x),(U20 x),(U15 x),(U21 x),(U22 x),(U13 x),(U23 x),(U30 x),(U31 x),(U24 x),(U32 x),(U34 x),(U25 x),(U41 x),(U35 x),(U36 x),(U16 x),(U26 x),(U27 x)]) 34) #[])
def My.o474 (x:Params):Obj:=(@Obj.mk .none none (@Data.fields (List.toArray ((j_ 2 0) :: (j_ 0 0) :: (r_ 20) :: (j_ 4 0) :: (j_ 0 0) :: (r_ 27) :: (j_ 6 0) :: (j_ 0 0) :: (r_ 34) :: (j_ 10 0) :: (j_ 0 0) :: (r_ 41) :: (j_ 16 0) :: (j_ 0 0) :: (r_ 48) :: (j_ 23 0) :: (j_ 0 0) :: (r_ 55) :: (j_ 25 0) :: (j_ 0 0) :: (r_ 68) :: (j_ 27 0) :: (j_ 0 0) :: (r_ 80) :: (j_ 29 0) :: (j_ 0 0) :: (r_ 92) :: (j_ 31 0) :: (j_ 0 0) :: (r_ 104) :: (j_ 33 0) :: (j_ 0 0) :: (r_ 116) :: (j_ 35 0) :: (j_ 0 0) :: (r_ 128) :: (j_ 37 0) :: (j_ 0 0) :: (r_ 140) :: (j_ 39 0) :: (j_ 0 0) :: (r_ 152) :: (j_ 41 0) :: (j_ 0 0) :: (r_ 164) :: (j_ 43 0) :: (j_ 0 0) :: (r_ 176) :: (j_ 45 0) :: (j_ 0 0) :: (r_ 188) :: (j_ 47 0) :: (j_ 0 0) :: (r_ 200) :: (j_ 50 0) :: (j_ 0 0) :: (r_ 212) :: (j_ 54 0) :: (j_ 0 0) :: (r_ 219) :: (j_ 81 0) :: (j_ 0 0) :: (r_ 275) :: (j_ 91 0) :: (j_ 0 0) :: (r_ 308) :: (j_ 104 0) :: (j_ 0 0) :: (r_ 348) :: (j_ 120 0) :: (j_ 0 0) :: (r_ 395) :: []))) #[])
def My.o475 (x:Params):Obj:=(@Obj.mk (.type "type") none (@Data.cls (@ClassData.mk (.ofString "Way") [(.type "object")] [(r_ 265),(.type "object")] 264 (.ofString "Way") @Bool.true [] [(r_ 300),(r_ 340),(r_ 387),(r_ 420)] @Bool.false (@Option.none @Bool) @Bool.false)) (@List.toArray (@Option @Value) [none,none,(some (p_ "Way" 453)),(some (p_ "Way" 461)),(some (.builtin "object.__new__")),(some (.bool @Bool.true))]))
def My.o473 (x:Params):Obj:=(@Obj.mk (.type "dict") none (@Data.dict (List.toArray [(U5 x),(U38 x),(U14 x),(U1 x),(U33 x),(U10 x),(U11 x),(U4 x),(U17 x),(U18 x),(U28 x),(U29 x),(U39 x),(U12 x),(U19 x),(U40 x),(U20 x),(U15 x),(U21 x),(U22 x),(U13 x),(U23 x),(U30 x),(U31 x),(U24 x),(U32 x),(U34 x),(U25 x),(U41 x),(U35 x),(U36 x),(U16 x),(U26 x)]) 33) #[])
def My.o424 (x:Params):Obj:=(@Obj.mk .none none (@Data.fields (List.toArray ((j_ 2 0) :: (j_ 0 0) :: (r_ 20) :: (j_ 4 0) :: (j_ 0 0) :: (r_ 27) :: (j_ 6 0) :: (j_ 0 0) :: (r_ 34) :: (j_ 10 0) :: (j_ 0 0) :: (r_ 41) :: (j_ 16 0) :: (j_ 0 0) :: (r_ 48) :: (j_ 23 0) :: (j_ 0 0) :: (r_ 55) :: (j_ 25 0) :: (j_ 0 0) :: (r_ 68) :: (j_ 27 0) :: (j_ 0 0) :: (r_ 80) :: (j_ 29 0) :: (j_ 0 0) :: (r_ 92) :: (j_ 31 0) :: (j_ 0 0) :: (r_ 104) :: (j_ 33 0) :: (j_ 0 0) :: (r_ 116) :: (j_ 35 0) :: (j_ 0 0) :: (r_ 128) :: (j_ 37 0) :: (j_ 0 0) :: (r_ 140) :: (j_ 39 0) :: (j_ 0 0) :: (r_ 152) :: (j_ 41 0) :: (j_ 0 0) :: (r_ 164) :: (j_ 43 0) :: (j_ 0 0) :: (r_ 176) :: (j_ 45 0) :: (j_ 0 0) :: (r_ 188) :: (j_ 47 0) :: (j_ 0 0) :: (r_ 200) :: (j_ 50 0) :: (j_ 0 0) :: (r_ 212) :: (j_ 54 0) :: (j_ 0 0) :: (r_ 219) :: (j_ 81 0) :: (j_ 0 0) :: (r_ 275) :: (j_ 91 0) :: (j_ 0 0) :: (r_ 308) :: (j_ 104 0) :: (j_ 0 0) :: (r_ 348) :: []))) #[])
def My.o425 (x:Params):Obj:=(@Obj.mk (.type "type") none (@Data.cls (@ClassData.mk (.ofString "Way") [(.type "object")] [(r_ 265),(.type "object")] 264 (.ofString "Way") @Bool.true [] [(r_ 300),(r_ 340),(r_ 387)] @Bool.false (@Option.none @Bool) @Bool.false)) (@List.toArray (@Option @Value) [none,none,(some (p_ "Way" 453)),(some (p_ "Way" 461)),(some (.builtin "object.__new__")),(some (.bool @Bool.true))]))
def My.o423 (x:Params):Obj:=(@Obj.mk (.type "dict") none (@Data.dict (List.toArray [(U5 x),(U38 x),(U14 x),(U1 x),(U33 x),(U10 x),(U11 x),(U4 x),(U17 x),(U18 x),(U28 x),(U29 x),(U39 x),(U12 x),(U19 x),(U40 x),(U20 x),(U15 x),(U21 x),(U22 x),(U13 x),(U23 x),(U30 x),(U31 x),(U24 x),(U32 x),(U34 x),(U25 x),(U41 x),(U35 x),(U36 x),(U16 x)]) 32) #[])
def My.o381 (x:Params):Obj:=(@Obj.mk .none none (@Data.fields (List.toArray ((j_ 2 0) :: (j_ 0 0) :: (r_ 20) :: (j_ 4 0) :: (j_ 0 0) :: (r_ 27) :: (j_ 6 0) :: (j_ 0 0) :: (r_ 34) :: (j_ 10 0) :: (j_ 0 0) :: (r_ 41) :: (j_ 16 0) :: (j_ 0 0) :: (r_ 48) :: (j_ 23 0) :: (j_ 0 0) :: (r_ 55) :: (j_ 25 0) :: (j_ 0 0) :: (r_ 68) :: (j_ 27 0) :: (j_ 0 0) :: (r_ 80) :: (j_ 29 0) :: (j_ 0 0) :: (r_ 92) :: (j_ 31 0) :: (j_ 0 0) :: (r_ 104) :: (j_ 33 0) :: (j_ 0 0) :: (r_ 116) :: (j_ 35 0) :: (j_ 0 0) :: (r_ 128) :: (j_ 37 0) :: (j_ 0 0) :: (r_ 140) :: (j_ 39 0) :: (j_ 0 0) :: (r_ 152) :: (j_ 41 0) :: (j_ 0 0) :: (r_ 164) :: (j_ 43 0) :: (j_ 0 0) :: (r_ 176) :: (j_ 45 0) :: (j_ 0 0) :: (r_ 188) :: (j_ 47 0) :: (j_ 0 0) :: (r_ 200) :: (j_ 50 0) :: (j_ 0 0) :: (r_ 212) :: (j_ 54 0) :: (j_ 0 0) :: (r_ 219) :: (j_ 81 0) :: (j_ 0 0) :: (r_ 275) :: (j_ 91 0) :: (j_ 0 0) :: (r_ 308) :: []))) #[])
def My.o382 (x:Params):Obj:=(@Obj.mk (.type "type") none (@Data.cls (@ClassData.mk (.ofString "Way") [(.type "object")] [(r_ 265),(.type "object")] 264 (.ofString "Way") @Bool.true [] [(r_ 300),(r_ 340)] @Bool.false (@Option.none @Bool) @Bool.false)) (@List.toArray (@Option @Value) [none,none,(some (p_ "Way" 453)),(some (p_ "Way" 461)),(some (.builtin "object.__new__")),(some (.bool @Bool.true))]))
def My.o380 (x:Params):Obj:=(@Obj.mk (.type "dict") none (@Data.dict (List.toArray [(U5 x),(U38 x),(U14 x),(U1 x),(U33 x),(U10 x),(U11 x),(U4 x),(U17 x),(U18 x),(U28 x),(U29 x),(U39 x),(U12 x),(U19 x),(U40 x),(U20 x),(U15 x),(U21 x),(U22 x),(U13 x),(U23 x),(U30 x),(U31 x),(U24 x),(U32 x),(U34 x),(U25 x),(U41 x),(U35 x),(U36 x)]) 31) #[])
def My.o345 (x:Params):Obj:=(@Obj.mk .none none (@Data.fields (List.toArray ((j_ 2 0) :: (j_ 0 0) :: (r_ 20) :: (j_ 4 0) :: (j_ 0 0) :: (r_ 27) :: (j_ 6 0) :: (j_ 0 0) :: (r_ 34) :: (j_ 10 0) :: (j_ 0 0) :: (r_ 41) :: (j_ 16 0) :: (j_ 0 0) :: (r_ 48) :: (j_ 23 0) :: (j_ 0 0) :: (r_ 55) :: (j_ 25 0) :: (j_ 0 0) :: (r_ 68) :: (j_ 27 0) :: (j_ 0 0) :: (r_ 80) :: (j_ 29 0) :: (j_ 0 0) :: (r_ 92) :: (j_ 31 0) :: (j_ 0 0) :: (r_ 104) :: (j_ 33 0) :: (j_ 0 0) :: (r_ 116) :: (j_ 35 0) :: (j_ 0 0) :: (r_ 128) :: (j_ 37 0) :: (j_ 0 0) :: (r_ 140) :: (j_ 39 0) :: (j_ 0 0) :: (r_ 152) :: (j_ 41 0) :: (j_ 0 0) :: (r_ 164) :: (j_ 43 0) :: (j_ 0 0) :: (r_ 176) :: (j_ 45 0) :: (j_ 0 0) :: (r_ 188) :: (j_ 47 0) :: (j_ 0 0) :: (r_ 200) :: (j_ 50 0) :: (j_ 0 0) :: (r_ 212) :: (j_ 54 0) :: (j_ 0 0) :: (r_ 219) :: (j_ 81 0) :: (j_ 0 0) :: (r_ 275) :: []))) #[])
def My.o346 (x:Params):Obj:=(@Obj.mk (.type "type") none (@Data.cls (@ClassData.mk (.ofString "Way") [(.type "object")] [(r_ 265),(.type "object")] 264 (.ofString "Way") @Bool.true [] [(r_ 300)] @Bool.false (@Option.none @Bool) @Bool.false)) (@List.toArray (@Option @Value) [none,none,(some (p_ "Way" 453)),(some (p_ "Way" 461)),(some (.builtin "object.__new__")),(some (.bool @Bool.true))]))
def My.o344 (x:Params):Obj:=(@Obj.mk (.type "dict") none (@Data.dict (List.toArray [(U5 x),(U38 x),(U14 x),(U1 x),(U33 x),(U10 x),(U11 x),(U4 x),(U17 x),(U18 x),(U28 x),(U29 x),(U39 x),(U12 x),(U19 x),(U40 x),(U20 x),(U15 x),(U21 x),(U22 x),(U13 x),(U23 x),(U30 x),(U31 x),(U24 x),(U32 x),(U34 x),(U25 x),(U41 x),(U35 x)]) 30) #[])
def My.o287 (x:Params):Obj:=(@Obj.mk .none none (@Data.fields (List.toArray [(j_ 2 0),(j_ 0 0),(r_ 20),(j_ 4 0),(j_ 0 0),(r_ 27),(j_ 6 0),(j_ 0 0),(r_ 34),(j_ 10 0),(j_ 0 0),(r_ 41),(j_ 16 0),(j_ 0 0),(r_ 48),(j_ 23 0),(j_ 0 0),(r_ 55),(j_ 25 0),(j_ 0 0),(r_ 68),(j_ 27 0),(j_ 0 0),(r_ 80),(j_ 29 0),(j_ 0 0),(r_ 92),(j_ 31 0),(j_ 0 0),(r_ 104),(j_ 33 0),(j_ 0 0),(r_ 116),(j_ 35 0),(j_ 0 0),(r_ 128),(j_ 37 0),(j_ 0 0),(r_ 140),(j_ 39 0),(j_ 0 0),(r_ 152),(j_ 41 0),(j_ 0 0),(r_ 164),(j_ 43 0),(j_ 0 0),(r_ 176),(j_ 45 0),(j_ 0 0),(r_ 188),(j_ 47 0),(j_ 0 0),(r_ 200),(j_ 50 0),(j_ 0 0),(r_ 212),(j_ 54 0),(j_ 0 0),(r_ 219)])) #[])
def My.o339 (x:Params):Obj:=(@Obj.mk (.type "type") none (@Data.cls (@ClassData.mk (.ofString "Way") [(.type "object")] [(r_ 265),(.type "object")] 264 (.ofString "Way") @Bool.true [] [] @Bool.false (@Option.none @Bool) @Bool.false)) (@List.toArray (@Option @Value) [none,none,(some (p_ "Way" 453)),(some (p_ "Way" 461)),(some (.builtin "object.__new__")),(some (.bool @Bool.true))]))
def My.o286 (x:Params):Obj:=(@Obj.mk (.type "dict") none (@Data.dict (List.toArray [(U5 x),(U38 x),(U14 x),(U1 x),(U33 x),(U10 x),(U11 x),(U4 x),(U17 x),(U18 x),(U28 x),(U29 x),(U39 x),(U12 x),(U19 x),(U40 x),(U20 x),(U15 x),(U21 x),(U22 x),(U13 x),(U23 x),(U30 x),(U31 x),(U24 x),(U32 x),(U34 x),(U25 x),(U41 x)]) 29) #[])
def My.o265 (x:Params):Obj:=(@Obj.mk .none none (@Data.fields (List.toArray [(j_ 2 0),(j_ 0 0),(r_ 20),(j_ 4 0),(j_ 0 0),(r_ 27),(j_ 6 0),(j_ 0 0),(r_ 34),(j_ 10 0),(j_ 0 0),(r_ 41),(j_ 16 0),(j_ 0 0),(r_ 48),(j_ 23 0),(j_ 0 0),(r_ 55),(j_ 25 0),(j_ 0 0),(r_ 68),(j_ 27 0),(j_ 0 0),(r_ 80),(j_ 29 0),(j_ 0 0),(r_ 92),(j_ 31 0),(j_ 0 0),(r_ 104),(j_ 33 0),(j_ 0 0),(r_ 116),(j_ 35 0),(j_ 0 0),(r_ 128),(j_ 37 0),(j_ 0 0),(r_ 140),(j_ 39 0),(j_ 0 0),(r_ 152),(j_ 41 0),(j_ 0 0),(r_ 164),(j_ 43 0),(j_ 0 0),(r_ 176),(j_ 45 0),(j_ 0 0),(r_ 188),(j_ 47 0),(j_ 0 0),(r_ 200),(j_ 50 0),(j_ 0 0),(r_ 212)])) #[])
def My.o264 (x:Params):Obj:=(@Obj.mk (.type "dict") none (@Data.dict (List.toArray [(U5 x),(U38 x),(U14 x),(U1 x),(U33 x),(U10 x),(U11 x),(U4 x),(U17 x),(U18 x),(U28 x),(U29 x),(U39 x),(U12 x),(U19 x),(U40 x),(U20 x),(U15 x),(U21 x),(U22 x),(U13 x),(U23 x),(U30 x),(U31 x),(U24 x),(U32 x),(U34 x),(U25 x)]) 28) #[])
def My.o250 (x:Params):Obj:=(@Obj.mk .none none (@Data.fields (List.toArray [(j_ 2 0),(j_ 0 0),(r_ 20),(j_ 4 0),(j_ 0 0),(r_ 27),(j_ 6 0),(j_ 0 0),(r_ 34),(j_ 10 0),(j_ 0 0),(r_ 41),(j_ 16 0),(j_ 0 0),(r_ 48),(j_ 23 0),(j_ 0 0),(r_ 55),(j_ 25 0),(j_ 0 0),(r_ 68),(j_ 27 0),(j_ 0 0),(r_ 80),(j_ 29 0),(j_ 0 0),(r_ 92),(j_ 31 0),(j_ 0 0),(r_ 104),(j_ 33 0),(j_ 0 0),(r_ 116),(j_ 35 0),(j_ 0 0),(r_ 128),(j_ 37 0),(j_ 0 0),(r_ 140),(j_ 39 0),(j_ 0 0),(r_ 152),(j_ 41 0),(j_ 0 0),(r_ 164),(j_ 43 0),(j_ 0 0),(r_ 176),(j_ 45 0),(j_ 0 0),(r_ 188)])) #[])
def My.o251 (x:Params):Obj:=(@Obj.mk (.type "type") none (@Data.cls (@ClassData.mk (.ofString "OddError") [(.type "ValueError")] [(r_ 59),(.type "ValueError"),(.type "Exception"),(.type "BaseException"),(.type "object")] 58 (.ofString "OddError") @Bool.true [] [(r_ 72),(r_ 84),(r_ 96),(r_ 108),(r_ 120),(r_ 132),(r_ 144),(r_ 156),(r_ 168),(r_ 180),(r_ 192)] @Bool.false (@Option.none @Bool) @Bool.false)) (@List.toArray (@Option @Value) [(some (r_ 50)),none,(some (p_ "OddError" 232)),(some (p_ "OddError" 240)),(some (.builtin "ValueError.__new__")),(some (.bool @Bool.true))]))
def My.o249 (x:Params):Obj:=(@Obj.mk (.type "dict") none (@Data.dict (List.toArray [(U3 x),(U38 x),(U14 x),(U1 x),(U33 x),(U10 x),(U11 x),(U4 x),(U17 x),(U18 x),(U28 x),(U29 x),(U39 x),(U12 x),(U19 x),(U40 x),(U20 x),(U15 x),(U21 x),(U22 x),(U13 x),(U23 x),(U30 x),(U31 x),(U24 x),(U32 x)]) 26) #[])
def My.o235 (x:Params):Obj:=(@Obj.mk .none none (@Data.fields (List.toArray [(j_ 2 0),(j_ 0 0),(r_ 20),(j_ 4 0),(j_ 0 0),(r_ 27),(j_ 6 0),(j_ 0 0),(r_ 34),(j_ 10 0),(j_ 0 0),(r_ 41),(j_ 16 0),(j_ 0 0),(r_ 48),(j_ 23 0),(j_ 0 0),(r_ 55),(j_ 25 0),(j_ 0 0),(r_ 68),(j_ 27 0),(j_ 0 0),(r_ 80),(j_ 29 0),(j_ 0 0),(r_ 92),(j_ 31 0),(j_ 0 0),(r_ 104),(j_ 33 0),(j_ 0 0),(r_ 116),(j_ 35 0),(j_ 0 0),(r_ 128),(j_ 37 0),(j_ 0 0),(r_ 140),(j_ 39 0),(j_ 0 0),(r_ 152),(j_ 41 0),(j_ 0 0),(r_ 164),(j_ 43 0),(j_ 0 0),(r_ 176)])) #[])
def My.o236 (x:Params):Obj:=(@Obj.mk (.type "type") none (@Data.cls (@ClassData.mk (.ofString "OddError") [(.type "ValueError")] [(r_ 59),(.type "ValueError"),(.type "Exception"),(.type "BaseException"),(.type "object")] 58 (.ofString "OddError") @Bool.true [] [(r_ 72),(r_ 84),(r_ 96),(r_ 108),(r_ 120),(r_ 132),(r_ 144),(r_ 156),(r_ 168),(r_ 180)] @Bool.false (@Option.none @Bool) @Bool.false)) (@List.toArray (@Option @Value) [(some (r_ 50)),none,(some (p_ "OddError" 232)),(some (p_ "OddError" 240)),(some (.builtin "ValueError.__new__")),(some (.bool @Bool.true))]))
def My.o234 (x:Params):Obj:=(@Obj.mk (.type "dict") none (@Data.dict (List.toArray [(U3 x),(U38 x),(U14 x),(U1 x),(U33 x),(U10 x),(U11 x),(U4 x),(U17 x),(U18 x),(U28 x),(U29 x),(U39 x),(U12 x),(U19 x),(U40 x),(U20 x),(U15 x),(U21 x),(U22 x),(U13 x),(U23 x),(U30 x),(U31 x),(U24 x)]) 25) #[])
def My.o220 (x:Params):Obj:=(@Obj.mk .none none (@Data.fields (List.toArray [(j_ 2 0),(j_ 0 0),(r_ 20),(j_ 4 0),(j_ 0 0),(r_ 27),(j_ 6 0),(j_ 0 0),(r_ 34),(j_ 10 0),(j_ 0 0),(r_ 41),(j_ 16 0),(j_ 0 0),(r_ 48),(j_ 23 0),(j_ 0 0),(r_ 55),(j_ 25 0),(j_ 0 0),(r_ 68),(j_ 27 0),(j_ 0 0),(r_ 80),(j_ 29 0),(j_ 0 0),(r_ 92),(j_ 31 0),(j_ 0 0),(r_ 104),(j_ 33 0),(j_ 0 0),(r_ 116),(j_ 35 0),(j_ 0 0),(r_ 128),(j_ 37 0),(j_ 0 0),(r_ 140),(j_ 39 0),(j_ 0 0),(r_ 152),(j_ 41 0),(j_ 0 0),(r_ 164)])) #[])
def My.o221 (x:Params):Obj:=(@Obj.mk (.type "type") none (@Data.cls (@ClassData.mk (.ofString "OddError") [(.type "ValueError")] [(r_ 59),(.type "ValueError"),(.type "Exception"),(.type "BaseException"),(.type "object")] 58 (.ofString "OddError") @Bool.true [] [(r_ 72),(r_ 84),(r_ 96),(r_ 108),(r_ 120),(r_ 132),(r_ 144),(r_ 156),(r_ 168)] @Bool.false (@Option.none @Bool) @Bool.false)) (@List.toArray (@Option @Value) [(some (r_ 50)),none,(some (p_ "OddError" 232)),(some (p_ "OddError" 240)),(some (.builtin "ValueError.__new__")),(some (.bool @Bool.true))]))
def My.o219 (x:Params):Obj:=(@Obj.mk (.type "dict") none (@Data.dict (List.toArray [(U3 x),(U38 x),(U14 x),(U1 x),(U33 x),(U10 x),(U11 x),(U4 x),(U17 x),(U18 x),(U28 x),(U29 x),(U39 x),(U12 x),(U19 x),(U40 x),(U20 x),(U15 x),(U21 x),(U22 x),(U13 x),(U23 x),(U30 x),(U31 x)]) 24) #[])
def My.o205 (x:Params):Obj:=(@Obj.mk .none none (@Data.fields (List.toArray [(j_ 2 0),(j_ 0 0),(r_ 20),(j_ 4 0),(j_ 0 0),(r_ 27),(j_ 6 0),(j_ 0 0),(r_ 34),(j_ 10 0),(j_ 0 0),(r_ 41),(j_ 16 0),(j_ 0 0),(r_ 48),(j_ 23 0),(j_ 0 0),(r_ 55),(j_ 25 0),(j_ 0 0),(r_ 68),(j_ 27 0),(j_ 0 0),(r_ 80),(j_ 29 0),(j_ 0 0),(r_ 92),(j_ 31 0),(j_ 0 0),(r_ 104),(j_ 33 0),(j_ 0 0),(r_ 116),(j_ 35 0),(j_ 0 0),(r_ 128),(j_ 37 0),(j_ 0 0),(r_ 140),(j_ 39 0),(j_ 0 0),(r_ 152)])) #[])
def My.o206 (x:Params):Obj:=(@Obj.mk (.type "type") none (@Data.cls (@ClassData.mk (.ofString "OddError") [(.type "ValueError")] [(r_ 59),(.type "ValueError"),(.type "Exception"),(.type "BaseException"),(.type "object")] 58 (.ofString "OddError") @Bool.true [] [(r_ 72),(r_ 84),(r_ 96),(r_ 108),(r_ 120),(r_ 132),(r_ 144),(r_ 156)] @Bool.false (@Option.none @Bool) @Bool.false)) (@List.toArray (@Option @Value) [(some (r_ 50)),none,(some (p_ "OddError" 232)),(some (p_ "OddError" 240)),(some (.builtin "ValueError.__new__")),(some (.bool @Bool.true))]))
def My.o204 (x:Params):Obj:=(@Obj.mk (.type "dict") none (@Data.dict (List.toArray [(U3 x),(U38 x),(U14 x),(U1 x),(U33 x),(U10 x),(U11 x),(U4 x),(U17 x),(U18 x),(U28 x),(U29 x),(U39 x),(U12 x),(U19 x),(U40 x),(U20 x),(U15 x),(U21 x),(U22 x),(U13 x),(U23 x),(U30 x)]) 23) #[])
def My.o190 (x:Params):Obj:=(@Obj.mk .none none (@Data.fields (List.toArray [(j_ 2 0),(j_ 0 0),(r_ 20),(j_ 4 0),(j_ 0 0),(r_ 27),(j_ 6 0),(j_ 0 0),(r_ 34),(j_ 10 0),(j_ 0 0),(r_ 41),(j_ 16 0),(j_ 0 0),(r_ 48),(j_ 23 0),(j_ 0 0),(r_ 55),(j_ 25 0),(j_ 0 0),(r_ 68),(j_ 27 0),(j_ 0 0),(r_ 80),(j_ 29 0),(j_ 0 0),(r_ 92),(j_ 31 0),(j_ 0 0),(r_ 104),(j_ 33 0),(j_ 0 0),(r_ 116),(j_ 35 0),(j_ 0 0),(r_ 128),(j_ 37 0),(j_ 0 0),(r_ 140)])) #[])
def My.o191 (x:Params):Obj:=(@Obj.mk (.type "type") none (@Data.cls (@ClassData.mk (.ofString "OddError") [(.type "ValueError")] [(r_ 59),(.type "ValueError"),(.type "Exception"),(.type "BaseException"),(.type "object")] 58 (.ofString "OddError") @Bool.true [] [(r_ 72),(r_ 84),(r_ 96),(r_ 108),(r_ 120),(r_ 132),(r_ 144)] @Bool.false (@Option.none @Bool) @Bool.false)) (@List.toArray (@Option @Value) [(some (r_ 50)),none,(some (p_ "OddError" 232)),(some (p_ "OddError" 240)),(some (.builtin "ValueError.__new__")),(some (.bool @Bool.true))]))
def My.o189 (x:Params):Obj:=(@Obj.mk (.type "dict") none (@Data.dict (List.toArray [(U3 x),(U38 x),(U14 x),(U1 x),(U33 x),(U10 x),(U11 x),(U4 x),(U17 x),(U18 x),(U28 x),(U29 x),(U39 x),(U12 x),(U19 x),(U40 x),(U20 x),(U15 x),(U21 x),(U22 x),(U13 x),(U23 x)]) 22) #[])
def My.o175 (x:Params):Obj:=(@Obj.mk .none none (@Data.fields (List.toArray [(j_ 2 0),(j_ 0 0),(r_ 20),(j_ 4 0),(j_ 0 0),(r_ 27),(j_ 6 0),(j_ 0 0),(r_ 34),(j_ 10 0),(j_ 0 0),(r_ 41),(j_ 16 0),(j_ 0 0),(r_ 48),(j_ 23 0),(j_ 0 0),(r_ 55),(j_ 25 0),(j_ 0 0),(r_ 68),(j_ 27 0),(j_ 0 0),(r_ 80),(j_ 29 0),(j_ 0 0),(r_ 92),(j_ 31 0),(j_ 0 0),(r_ 104),(j_ 33 0),(j_ 0 0),(r_ 116),(j_ 35 0),(j_ 0 0),(r_ 128)])) #[])
def My.o176 (x:Params):Obj:=(@Obj.mk (.type "type") none (@Data.cls (@ClassData.mk (.ofString "OddError") [(.type "ValueError")] [(r_ 59),(.type "ValueError"),(.type "Exception"),(.type "BaseException"),(.type "object")] 58 (.ofString "OddError") @Bool.true [] [(r_ 72),(r_ 84),(r_ 96),(r_ 108),(r_ 120),(r_ 132)] @Bool.false (@Option.none @Bool) @Bool.false)) (@List.toArray (@Option @Value) [(some (r_ 50)),none,(some (p_ "OddError" 232)),(some (p_ "OddError" 240)),(some (.builtin "ValueError.__new__")),(some (.bool @Bool.true))]))
def My.o174 (x:Params):Obj:=(@Obj.mk (.type "dict") none (@Data.dict (List.toArray [(U3 x),(U38 x),(U14 x),(U1 x),(U33 x),(U10 x),(U11 x),(U4 x),(U17 x),(U18 x),(U28 x),(U29 x),(U39 x),(U12 x),(U19 x),(U40 x),(U20 x),(U15 x),(U21 x),(U22 x),(U13 x)]) 21) #[])
def My.o160 (x:Params):Obj:=(@Obj.mk .none none (@Data.fields (List.toArray [(j_ 2 0),(j_ 0 0),(r_ 20),(j_ 4 0),(j_ 0 0),(r_ 27),(j_ 6 0),(j_ 0 0),(r_ 34),(j_ 10 0),(j_ 0 0),(r_ 41),(j_ 16 0),(j_ 0 0),(r_ 48),(j_ 23 0),(j_ 0 0),(r_ 55),(j_ 25 0),(j_ 0 0),(r_ 68),(j_ 27 0),(j_ 0 0),(r_ 80),(j_ 29 0),(j_ 0 0),(r_ 92),(j_ 31 0),(j_ 0 0),(r_ 104),(j_ 33 0),(j_ 0 0),(r_ 116)])) #[])
def My.o161 (x:Params):Obj:=(@Obj.mk (.type "type") none (@Data.cls (@ClassData.mk (.ofString "OddError") [(.type "ValueError")] [(r_ 59),(.type "ValueError"),(.type "Exception"),(.type "BaseException"),(.type "object")] 58 (.ofString "OddError") @Bool.true [] [(r_ 72),(r_ 84),(r_ 96),(r_ 108),(r_ 120)] @Bool.false (@Option.none @Bool) @Bool.false)) (@List.toArray (@Option @Value) [(some (r_ 50)),none,(some (p_ "OddError" 232)),(some (p_ "OddError" 240)),(some (.builtin "ValueError.__new__")),(some (.bool @Bool.true))]))
def My.o159 (x:Params):Obj:=(@Obj.mk (.type "dict") none (@Data.dict (List.toArray [(U3 x),(U38 x),(U14 x),(U1 x),(U33 x),(U10 x),(U11 x),(U4 x),(U17 x),(U18 x),(U28 x),(U29 x),(U39 x),(U12 x),(U19 x),(U40 x),(U20 x),(U15 x),(U21 x),(U22 x)]) 20) #[])
def My.o145 (x:Params):Obj:=(@Obj.mk .none none (@Data.fields (List.toArray [(j_ 2 0),(j_ 0 0),(r_ 20),(j_ 4 0),(j_ 0 0),(r_ 27),(j_ 6 0),(j_ 0 0),(r_ 34),(j_ 10 0),(j_ 0 0),(r_ 41),(j_ 16 0),(j_ 0 0),(r_ 48),(j_ 23 0),(j_ 0 0),(r_ 55),(j_ 25 0),(j_ 0 0),(r_ 68),(j_ 27 0),(j_ 0 0),(r_ 80),(j_ 29 0),(j_ 0 0),(r_ 92),(j_ 31 0),(j_ 0 0),(r_ 104)])) #[])
def My.o146 (x:Params):Obj:=(@Obj.mk (.type "type") none (@Data.cls (@ClassData.mk (.ofString "OddError") [(.type "ValueError")] [(r_ 59),(.type "ValueError"),(.type "Exception"),(.type "BaseException"),(.type "object")] 58 (.ofString "OddError") @Bool.true [] [(r_ 72),(r_ 84),(r_ 96),(r_ 108)] @Bool.false (@Option.none @Bool) @Bool.false)) (@List.toArray (@Option @Value) [(some (r_ 50)),none,(some (p_ "OddError" 232)),(some (p_ "OddError" 240)),(some (.builtin "ValueError.__new__")),(some (.bool @Bool.true))]))
def My.o144 (x:Params):Obj:=(@Obj.mk (.type "dict") none (@Data.dict (List.toArray [(U3 x),(U38 x),(U14 x),(U1 x),(U33 x),(U10 x),(U11 x),(U4 x),(U17 x),(U18 x),(U28 x),(U29 x),(U39 x),(U12 x),(U19 x),(U40 x),(U20 x),(U15 x),(U21 x)]) 19) #[])
def My.o130 (x:Params):Obj:=(@Obj.mk .none none (@Data.fields (List.toArray [(j_ 2 0),(j_ 0 0),(r_ 20),(j_ 4 0),(j_ 0 0),(r_ 27),(j_ 6 0),(j_ 0 0),(r_ 34),(j_ 10 0),(j_ 0 0),(r_ 41),(j_ 16 0),(j_ 0 0),(r_ 48),(j_ 23 0),(j_ 0 0),(r_ 55),(j_ 25 0),(j_ 0 0),(r_ 68),(j_ 27 0),(j_ 0 0),(r_ 80),(j_ 29 0),(j_ 0 0),(r_ 92)])) #[])
def My.o131 (x:Params):Obj:=(@Obj.mk (.type "type") none (@Data.cls (@ClassData.mk (.ofString "OddError") [(.type "ValueError")] [(r_ 59),(.type "ValueError"),(.type "Exception"),(.type "BaseException"),(.type "object")] 58 (.ofString "OddError") @Bool.true [] [(r_ 72),(r_ 84),(r_ 96)] @Bool.false (@Option.none @Bool) @Bool.false)) (@List.toArray (@Option @Value) [(some (r_ 50)),none,(some (p_ "OddError" 232)),(some (p_ "OddError" 240)),(some (.builtin "ValueError.__new__")),(some (.bool @Bool.true))]))
def My.o129 (x:Params):Obj:=(@Obj.mk (.type "dict") none (@Data.dict (List.toArray [(U3 x),(U38 x),(U14 x),(U1 x),(U33 x),(U10 x),(U11 x),(U4 x),(U17 x),(U18 x),(U28 x),(U29 x),(U39 x),(U12 x),(U19 x),(U40 x),(U20 x),(U15 x)]) 18) #[])
def My.o115 (x:Params):Obj:=(@Obj.mk .none none (@Data.fields (List.toArray [(j_ 2 0),(j_ 0 0),(r_ 20),(j_ 4 0),(j_ 0 0),(r_ 27),(j_ 6 0),(j_ 0 0),(r_ 34),(j_ 10 0),(j_ 0 0),(r_ 41),(j_ 16 0),(j_ 0 0),(r_ 48),(j_ 23 0),(j_ 0 0),(r_ 55),(j_ 25 0),(j_ 0 0),(r_ 68),(j_ 27 0),(j_ 0 0),(r_ 80)])) #[])
def My.o116 (x:Params):Obj:=(@Obj.mk (.type "type") none (@Data.cls (@ClassData.mk (.ofString "OddError") [(.type "ValueError")] [(r_ 59),(.type "ValueError"),(.type "Exception"),(.type "BaseException"),(.type "object")] 58 (.ofString "OddError") @Bool.true [] [(r_ 72),(r_ 84)] @Bool.false (@Option.none @Bool) @Bool.false)) (@List.toArray (@Option @Value) [(some (r_ 50)),none,(some (p_ "OddError" 232)),(some (p_ "OddError" 240)),(some (.builtin "ValueError.__new__")),(some (.bool @Bool.true))]))
def My.o114 (x:Params):Obj:=(@Obj.mk (.type "dict") none (@Data.dict (List.toArray [(U3 x),(U38 x),(U14 x),(U1 x),(U33 x),(U10 x),(U11 x),(U4 x),(U17 x),(U18 x),(U28 x),(U29 x),(U39 x),(U12 x),(U19 x),(U40 x),(U20 x)]) 17) #[])
def My.o100 (x:Params):Obj:=(@Obj.mk .none none (@Data.fields (List.toArray [(j_ 2 0),(j_ 0 0),(r_ 20),(j_ 4 0),(j_ 0 0),(r_ 27),(j_ 6 0),(j_ 0 0),(r_ 34),(j_ 10 0),(j_ 0 0),(r_ 41),(j_ 16 0),(j_ 0 0),(r_ 48),(j_ 23 0),(j_ 0 0),(r_ 55),(j_ 25 0),(j_ 0 0),(r_ 68)])) #[])
def My.o101 (x:Params):Obj:=(@Obj.mk (.type "type") none (@Data.cls (@ClassData.mk (.ofString "OddError") [(.type "ValueError")] [(r_ 59),(.type "ValueError"),(.type "Exception"),(.type "BaseException"),(.type "object")] 58 (.ofString "OddError") @Bool.true [] [(r_ 72)] @Bool.false (@Option.none @Bool) @Bool.false)) (@List.toArray (@Option @Value) [(some (r_ 50)),none,(some (p_ "OddError" 232)),(some (p_ "OddError" 240)),(some (.builtin "ValueError.__new__")),(some (.bool @Bool.true))]))
def My.o99 (x:Params):Obj:=(@Obj.mk (.type "dict") none (@Data.dict (List.toArray [(U3 x),(U38 x),(U14 x),(U1 x),(U33 x),(U10 x),(U11 x),(U4 x),(U17 x),(U18 x),(U28 x),(U29 x),(U39 x),(U12 x),(U19 x),(U40 x)]) 16) #[])
def My.o50:=t19 2 0 20 4 27 6 34 10 41 16 48 23 55
def My.o95 (x:Params):Obj:=(@Obj.mk (.type "type") none (@Data.cls (@ClassData.mk (.ofString "OddError") [(.type "ValueError")] [(r_ 59),(.type "ValueError"),(.type "Exception"),(.type "BaseException"),(.type "object")] 58 (.ofString "OddError") @Bool.true [] [] @Bool.false (@Option.none @Bool) @Bool.false)) (@List.toArray (@Option @Value) [(some (r_ 50)),none,(some (p_ "OddError" 232)),(some (p_ "OddError" 240)),(some (.builtin "ValueError.__new__")),(some (.bool @Bool.true))]))
def My.o49 (x:Params):Obj:=(@Obj.mk (.type "dict") none (@Data.dict (List.toArray [(U3 x),(U38 x),(U14 x),(U1 x),(U33 x),(U10 x),(U11 x),(U4 x),(U17 x),(U18 x),(U28 x),(U29 x),(U39 x),(U12 x),(U19 x)]) 15) #[])
abbrev My.Y330:Params→W.BT:=(N_ o796 (L_ o215) Z_)
abbrev My.Y329:Params→W.BT:=(N_ o267 (L_ o798) Z_)
abbrev My.Y328:Params→W.BT:=(N_ o267 (L_ o796) Z_)
abbrev My.Y327:Params→W.BT:=(N_ o796 (L_ o798) Z_)
abbrev My.Y326:Params→W.BT:=(N_ o796 (L_ o796) Z_)
abbrev My.Y325:Params→W.BT:=(N_ o798 (L_ o798) Z_)
abbrev My.Y324:Params→W.BT:=(N_ o798 (L_ o796) Z_)
abbrev My.Y323:Params→W.BT:=(N_ o563 (L_ o798) Z_)
abbrev My.Y322:Params→W.BT:=(N_ o798 (L_ o267) (L_ o155))
abbrev My.Y321:Params→W.BT:=(N_ o796 (L_ o798) (L_ o796))
abbrev My.Y320:Params→W.BT:=(N_ o62 (N_ o78 (L_ o113) Z_) (L_ o94))
abbrev My.Y319:Params→W.BT:=(N_ o60 (N_ o76 (L_ o111) Z_) (L_ o92))
abbrev My.Y318:Params→W.BT:=(N_ o798 (N_ o77 (L_ o112) Z_) (L_ o798))
abbrev My.Y317:Params→W.BT:=(N_ o796 (N_ o798 (L_ o110) Z_) (L_ o91))
abbrev My.Y316:Params→W.BT:=(N_ o74 (N_ o798 (L_ o188) Z_) (L_ o798))
abbrev My.Y315:Params→W.BT:=(N_ o78 (N_ o113 (L_ o798) Z_) (L_ o798))
abbrev My.Y314:Params→W.BT:=(N_ o70 Y325 (L_ o143))
abbrev My.Y313:Params→W.BT:=(N_ o76 (N_ o111 (L_ o563) Z_) (L_ o152))
abbrev My.Y312:Params→W.BT:=(N_ o77 (N_ o112 (L_ o194) Z_) (L_ o153))
abbrev My.Y311:Params→W.BT:=(N_ o69 (N_ o104 (L_ o183) Z_) (L_ o142))
abbrev My.Y310:Params→W.BT:=(N_ o71 (N_ o796 (L_ o185) Z_) (L_ o267))
abbrev My.Y309:Params→W.BT:=(N_ o67 Y328 (L_ o140))
abbrev My.Y308:Params→W.BT:=(N_ o86 (N_ o798 (L_ o203) Z_) (L_ o798))
abbrev My.Y307:Params→W.BT:=(N_ o88 (N_ o126 (L_ o563) Z_) (L_ o167))
abbrev My.Y306:Params→W.BT:=(N_ o84 (N_ o122 (L_ o201) Z_) (L_ o563))
abbrev My.Y305:Params→W.BT:=(N_ o81 (N_ o119 (L_ o198) Z_) (L_ o157))
abbrev My.Y304:Params→W.BT:=(N_ o85 (N_ o123 (L_ o202) Z_) (L_ o164))
abbrev My.Y303:Params→W.BT:=(N_ o83 (N_ o796 (L_ o200) Z_) (L_ o267))
abbrev My.Y302:Params→W.BT:=(N_ o98 (N_ o798 (L_ o218) Z_) (L_ o798))
abbrev My.Y301:Params→W.BT:=(N_ o94 Y325 (L_ o173))
abbrev My.Y300:Params→W.BT:=(N_ o96 (N_ o137 (L_ o216) Z_) (L_ o563))
abbrev My.Y299:Params→W.BT:=(N_ o92 (N_ o563 (L_ o212) Z_) (L_ o171))
abbrev My.Y298:Params→W.BT:=(N_ o97 (N_ o138 (L_ o217) Z_) (L_ o179))
abbrev My.Y297:Params→W.BT:=(N_ o91 Y328 (L_ o170))
abbrev My.Y296:Params→W.BT:=(N_ o798 (N_ o107 (L_ o186) Z_) (L_ o563))
abbrev My.Y295:Params→W.BT:=(N_ o798 (N_ o563 (L_ o182) Z_) (L_ o141))
abbrev My.Y294:Params→W.BT:=(N_ o796 (N_ o108 (L_ o187) Z_) (L_ o149))
abbrev My.Y293:Params→W.BT:=(N_ o798 (N_ o110 (L_ o267) Z_) (L_ o796))
abbrev My.Y292:Params→W.BT:=(N_ o798 Y325 (L_ o158))
abbrev My.Y291:Params→W.BT:=(N_ o796 (N_ o128 (L_ o798) Z_) (L_ o798))
abbrev My.Y290:Params→W.BT:=(N_ o796 (N_ o563 (L_ o197) Z_) (L_ o156))
abbrev My.Y289:Params→W.BT:=(N_ o798 (N_ o127 (L_ o209) Z_) (L_ o168))
abbrev My.Y288:Params→W.BT:=(N_ o798 Y328 (L_ o155))
abbrev My.Y287:Params→W.BT:=(N_ o563 (N_ o125 (L_ o267) Z_) (L_ o796))
abbrev My.Y286:Params→W.BT:=(N_ o798 (N_ o134 (L_ o213) Z_) (L_ o172))
abbrev My.Y285:Params→W.BT:=(N_ o798 (N_ o188 (L_ o336) Z_) (L_ o798))
abbrev My.Y284:Params→W.BT:=(N_ o113 (N_ o798 (L_ o340) Z_) (L_ o798))
abbrev My.Y283:Params→W.BT:=(N_ o798 (N_ o798 (L_ o332) Z_) (L_ o263))
abbrev My.Y282:Params→W.BT:=(N_ o563 (N_ o197 (L_ o342) Z_) (L_ o276))
abbrev My.Y281:Params→W.BT:=(N_ o107 (N_ o186 (L_ o334) Z_) (L_ o563))
abbrev My.Y280:Params→W.BT:=(N_ o111 (N_ o563 (L_ o338) Z_) (L_ o272))
abbrev My.Y279:Params→W.BT:=(N_ o563 (N_ o182 (L_ o798) Z_) (L_ o261))
abbrev My.Y278:Params→W.BT:=(N_ o119 (N_ o198 (L_ o343) Z_) (L_ o277))
abbrev My.Y277:Params→W.BT:=(N_ o108 (N_ o187 (L_ o335) Z_) (L_ o269))
abbrev My.Y276:Params→W.BT:=(N_ o104 (N_ o183 (L_ o796) Z_) (L_ o262))
abbrev My.Y275:Params→W.BT:=(N_ o267 (N_ o796 (L_ o341) Z_) (L_ o275))
abbrev My.Y274:Params→W.BT:=(N_ o796 (N_ o185 (L_ o798) Z_) (L_ o267))
abbrev My.Y273:Params→W.BT:=(N_ o110 Y329 (L_ o796))
abbrev My.Y272:Params→W.BT:=(N_ o267 (N_ o796 (L_ o329) Z_) (L_ o260))
abbrev My.Y271:Params→W.BT:=(N_ o798 (N_ o218 (L_ o363) Z_) (L_ o796))
abbrev My.Y270:Params→W.BT:=(N_ o158 (N_ o798 (L_ o379) Z_) (L_ o798))
abbrev My.Y269:Params→W.BT:=(N_ o798 Y325 (L_ o304))
abbrev My.Y268:Params→W.BT:=(N_ o798 (N_ o798 (L_ o359) Z_) (L_ o292))
abbrev My.Y267:Params→W.BT:=(N_ o798 (N_ o233 (L_ o375) Z_) (L_ o308))
abbrev My.Y266:Params→W.BT:=(N_ o143 (N_ o798 (L_ o367) Z_) (L_ o300))
abbrev My.Y265:Params→W.BT:=(N_ o137 (N_ o216 (L_ o798) Z_) (L_ o294))
abbrev My.Y264:Params→W.BT:=(N_ o156 (N_ o563 (L_ o377) Z_) (L_ o796))
abbrev My.Y263:Params→W.BT:=(N_ o563 (N_ o227 (L_ o796) Z_) (L_ o798))
abbrev My.Y262:Params→W.BT:=(N_ o563 (N_ o212 (L_ o798) Z_) (L_ o290))
abbrev My.Y261:Params→W.BT:=(N_ o152 (N_ o231 (L_ o373) Z_) (L_ o306))
abbrev My.Y260:Params→W.BT:=(N_ o141 (N_ o563 (L_ o365) Z_) (L_ o798))
abbrev My.Y259:Params→W.BT:=(N_ o138 (N_ o217 (L_ o796) Z_) (L_ o798))
abbrev My.Y258:Params→W.BT:=(N_ o157 (N_ o239 (L_ o378) Z_) (L_ o311))
abbrev My.Y257:Params→W.BT:=(N_ o149 (N_ o228 (L_ o370) Z_) (L_ o796))
abbrev My.Y256:Params→W.BT:=(N_ o134 (N_ o213 (L_ o358) Z_) (L_ o798))
abbrev My.Y255:Params→W.BT:=(N_ o153 (N_ o232 (L_ o374) Z_) (L_ o307))
abbrev My.Y254:Params→W.BT:=(N_ o142 (N_ o224 (L_ o366) Z_) (L_ o299))
abbrev My.Y253:Params→W.BT:=(N_ o796 (N_ o215 (L_ o360) Z_) (L_ o293))
abbrev My.Y252:Params→W.BT:=(N_ o155 (N_ o267 (L_ o376) Z_) (L_ o798))
abbrev My.Y251:Params→W.BT:=(N_ o267 Y327 (L_ o301))
abbrev My.Y250:Params→W.BT:=(N_ o267 (N_ o796 (L_ o356) Z_) (L_ o563))
abbrev My.Y249:Params→W.BT:=(N_ o796 (N_ o230 (L_ o372) Z_) (L_ o798))
abbrev My.Y248:Params→W.BT:=(N_ o140 Y329 (L_ o297))
abbrev My.Y247:Params→W.BT:=(N_ o188 (N_ o336 (L_ o610) Z_) (L_ o562))
abbrev My.Y246:Params→W.BT:=(N_ o798 (N_ o340 (L_ o614) Z_) (L_ o480))
abbrev My.Y245:Params→W.BT:=(N_ o798 (N_ o332 (L_ o606) Z_) (L_ o469))
abbrev My.Y244:Params→W.BT:=(N_ o186 (N_ o334 (L_ o608) Z_) (L_ o471))
abbrev My.Y243:Params→W.BT:=(N_ o563 (N_ o338 (L_ o612) Z_) (L_ o478))
abbrev My.Y242:Params→W.BT:=(N_ o182 Y325 (L_ o467))
abbrev My.Y241:Params→W.BT:=(N_ o187 (N_ o335 (L_ o609) Z_) (L_ o472))
abbrev My.Y240:Params→W.BT:=(N_ o194 (N_ o561 (L_ o613) Z_) (L_ o798))
abbrev My.Y239:Params→W.BT:=(N_ o183 Y326 (L_ o468))
abbrev My.Y238:Params→W.BT:=(N_ o796 (N_ o341 (L_ o615) Z_) (L_ o481))
abbrev My.Y237:Params→W.BT:=(N_ o185 Y325 (L_ o470))
abbrev My.Y236:Params→W.BT:=(N_ o267 (N_ o798 (L_ o611) Z_) (L_ o563))
abbrev My.Y235:Params→W.BT:=(N_ o796 (N_ o329 (L_ o603) Z_) (L_ o466))
abbrev My.Y234:Params→W.BT:=(N_ o798 Y326 (L_ o535))
abbrev My.Y233:Params→W.BT:=(N_ o798 (N_ o379 (L_ o652) Z_) (L_ o798))
abbrev My.Y232:Params→W.BT:=(N_ o248 Y325 (L_ o796))
abbrev My.Y231:Params→W.BT:=(N_ o798 (N_ o394 (L_ o664) Z_) (L_ o531))
abbrev My.Y230:Params→W.BT:=(N_ o798 Y325 (L_ o523))
abbrev My.Y229:Params→W.BT:=(N_ o257 (N_ o396 (L_ o666) Z_) (L_ o798))
abbrev My.Y228:Params→W.BT:=(N_ o246 (N_ o388 (L_ o658) Z_) (L_ o525))
abbrev My.Y227:Params→W.BT:=(N_ o563 (N_ o392 (L_ o662) Z_) (L_ o798))
abbrev My.Y226:Params→W.BT:=(N_ o242 (N_ o563 (L_ o796) Z_) (L_ o521))
abbrev My.Y225:Params→W.BT:=(N_ o258 Y325 (L_ o796))
abbrev My.Y224:Params→W.BT:=(N_ o239 (N_ o378 (L_ o651) Z_) (L_ o518))
abbrev My.Y223:Params→W.BT:=(N_ o247 (N_ o389 (L_ o659) Z_) (L_ o798))
abbrev My.Y222:Params→W.BT:=(N_ o254 Y325 (L_ o530))
abbrev My.Y221:Params→W.BT:=(N_ o243 (N_ o385 (L_ o655) Z_) (L_ o798))
abbrev My.Y220:Params→W.BT:=(N_ o796 (N_ o395 (L_ o665) Z_) (L_ o532))
abbrev My.Y219:Params→W.BT:=(N_ o245 (N_ o387 (L_ o657) Z_) (L_ o524))
abbrev My.Y218:Params→W.BT:=(N_ o267 Y326 (L_ o528))
abbrev My.Y217:Params→W.BT:=(N_ o796 (N_ o562 (L_ o798) Z_) (L_ o796))
abbrev My.Y216:Params→W.BT:=(N_ o260 (N_ o399 (L_ o669) Z_) (L_ o798))
abbrev My.Y215:Params→W.BT:=(N_ o328 (N_ o465 (L_ o734) Z_) (L_ o602))
abbrev My.Y214:Params→W.BT:=(N_ o798 (N_ o449 (L_ o798) Z_) (L_ o798))
abbrev My.Y213:Params→W.BT:=(N_ o278 Y325 (L_ o551))
abbrev My.Y212:Params→W.BT:=(N_ o320 Y324 (L_ o594))
abbrev My.Y211:Params→W.BT:=(N_ o798 (N_ o422 (L_ o692) Z_) (L_ o562))
abbrev My.Y210:Params→W.BT:=(N_ o798 (N_ o406 (L_ o676) Z_) (L_ o798))
abbrev My.Y209:Params→W.BT:=(N_ o796 (N_ o798 (L_ o730) Z_) (L_ o796))
abbrev My.Y208:Params→W.BT:=(N_ o798 (N_ o410 (L_ o680) Z_) (L_ o798))
abbrev My.Y207:Params→W.BT:=(N_ o798 (N_ o453 (L_ o722) Z_) (L_ o798))
abbrev My.Y206:Params→W.BT:=(N_ o798 (N_ o418 (L_ o798) Z_) (L_ o555))
abbrev My.Y205:Params→W.BT:=(N_ o263 (N_ o402 (L_ o672) Z_) (L_ o539))
abbrev My.Y204:Params→W.BT:=(N_ o798 (N_ o463 (L_ o798) Z_) (L_ o798))
abbrev My.Y203:Params→W.BT:=(N_ o276 Y326 (L_ o549))
abbrev My.Y202:Params→W.BT:=(N_ o318 (N_ o796 (L_ o724) Z_) (L_ o592))
abbrev My.Y201:Params→W.BT:=(N_ o284 (N_ o420 (L_ o690) Z_) (L_ o557))
abbrev My.Y200:Params→W.BT:=(N_ o563 Y325 (L_ o796))
abbrev My.Y199:Params→W.BT:=(N_ o322 (N_ o459 (L_ o798) Z_) (L_ o596))
abbrev My.Y198:Params→W.BT:=(N_ o290 (N_ o563 (L_ o694) Z_) (L_ o564))
abbrev My.Y197:Params→W.BT:=(N_ o272 (N_ o408 (L_ o678) Z_) (L_ o545))
abbrev My.Y196:Params→W.BT:=(N_ o314 (N_ o451 (L_ o720) Z_) (L_ o588))
abbrev My.Y195:Params→W.BT:=(N_ o796 (N_ o416 (L_ o686) Z_) (L_ o553))
abbrev My.Y194:Params→W.BT:=(N_ o261 Y325 (L_ o537))
abbrev My.Y193:Params→W.BT:=(N_ o327 Y324 (L_ o601))
abbrev My.Y192:Params→W.BT:=(N_ o311 (N_ o796 (L_ o717) Z_) (L_ o585))
abbrev My.Y191:Params→W.BT:=(N_ o277 (N_ o413 (L_ o683) Z_) (L_ o798))
abbrev My.Y190:Params→W.BT:=(N_ o798 (N_ o456 (L_ o798) Z_) (L_ o798))
abbrev My.Y189:Params→W.BT:=(N_ o285 (N_ o421 (L_ o798) Z_) (L_ o558))
abbrev My.Y188:Params→W.BT:=(N_ o269 Y326 (L_ o542))
abbrev My.Y187:Params→W.BT:=(N_ o798 (N_ o460 (L_ o729) Z_) (L_ o798))
abbrev My.Y186:Params→W.BT:=(N_ o273 (N_ o409 (L_ o679) Z_) (L_ o546))
abbrev My.Y185:Params→W.BT:=(N_ o315 (N_ o452 (L_ o798) Z_) (L_ o589))
abbrev My.Y184:Params→W.BT:=(N_ o281 (N_ o417 (L_ o687) Z_) (L_ o554))
abbrev My.Y183:Params→W.BT:=(N_ o262 (N_ o401 (L_ o671) Z_) (L_ o538))
abbrev My.Y182:Params→W.BT:=(N_ o325 (N_ o796 (L_ o731) Z_) (L_ o599))
abbrev My.Y181:Params→W.BT:=(N_ o275 Y325 (L_ o796))
abbrev My.Y180:Params→W.BT:=(N_ o796 (N_ o798 (L_ o723) Z_) (L_ o796))
abbrev My.Y179:Params→W.BT:=(N_ o283 (N_ o419 (L_ o796) Z_) (L_ o556))
abbrev My.Y178:Params→W.BT:=(N_ o267 (N_ o403 (L_ o673) Z_) (L_ o798))
abbrev My.Y177:Params→W.BT:=(N_ o321 (N_ o458 (L_ o727) Z_) (L_ o595))
abbrev My.Y176:Params→W.BT:=(N_ o563 (N_ o562 (L_ o693) Z_) (L_ o563))
abbrev My.Y175:Params→W.BT:=(N_ o796 Y325 (L_ o544))
abbrev My.Y174:Params→W.BT:=(N_ o313 Y324 (L_ o587))
abbrev My.Y173:Params→W.BT:=(N_ o798 (N_ o415 (L_ o685) Z_) (L_ o552))
abbrev My.Y172:Params→W.BT:=(N_ o56 (N_ o798 (L_ o107) Z_) (N_ o88 (L_ o126) Z_))
abbrev My.Y171:Params→W.BT:=(N_ o55 (N_ o71 (L_ o796) Z_) (N_ o563 (L_ o125) Z_))
abbrev My.Y170:Params→W.BT:=(N_ o798 (N_ o74 (L_ o798) Z_) (N_ o796 (L_ o128) Z_))
abbrev My.Y169:Params→W.BT:=(N_ o57 (N_ o796 (L_ o108) Z_) (N_ o798 (L_ o127) Z_))
abbrev My.Y168:Params→W.BT:=(N_ o70 Y325 (N_ o143 (L_ o798) Z_))
abbrev My.Y167:Params→W.BT:=(N_ o69 (N_ o104 (L_ o183) Z_) (N_ o142 (L_ o224) Z_))
abbrev My.Y166:Params→W.BT:=(N_ o67 Y328 (N_ o140 (L_ o267) Z_))
abbrev My.Y165:Params→W.BT:=(N_ o74 (N_ o798 (L_ o188) Z_) Y325)
abbrev My.Y164:Params→W.BT:=(N_ o78 (N_ o113 (L_ o798) Z_) (N_ o798 (L_ o233) Z_))
abbrev My.Y163:Params→W.BT:=(N_ o86 (N_ o798 (L_ o203) Z_) Y325)
abbrev My.Y162:Params→W.BT:=(N_ o76 (N_ o111 (L_ o563) Z_) (N_ o152 (L_ o231) Z_))
abbrev My.Y161:Params→W.BT:=(N_ o84 (N_ o122 (L_ o201) Z_) (N_ o563 (L_ o242) Z_))
abbrev My.Y160:Params→W.BT:=(N_ o81 (N_ o119 (L_ o198) Z_) (N_ o157 (L_ o239) Z_))
abbrev My.Y159:Params→W.BT:=(N_ o77 (N_ o112 (L_ o194) Z_) (N_ o153 (L_ o232) Z_))
abbrev My.Y158:Params→W.BT:=(N_ o85 (N_ o123 (L_ o202) Z_) (N_ o164 (L_ o243) Z_))
abbrev My.Y157:Params→W.BT:=(N_ o71 (N_ o796 (L_ o185) Z_) Y328)
abbrev My.Y156:Params→W.BT:=(N_ o83 (N_ o796 (L_ o200) Z_) Y328)
abbrev My.Y155:Params→W.BT:=(N_ o98 (N_ o798 (L_ o218) Z_) Y325)
abbrev My.Y154:Params→W.BT:=(N_ o94 Y325 (N_ o173 (L_ o798) Z_))
abbrev My.Y153:Params→W.BT:=(N_ o96 (N_ o137 (L_ o216) Z_) (N_ o563 (L_ o257) Z_))
abbrev My.Y152:Params→W.BT:=(N_ o92 (N_ o563 (L_ o212) Z_) (N_ o171 (L_ o563) Z_))
abbrev My.Y151:Params→W.BT:=(N_ o97 (N_ o138 (L_ o217) Z_) (N_ o179 (L_ o258) Z_))
abbrev My.Y150:Params→W.BT:=(N_ o91 Y328 (N_ o170 (L_ o267) Z_))
abbrev My.Y149:Params→W.BT:=(N_ o798 (N_ o563 (L_ o182) Z_) (N_ o141 (L_ o563) Z_))
abbrev My.Y148:Params→W.BT:=(N_ o798 Y325 (N_ o158 (L_ o798) Z_))
abbrev My.Y147:Params→W.BT:=(N_ o796 (N_ o563 (L_ o197) Z_) (N_ o156 (L_ o563) Z_))
abbrev My.Y146:Params→W.BT:=(N_ o798 (N_ o107 (L_ o186) Z_) (N_ o563 (L_ o227) Z_))
abbrev My.Y145:Params→W.BT:=(N_ o796 (N_ o108 (L_ o187) Z_) (N_ o149 (L_ o228) Z_))
abbrev My.Y144:Params→W.BT:=(N_ o798 Y328 (N_ o155 (L_ o267) Z_))
abbrev My.Y143:Params→W.BT:=(N_ o798 (N_ o110 (L_ o267) Z_) (N_ o796 (L_ o230) Z_))
abbrev My.Y142:Params→W.BT:=(N_ o796 (N_ o128 (L_ o798) Z_) (N_ o798 (L_ o248) Z_))
abbrev My.Y141:Params→W.BT:=(N_ o798 (N_ o134 (L_ o213) Z_) (N_ o172 (L_ o254) Z_))
abbrev My.Y140:Params→W.BT:=(N_ o798 (N_ o798 (L_ o562) Z_) (N_ o278 (L_ o798) Z_))
abbrev My.Y139:Params→W.BT:=(N_ o128 Y324 (N_ o798 (L_ o422) Z_))
abbrev My.Y138:Params→W.BT:=(N_ o798 (N_ o188 (L_ o336) Z_) (N_ o798 (L_ o406) Z_))
abbrev My.Y137:Params→W.BT:=(N_ o113 (N_ o798 (L_ o340) Z_) (N_ o798 (L_ o410) Z_))
abbrev My.Y136:Params→W.BT:=(N_ o798 (N_ o203 (L_ o351) Z_) (N_ o798 (L_ o418) Z_))
abbrev My.Y135:Params→W.BT:=(N_ o563 (N_ o197 (L_ o342) Z_) (N_ o276 (L_ o796) Z_))
abbrev My.Y134:Params→W.BT:=(N_ o126 (N_ o563 (L_ o353) Z_) (N_ o284 (L_ o420) Z_))
abbrev My.Y133:Params→W.BT:=(N_ o111 (N_ o563 (L_ o338) Z_) (N_ o272 (L_ o408) Z_))
abbrev My.Y132:Params→W.BT:=(N_ o122 (N_ o201 (L_ o349) Z_) (N_ o796 (L_ o416) Z_))
abbrev My.Y131:Params→W.BT:=(N_ o119 (N_ o198 (L_ o343) Z_) (N_ o277 (L_ o413) Z_))
abbrev My.Y130:Params→W.BT:=(N_ o127 (N_ o209 (L_ o798) Z_) (N_ o285 (L_ o421) Z_))
abbrev My.Y129:Params→W.BT:=(N_ o123 (N_ o202 (L_ o798) Z_) (N_ o281 (L_ o417) Z_))
abbrev My.Y128:Params→W.BT:=(N_ o267 (N_ o796 (L_ o341) Z_) (N_ o275 (L_ o798) Z_))
abbrev My.Y127:Params→W.BT:=(N_ o125 (N_ o267 (L_ o352) Z_) (N_ o283 (L_ o419) Z_))
abbrev My.Y126:Params→W.BT:=(N_ o110 Y329 Y327)
abbrev My.Y125:Params→W.BT:=(N_ o796 (N_ o200 (L_ o563) Z_) (N_ o798 (L_ o415) Z_))
abbrev My.Y124:Params→W.BT:=(N_ o798 Y324 (N_ o328 (L_ o465) Z_))
abbrev My.Y123:Params→W.BT:=(N_ o158 (N_ o798 (L_ o379) Z_) (N_ o798 (L_ o449) Z_))
abbrev My.Y122:Params→W.BT:=(N_ o798 (N_ o248 (L_ o798) Z_) (N_ o320 (L_ o798) Z_))
abbrev My.Y121:Params→W.BT:=(N_ o173 (N_ o798 (L_ o394) Z_) Y327)
abbrev My.Y120:Params→W.BT:=(N_ o798 (N_ o233 (L_ o375) Z_) (N_ o308 (L_ o445) Z_))
abbrev My.Y119:Params→W.BT:=(N_ o798 Y325 (N_ o798 (L_ o453) Z_))
abbrev My.Y118:Params→W.BT:=(N_ o563 (N_ o257 (L_ o396) Z_) (N_ o798 (L_ o463) Z_))
abbrev My.Y117:Params→W.BT:=(N_ o156 (N_ o563 (L_ o377) Z_) Y327)
abbrev My.Y116:Params→W.BT:=(N_ o167 (N_ o246 (L_ o388) Z_) (N_ o318 (L_ o796) Z_))
abbrev My.Y115:Params→W.BT:=(N_ o171 (N_ o563 (L_ o392) Z_) (N_ o322 (L_ o459) Z_))
abbrev My.Y114:Params→W.BT:=(N_ o152 (N_ o231 (L_ o373) Z_) (N_ o306 (L_ o798) Z_))
abbrev My.Y113:Params→W.BT:=(N_ o563 (N_ o242 (L_ o563) Z_) (N_ o314 (L_ o451) Z_))
abbrev My.Y112:Params→W.BT:=(N_ o179 (N_ o258 (L_ o798) Z_) (N_ o327 (L_ o798) Z_))
abbrev My.Y111:Params→W.BT:=(N_ o157 (N_ o239 (L_ o378) Z_) (N_ o311 (L_ o796) Z_))
abbrev My.Y110:Params→W.BT:=(N_ o168 (N_ o247 (L_ o389) Z_) (N_ o798 (L_ o456) Z_))
abbrev My.Y109:Params→W.BT:=(N_ o172 (N_ o254 (L_ o798) Z_) (N_ o798 (L_ o460) Z_))
abbrev My.Y108:Params→W.BT:=(N_ o153 (N_ o232 (L_ o374) Z_) (N_ o307 (L_ o444) Z_))
abbrev My.Y107:Params→W.BT:=(N_ o164 (N_ o243 (L_ o385) Z_) (N_ o315 (L_ o452) Z_))
abbrev My.Y106:Params→W.BT:=(N_ o267 (N_ o796 (L_ o395) Z_) (N_ o325 (L_ o796) Z_))
abbrev My.Y105:Params→W.BT:=(N_ o155 (N_ o267 (L_ o376) Z_) (N_ o798 (L_ o446) Z_))
abbrev My.Y104:Params→W.BT:=(N_ o796 (N_ o245 (L_ o387) Z_) Y327)
abbrev My.Y103:Params→W.BT:=(N_ o170 Y328 (N_ o321 (L_ o458) Z_))
abbrev My.Y102:Params→W.BT:=(N_ o796 (N_ o230 (L_ o372) Z_) (N_ o798 (L_ o442) Z_))
abbrev My.Y101:Params→W.BT:=(N_ o267 (N_ o796 (L_ o562) Z_) (N_ o313 (L_ o798) Z_))
abbrev My.Y100:Params→W.BT:=(N_ o796 (N_ o329 (L_ o603) Z_) (N_ o466 (L_ o798) Z_))
abbrev My.Y99:Params→W.BT:=(N_ o53 (N_ o69 (L_ o104) (L_ o142)) (N_ o85 (L_ o123) Z_))
abbrev My.Y98:Params→W.BT:=(N_ o798 (N_ o70 (L_ o798) (L_ o143)) (N_ o86 (L_ o798) Z_))
abbrev My.Y97:Params→W.BT:=(N_ o798 (N_ o67 (L_ o267) (L_ o140)) (N_ o83 (L_ o796) Z_))
abbrev My.Y96:Params→W.BT:=(N_ o64 (N_ o796 (L_ o563) (L_ o156)) (N_ o96 (L_ o137) Z_))
abbrev My.Y95:Params→W.BT:=(N_ o798 (N_ o81 (L_ o119) (L_ o157)) (N_ o97 (L_ o138) Z_))
abbrev My.Y94:Params→W.BT:=(N_ o796 (N_ o798 (L_ o563) (L_ o141)) (N_ o84 (L_ o122) Z_))
abbrev My.Y93:Params→W.BT:=(N_ o796 (N_ o798 (L_ o798) (L_ o158)) (N_ o98 (L_ o798) Z_))
abbrev My.Y92:Params→W.BT:=(N_ o70 (N_ o798 (L_ o798) (L_ o263)) (N_ o143 (L_ o798) Z_))
abbrev My.Y91:Params→W.BT:=(N_ o69 (N_ o104 (L_ o183) (L_ o262)) (N_ o142 (L_ o224) Z_))
abbrev My.Y90:Params→W.BT:=(N_ o67 (N_ o267 (L_ o796) (L_ o260)) (N_ o140 (L_ o267) Z_))
abbrev My.Y89:Params→W.BT:=(N_ o798 (N_ o563 (L_ o182) (L_ o261)) (N_ o141 (L_ o563) Z_))
abbrev My.Y88:Params→W.BT:=(N_ o798 (N_ o798 (L_ o332) (L_ o469)) (N_ o263 (L_ o402) Z_))
abbrev My.Y87:Params→W.BT:=(N_ o107 (N_ o186 (L_ o334) (L_ o471)) Y323)
abbrev My.Y86:Params→W.BT:=(N_ o563 (N_ o182 (L_ o798) (L_ o467)) (N_ o261 (L_ o798) Z_))
abbrev My.Y85:Params→W.BT:=(N_ o108 (N_ o187 (L_ o335) (L_ o472)) (N_ o269 (L_ o796) Z_))
abbrev My.Y84:Params→W.BT:=(N_ o104 (N_ o183 (L_ o796) (L_ o468)) (N_ o262 (L_ o401) Z_))
abbrev My.Y83:Params→W.BT:=(N_ o796 (N_ o185 (L_ o798) (L_ o470)) (N_ o267 (L_ o403) Z_))
abbrev My.Y82:Params→W.BT:=(N_ o267 (N_ o796 (L_ o329) (L_ o466)) (N_ o260 (L_ o399) Z_))
abbrev My.Y81:Params→W.BT:=(N_ o798 (N_ o218 (L_ o363) (L_ o798)) Y327)
abbrev My.Y80:Params→W.BT:=(N_ o128 (N_ o798 (L_ o796) (L_ o492)) (N_ o798 (L_ o422) Z_))
abbrev My.Y79:Params→W.BT:=(N_ o798 (N_ o798 (L_ o798) (L_ o508)) (N_ o304 (L_ o796) Z_))
abbrev My.Y78:Params→W.BT:=(N_ o798 (N_ o798 (L_ o359) (L_ o496)) (N_ o292 (L_ o798) Z_))
abbrev My.Y77:Params→W.BT:=(N_ o143 (N_ o798 (L_ o367) (L_ o504)) (N_ o300 (L_ o437) Z_))
abbrev My.Y76:Params→W.BT:=(N_ o137 (N_ o216 (L_ o798) (L_ o796)) (N_ o294 (L_ o431) Z_))
abbrev My.Y75:Params→W.BT:=(N_ o563 (N_ o227 (L_ o796) (L_ o506)) (N_ o798 (L_ o439) Z_))
abbrev My.Y74:Params→W.BT:=(N_ o563 (N_ o212 (L_ o798) (L_ o494)) (N_ o290 (L_ o563) Z_))
abbrev My.Y73:Params→W.BT:=(N_ o141 (N_ o563 (L_ o365) (L_ o502)) (N_ o798 (L_ o435) Z_))
abbrev My.Y72:Params→W.BT:=(N_ o138 (N_ o217 (L_ o796) (L_ o499)) (N_ o798 (L_ o432) Z_))
abbrev My.Y71:Params→W.BT:=(N_ o149 (N_ o228 (L_ o370) (L_ o507)) Y327)
abbrev My.Y70:Params→W.BT:=(N_ o134 (N_ o213 (L_ o358) (L_ o495)) (N_ o798 (L_ o428) Z_))
abbrev My.Y69:Params→W.BT:=(N_ o142 (N_ o224 (L_ o366) (L_ o503)) (N_ o299 (L_ o798) Z_))
abbrev My.Y68:Params→W.BT:=(N_ o796 (N_ o215 (L_ o360) (L_ o798)) (N_ o293 (L_ o430) Z_))
abbrev My.Y67:Params→W.BT:=(N_ o267 (N_ o796 (L_ o798) (L_ o505)) (N_ o301 (L_ o438) Z_))
abbrev My.Y66:Params→W.BT:=(N_ o267 (N_ o796 (L_ o356) (L_ o798)) (N_ o563 (L_ o562) Z_))
abbrev My.Y65:Params→W.BT:=(N_ o140 (N_ o267 (L_ o798) (L_ o501)) (N_ o297 (L_ o796) Z_))
abbrev My.Y64:Params→W.BT:=(N_ o62 (N_ o78 (L_ o113) (L_ o798)) (N_ o94 (L_ o798) (L_ o173)))
abbrev My.Y63:Params→W.BT:=(N_ o60 (N_ o76 (L_ o111) (L_ o152)) (N_ o92 (L_ o563) (L_ o171)))
abbrev My.Y62:Params→W.BT:=(N_ o798 (N_ o77 (L_ o112) (L_ o153)) (N_ o798 (L_ o134) (L_ o172)))
abbrev My.Y61:Params→W.BT:=(N_ o796 (N_ o798 (L_ o110) (L_ o796)) (N_ o91 (L_ o267) (L_ o170)))
abbrev My.Y60:Params→W.BT:=(N_ o798 (N_ o798 (L_ o562) (L_ o796)) (N_ o278 (L_ o798) (L_ o551)))
abbrev My.Y59:Params→W.BT:=(N_ o798 (N_ o203 (L_ o351) (L_ o488)) (N_ o798 (L_ o418) (L_ o555)))
abbrev My.Y58:Params→W.BT:=(N_ o563 (N_ o197 (L_ o342) (L_ o482)) (N_ o276 (L_ o796) (L_ o549)))
abbrev My.Y57:Params→W.BT:=(N_ o126 (N_ o563 (L_ o353) (L_ o798)) (N_ o284 (L_ o420) (L_ o557)))
abbrev My.Y56:Params→W.BT:=(N_ o122 (N_ o201 (L_ o349) (L_ o798)) (N_ o796 (L_ o416) (L_ o553)))
abbrev My.Y55:Params→W.BT:=(N_ o119 (N_ o198 (L_ o343) (L_ o798)) (N_ o277 (L_ o413) (L_ o798)))
abbrev My.Y54:Params→W.BT:=(N_ o127 (N_ o209 (L_ o798) (L_ o796)) (N_ o285 (L_ o421) (L_ o558)))
abbrev My.Y53:Params→W.BT:=(N_ o123 (N_ o202 (L_ o798) (L_ o487)) (N_ o281 (L_ o417) (L_ o554)))
abbrev My.Y52:Params→W.BT:=(N_ o125 (N_ o267 (L_ o352) (L_ o489)) (N_ o283 (L_ o419) (L_ o556)))
abbrev My.Y51:Params→W.BT:=(N_ o796 (N_ o200 (L_ o563) (L_ o485)) (N_ o798 (L_ o415) (L_ o552)))
abbrev My.Y50:Params→W.BT:=(N_ o56 Y296 (N_ o88 (L_ o126) (L_ o167)))
abbrev My.Y49:Params→W.BT:=(N_ o55 Y310 (N_ o563 (L_ o125) (L_ o796)))
abbrev My.Y48:Params→W.BT:=(N_ o798 Y316 (N_ o796 (L_ o128) (L_ o798)))
abbrev My.Y47:Params→W.BT:=(N_ o57 Y294 (N_ o798 (L_ o127) (L_ o168)))
abbrev My.Y46:Params→W.BT:=(N_ o53 Y311 Y304)
abbrev My.Y45:Params→W.BT:=(N_ o798 Y314 Y308)
abbrev My.Y44:Params→W.BT:=(N_ o798 Y309 Y303)
abbrev My.Y43:Params→W.BT:=(N_ o64 Y290 Y300)
abbrev My.Y42:Params→W.BT:=(N_ o798 Y305 Y298)
abbrev My.Y41:Params→W.BT:=(N_ o796 Y295 Y306)
abbrev My.Y40:Params→W.BT:=(N_ o796 Y292 Y302)
abbrev My.Y39:Params→W.BT:=(N_ o62 Y164 Y301)
abbrev My.Y38:Params→W.BT:=(N_ o60 Y162 Y299)
abbrev My.Y37:Params→W.BT:=(N_ o798 Y159 Y286)
abbrev My.Y36:Params→W.BT:=(N_ o796 Y143 Y297)
abbrev My.Y35:Params→W.BT:=(N_ o798 (N_ o218 (N_ o363 (L_ o636) Z_) (N_ o798 (L_ o766) Z_)) (N_ o796 (N_ o798 (L_ o702) Z_) (L_ o796)))
abbrev My.Y34:Params→W.BT:=(N_ o798 (N_ o798 (N_ o562 (L_ o620) Z_) (N_ o796 (L_ o750) Z_)) Y213)
abbrev My.Y33:Params→W.BT:=(N_ o128 (N_ o798 Y327 (N_ o492 (L_ o758) Z_)) Y211)
abbrev My.Y32:Params→W.BT:=(N_ o798 (N_ o798 (N_ o359 (L_ o798) Z_) (N_ o496 (L_ o762) Z_)) (N_ o292 Y324 (L_ o566)))
abbrev My.Y31:Params→W.BT:=(N_ o798 (N_ o203 (N_ o351 (L_ o624) Z_) (N_ o488 (L_ o796) Z_)) Y206)
abbrev My.Y30:Params→W.BT:=(N_ o137 (N_ o216 (N_ o798 (L_ o634) Z_) (N_ o796 (L_ o764) Z_)) (N_ o294 (N_ o431 (L_ o798) Z_) (L_ o568)))
abbrev My.Y29:Params→W.BT:=(N_ o126 (N_ o563 (N_ o353 (L_ o796) Z_) Y325) Y201)
abbrev My.Y28:Params→W.BT:=(N_ o563 (N_ o212 (N_ o798 (L_ o630) Z_) (N_ o494 (L_ o798) Z_)) Y198)
abbrev My.Y27:Params→W.BT:=(N_ o122 (N_ o201 (N_ o349 (L_ o622) Z_) (N_ o798 (L_ o752) Z_)) Y195)
abbrev My.Y26:Params→W.BT:=(N_ o138 (N_ o217 Y327 (N_ o499 (L_ o765) Z_)) (N_ o798 (N_ o432 (L_ o701) Z_) (L_ o798)))
abbrev My.Y25:Params→W.BT:=(N_ o119 (N_ o198 (N_ o343 (L_ o796) Z_) Y325) Y191)
abbrev My.Y24:Params→W.BT:=(N_ o127 (N_ o209 (N_ o798 (L_ o627) Z_) (N_ o796 (L_ o757) Z_)) Y189)
abbrev My.Y23:Params→W.BT:=(N_ o134 (N_ o213 (N_ o358 (L_ o631) Z_) (N_ o495 (L_ o796) Z_)) (N_ o798 (N_ o428 (L_ o798) Z_) (L_ o798)))
abbrev My.Y22:Params→W.BT:=(N_ o123 (N_ o202 (N_ o798 (L_ o623) Z_) (N_ o487 (L_ o798) Z_)) Y184)
abbrev My.Y21:Params→W.BT:=(N_ o796 (N_ o215 (N_ o360 (L_ o796) Z_) Y325) (N_ o293 (N_ o430 (L_ o699) Z_) (L_ o567)))
abbrev My.Y20:Params→W.BT:=(N_ o125 (N_ o267 (N_ o352 (L_ o798) Z_) (N_ o489 (L_ o755) Z_)) Y179)
abbrev My.Y19:Params→W.BT:=(N_ o267 (N_ o796 (N_ o356 (L_ o629) Z_) (N_ o798 (L_ o759) Z_)) Y176)
abbrev My.Y18:Params→W.BT:=(N_ o796 (N_ o200 Y323 (N_ o485 (L_ o751) Z_)) Y173)
abbrev My.Y17:Params→W.BT:=(N_ o140 (N_ o267 (N_ o798 (L_ o637) Z_) (N_ o501 (L_ o798) Z_)) (N_ o297 (N_ o796 (L_ o703) Z_) (L_ o571)))
abbrev My.Y16:Params→W.BT:=(N_ o56 Y146 (N_ o88 (N_ o126 (L_ o563) Z_) (N_ o167 (L_ o246) Z_)))
abbrev My.Y15:Params→W.BT:=(N_ o55 Y157 (N_ o563 (N_ o125 (L_ o267) Z_) (N_ o796 (L_ o245) Z_)))
abbrev My.Y14:Params→W.BT:=(N_ o798 Y165 Y142)
abbrev My.Y13:Params→W.BT:=(N_ o57 Y145 (N_ o798 (N_ o127 (L_ o209) Z_) (N_ o168 (L_ o247) Z_)))
abbrev My.Y12:Params→W.BT:=(N_ o74 (N_ o798 (N_ o188 (N_ o336 (L_ o610) Z_) (N_ o562 (L_ o798) Z_)) Y210) (N_ o798 (N_ o798 (N_ o798 (L_ o644) Z_) (N_ o508 (L_ o798) Z_)) (N_ o304 (N_ o796 (L_ o710) Z_) (L_ o578))))
abbrev My.Y11:Params→W.BT:=(N_ o78 (N_ o113 (N_ o798 (N_ o340 (L_ o614) Z_) (N_ o480 (L_ o798) Z_)) Y208) (N_ o798 (N_ o233 (N_ o375 (L_ o648) Z_) (N_ o798 (L_ o778) Z_)) (N_ o308 (N_ o445 (L_ o798) Z_) (L_ o582))))
abbrev My.Y10:Params→W.BT:=(N_ o70 (N_ o798 (N_ o798 (N_ o332 (L_ o606) Z_) (N_ o469 (L_ o738) Z_)) Y205) (N_ o143 (N_ o798 (N_ o367 (L_ o796) Z_) (N_ o504 (L_ o798) Z_)) (N_ o300 (N_ o437 (L_ o706) Z_) (L_ o574))))
abbrev My.Y9:Params→W.BT:=(N_ o76 (N_ o111 (N_ o563 (N_ o338 (L_ o612) Z_) (N_ o478 (L_ o744) Z_)) Y197) (N_ o152 (N_ o231 (N_ o373 (L_ o798) Z_) (N_ o563 (L_ o776) Z_)) (N_ o306 Y324 (L_ o580))))
abbrev My.Y8:Params→W.BT:=(N_ o77 (N_ o112 (N_ o194 (N_ o561 (L_ o613) Z_) (N_ o798 (L_ o745) Z_)) Y186) (N_ o153 (N_ o232 (N_ o374 (L_ o796) Z_) (N_ o514 (L_ o798) Z_)) (N_ o307 (N_ o444 (L_ o713) Z_) (L_ o581))))
abbrev My.Y7:Params→W.BT:=(N_ o69 (N_ o104 (N_ o183 Y326 (N_ o468 (L_ o737) Z_)) Y183) (N_ o142 (N_ o224 (N_ o366 (L_ o798) Z_) (N_ o503 (L_ o769) Z_)) (N_ o299 Y324 (L_ o573))))
abbrev My.Y6:Params→W.BT:=(N_ o71 (N_ o796 (N_ o185 Y325 (N_ o470 (L_ o798) Z_)) Y178) (N_ o267 (N_ o796 (N_ o798 (L_ o641) Z_) (N_ o505 (L_ o771) Z_)) (N_ o301 (N_ o438 (L_ o798) Z_) (L_ o575))))
abbrev My.Y5:Params→W.BT:=(N_ o796 (N_ o563 (N_ o197 (N_ o342 (L_ o798) Z_) (N_ o482 (L_ o748) Z_)) Y203) (N_ o156 (N_ o563 (N_ o377 (L_ o650) Z_) (N_ o517 (L_ o780) Z_)) (N_ o796 (N_ o798 (L_ o716) Z_) (L_ o796))))
abbrev My.Y4:Params→W.BT:=(N_ o798 (N_ o107 (N_ o186 (N_ o334 (L_ o608) Z_) (N_ o471 (L_ o796) Z_)) Y200) (N_ o563 (N_ o227 Y327 (N_ o506 (L_ o772) Z_)) (N_ o798 (N_ o439 (L_ o708) Z_) (L_ o798))))
abbrev My.Y3:Params→W.BT:=(N_ o798 (N_ o563 (N_ o182 Y325 (N_ o467 (L_ o736) Z_)) Y194) (N_ o141 (N_ o563 (N_ o365 (L_ o638) Z_) (N_ o502 (L_ o796) Z_)) (N_ o798 (N_ o435 (L_ o798) Z_) (L_ o798))))
abbrev My.Y2:Params→W.BT:=(N_ o796 (N_ o108 (N_ o187 (N_ o335 (L_ o609) Z_) (N_ o472 (L_ o741) Z_)) Y188) (N_ o149 (N_ o228 (N_ o370 (L_ o643) Z_) (N_ o507 (L_ o773) Z_)) (N_ o796 (N_ o798 (L_ o709) Z_) (L_ o796))))
abbrev My.Y1:Params→W.BT:=(N_ o798 (N_ o267 (N_ o796 (N_ o341 (L_ o615) Z_) (N_ o481 (L_ o796) Z_)) Y181) (N_ o155 (N_ o267 (N_ o376 (L_ o798) Z_) (N_ o516 (L_ o779) Z_)) (N_ o798 (N_ o446 (L_ o715) Z_) (L_ o798))))
abbrev My.Y0:Params→W.BT:=(N_ o798 (N_ o110 (N_ o267 (N_ o798 (L_ o611) Z_) (N_ o563 (L_ o743) Z_)) Y175) (N_ o796 (N_ o230 (N_ o372 (L_ o645) Z_) (N_ o562 (L_ o796) Z_)) (N_ o798 (N_ o442 (L_ o798) Z_) (L_ o798))))
def My.myAs:List Nat:=((nat_lit 2) :: (nat_lit 3) :: (nat_lit 15) :: (nat_lit 17) :: (nat_lit 18) :: (nat_lit 20) :: (nat_lit 21) :: (nat_lit 22) :: (nat_lit 24) :: (nat_lit 25) :: (nat_lit 27) :: (nat_lit 28) :: (nat_lit 29) :: (nat_lit 31) :: (nat_lit 32) :: (nat_lit 34) :: (nat_lit 35) :: (nat_lit 36) :: (nat_lit 38) :: (nat_lit 39) :: (nat_lit 41) :: (nat_lit 42) :: (nat_lit 43) :: (nat_lit 45) :: (nat_lit 46) :: (nat_lit 48) :: (nat_lit 49) :: (nat_lit 50) :: (nat_lit 57) :: (nat_lit 58) :: (nat_lit 59) :: (nat_lit 60) :: (nat_lit 63) :: (nat_lit 70) :: (nat_lit 71) :: (nat_lit 72) :: (nat_lit 75) :: (nat_lit 82) :: (nat_lit 83) :: (nat_lit 84) :: (nat_lit 87) :: (nat_lit 94) :: (nat_lit 95) :: (nat_lit 96) :: (nat_lit 99) :: (nat_lit 106) :: (nat_lit 107) :: (nat_lit 108) :: (nat_lit 111) :: (nat_lit 118) :: (nat_lit 119) :: (nat_lit 120) :: (nat_lit 123) :: (nat_lit 130) :: (nat_lit 131) :: (nat_lit 132) :: (nat_lit 135) :: (nat_lit 142) :: (nat_lit 143) :: (nat_lit 144) :: (nat_lit 147) :: (nat_lit 154) :: (nat_lit 155) :: (nat_lit 156) :: (nat_lit 159) :: (nat_lit 166) :: (nat_lit 167) :: (nat_lit 168) :: (nat_lit 171) :: (nat_lit 178) :: (nat_lit 179) :: (nat_lit 180) :: (nat_lit 183) :: (nat_lit 190) :: (nat_lit 191) :: (nat_lit 192) :: (nat_lit 195) :: (nat_lit 202) :: (nat_lit 203) :: (nat_lit 204) :: (nat_lit 207) :: (nat_lit 209) :: (nat_lit 210) :: (nat_lit 212) :: (nat_lit 213) :: (nat_lit 221) :: (nat_lit 223) :: (nat_lit 224) :: (nat_lit 226) :: (nat_lit 227) :: (nat_lit 228) :: (nat_lit 230) :: (nat_lit 231) :: (nat_lit 233) :: (nat_lit 234) :: (nat_lit 235) :: (nat_lit 237) :: (nat_lit 238) :: (nat_lit 240) :: (nat_lit 241) :: (nat_lit 242) :: (nat_lit 244) :: (nat_lit 245) :: (nat_lit 247) :: (nat_lit 248) :: (nat_lit 249) :: (nat_lit 251) :: (nat_lit 252) :: (nat_lit 254) :: (nat_lit 255) :: (nat_lit 256) :: (nat_lit 258) :: (nat_lit 259) :: (nat_lit 261) :: (nat_lit 262) :: (nat_lit 263) :: (nat_lit 264) :: (nat_lit 265) :: (nat_lit 266) :: (nat_lit 267) :: (nat_lit 270) :: (nat_lit 277) :: (nat_lit 279) :: (nat_lit 280) :: (nat_lit 282) :: (nat_lit 283) :: (nat_lit 284) :: (nat_lit 286) :: (nat_lit 287) :: (nat_lit 289) :: (nat_lit 290) :: (nat_lit 291) :: (nat_lit 293) :: (nat_lit 294) :: (nat_lit 296) :: (nat_lit 297) :: (nat_lit 298) :: (nat_lit 299) :: (nat_lit 300) :: (nat_lit 303) :: (nat_lit 310) :: (nat_lit 312) :: (nat_lit 313) :: (nat_lit 315) :: (nat_lit 316) :: (nat_lit 317) :: (nat_lit 319) :: (nat_lit 320) :: (nat_lit 322) :: (nat_lit 323) :: (nat_lit 324) :: (nat_lit 326) :: (nat_lit 327) :: (nat_lit 329) :: (nat_lit 330) :: (nat_lit 331) :: (nat_lit 333) :: (nat_lit 334) :: (nat_lit 336) :: (nat_lit 337) :: (nat_lit 338) :: (nat_lit 339) :: (nat_lit 340) :: (nat_lit 343) :: (nat_lit 350) :: (nat_lit 352) :: (nat_lit 353) :: (nat_lit 355) :: (nat_lit 356) :: (nat_lit 357) :: (nat_lit 359) :: (nat_lit 360) :: (nat_lit 362) :: (nat_lit 363) :: (nat_lit 364) :: (nat_lit 366) :: (nat_lit 367) :: (nat_lit 369) :: (nat_lit 370) :: (nat_lit 371) :: (nat_lit 373) :: (nat_lit 374) :: (nat_lit 376) :: (nat_lit 377) :: (nat_lit 378) :: (nat_lit 380) :: (nat_lit 381) :: (nat_lit 383) :: (nat_lit 384) :: (nat_lit 385) :: (nat_lit 386) :: (nat_lit 387) :: (nat_lit 390) :: (nat_lit 397) :: (nat_lit 399) :: (nat_lit 400) :: (nat_lit 402) :: (nat_lit 403) :: (nat_lit 404) :: (nat_lit 406) :: (nat_lit 407) :: (nat_lit 409) :: (nat_lit 410) :: (nat_lit 411) :: (nat_lit 413) :: (nat_lit 414) :: (nat_lit 416) :: (nat_lit 417) :: (nat_lit 418) :: (nat_lit 419) :: (nat_lit 420) :: (nat_lit 423) :: (nat_lit 430) :: (nat_lit 432) :: (nat_lit 433) :: (nat_lit 435) :: (nat_lit 436) :: (nat_lit 437) :: (nat_lit 439) :: (nat_lit 440) :: (nat_lit 442) :: (nat_lit 443) :: (nat_lit 444) :: (nat_lit 446) :: (nat_lit 447) :: (nat_lit 449) :: (nat_lit 450) :: (nat_lit 451) :: (nat_lit 453) :: (nat_lit 454) :: (nat_lit 456) :: (nat_lit 457) :: (nat_lit 458) :: (nat_lit 460) :: (nat_lit 461) :: (nat_lit 463) :: (nat_lit 464) :: (nat_lit 465) :: (nat_lit 466) :: (nat_lit 467) :: (nat_lit 470) :: (nat_lit 477) :: (nat_lit 479) :: (nat_lit 480) :: (nat_lit 482) :: (nat_lit 483) :: (nat_lit 484) :: (nat_lit 486) :: (nat_lit 487) :: (nat_lit 489) :: (nat_lit 490) :: (nat_lit 491) :: (nat_lit 493) :: (nat_lit 494) :: (nat_lit 496) :: (nat_lit 497) :: (nat_lit 498) :: (nat_lit 500) :: (nat_lit 501) :: (nat_lit 503) :: (nat_lit 504) :: (nat_lit 505) :: (nat_lit 507) :: (nat_lit 508) :: (nat_lit 510) :: (nat_lit 511) :: (nat_lit 512) :: (nat_lit 514) :: (nat_lit 515) :: (nat_lit 517) :: (nat_lit 518) :: (nat_lit 519) :: (nat_lit 520) :: (nat_lit 521) :: (nat_lit 524) :: (nat_lit 526) :: (nat_lit 527) :: (nat_lit 529) :: (nat_lit 530) :: (nat_lit 531) :: (nat_lit 533) :: (nat_lit 534) :: (nat_lit 536) :: (nat_lit 537) :: (nat_lit 538) :: (nat_lit 540) :: (nat_lit 541) :: (nat_lit 543) :: (nat_lit 544) :: (nat_lit 545) :: (nat_lit 547) :: (nat_lit 548) :: (nat_lit 550) :: (nat_lit 551) :: (nat_lit 552) :: (nat_lit 554) :: (nat_lit 555) :: (nat_lit 557) :: (nat_lit 558) :: (nat_lit 559) :: (nat_lit 561) :: (nat_lit 562) :: (nat_lit 564) :: (nat_lit 565) :: (nat_lit 566) :: (nat_lit 568) :: (nat_lit 569) :: (nat_lit 571) :: (nat_lit 572) :: (nat_lit 573) :: (nat_lit 575) :: (nat_lit 576) :: (nat_lit 578) :: (nat_lit 579) :: (nat_lit 580) :: (nat_lit 582) :: (nat_lit 583) :: (nat_lit 585) :: (nat_lit 586) :: (nat_lit 587) :: (nat_lit 589) :: (nat_lit 590) :: (nat_lit 592) :: (nat_lit 593) :: (nat_lit 594) :: (nat_lit 596) :: (nat_lit 597) :: (nat_lit 599) :: (nat_lit 600) :: (nat_lit 601) :: (nat_lit 603) :: (nat_lit 604) :: (nat_lit 606) :: (nat_lit 607) :: (nat_lit 608) :: (nat_lit 610) :: (nat_lit 611) :: (nat_lit 613) :: (nat_lit 614) :: (nat_lit 615) :: (nat_lit 617) :: (nat_lit 618) :: (nat_lit 620) :: (nat_lit 621) :: (nat_lit 622) :: (nat_lit 624) :: (nat_lit 625) :: (nat_lit 627) :: (nat_lit 628) :: (nat_lit 629) :: (nat_lit 631) :: (nat_lit 632) :: (nat_lit 634) :: (nat_lit 635) :: (nat_lit 636) :: (nat_lit 638) :: (nat_lit 639) :: (nat_lit 641) :: (nat_lit 642) :: (nat_lit 643) :: (nat_lit 645) :: (nat_lit 646) :: (nat_lit 648) :: (nat_lit 649) :: (nat_lit 650) :: (nat_lit 652) :: (nat_lit 653) :: (nat_lit 655) :: (nat_lit 656) :: (nat_lit 657) :: (nat_lit 659) :: (nat_lit 660) :: (nat_lit 662) :: (nat_lit 663) :: (nat_lit 664) :: (nat_lit 666) :: (nat_lit 667) :: (nat_lit 669) :: (nat_lit 670) :: (nat_lit 671) :: (nat_lit 673) :: (nat_lit 674) :: (nat_lit 676) :: (nat_lit 677) :: (nat_lit 678) :: (nat_lit 680) :: (nat_lit 681) :: (nat_lit 683) :: (nat_lit 684) :: (nat_lit 685) :: (nat_lit 688) :: (nat_lit 689) :: (nat_lit 690) :: (nat_lit 692) :: (nat_lit 693) :: (nat_lit 695) :: (nat_lit 696) :: (nat_lit 697) :: (nat_lit 699) :: (nat_lit 700) :: (nat_lit 702) :: (nat_lit 703) :: [])
def My.h_heap_39:PySem.Params→PySem.W.Frag:=fun x=>
(nat_lit 2,(@W.boot_o_2 x)) ::
(nat_lit 3,(o781 x)) ::
(nat_lit 15,(o798 x)) ::
(nat_lit 17,(o53 x)) ::
(nat_lit 18,(o798 x)) ::
(nat_lit 20,(o56 x)) ::
(nat_lit 21,(o57 x)) ::
(nat_lit 22,(o798 x)) ::
(nat_lit 24,(o60 x)) ::
(nat_lit 25,(o798 x)) ::
(nat_lit 27,(o63 x)) ::
(nat_lit 28,(o64 x)) ::
(nat_lit 29,(o798 x)) ::
(nat_lit 31,(o67 x)) ::
(nat_lit 32,(o798 x)) ::
(nat_lit 34,(o70 x)) ::
(nat_lit 35,(o71 x)) ::
(nat_lit 36,(o798 x)) ::
(nat_lit 38,(o74 x)) ::
(nat_lit 39,(o798 x)) ::
(nat_lit 41,(o77 x)) ::
(nat_lit 42,(o78 x)) ::
(nat_lit 43,(o798 x)) ::
(nat_lit 45,(o81 x)) ::
(nat_lit 46,(o798 x)) ::
(nat_lit 48,(o84 x)) ::
(nat_lit 49,(o85 x)) ::
(nat_lit 50,(o86 x)) ::
(nat_lit 57,(o798 x)) ::
(nat_lit 58,(o94 x)) ::
(nat_lit 59,(o266 x)) ::
(nat_lit 60,(o96 x)) ::
(nat_lit 63,(o267 x)) ::
(nat_lit 70,(o798 x)) ::
(nat_lit 71,(o110 x)) ::
(nat_lit 72,(o111 x)) ::
(nat_lit 75,(o267 x)) ::
(nat_lit 82,(o798 x)) ::
(nat_lit 83,(o125 x)) ::
(nat_lit 84,(o126 x)) ::
(nat_lit 87,(o267 x)) ::
(nat_lit 94,(o798 x)) ::
(nat_lit 95,(o140 x)) ::
(nat_lit 96,(o141 x)) ::
(nat_lit 99,(o267 x)) ::
(nat_lit 106,(o798 x)) ::
(nat_lit 107,(o155 x)) ::
(nat_lit 108,(o156 x)) ::
(nat_lit 111,(o267 x)) ::
(nat_lit 118,(o798 x)) ::
(nat_lit 119,(o170 x)) ::
(nat_lit 120,(o171 x)) ::
(nat_lit 123,(o267 x)) ::
(nat_lit 130,(o798 x)) ::
(nat_lit 131,(o185 x)) ::
(nat_lit 132,(o186 x)) ::
(nat_lit 135,(o267 x)) ::
(nat_lit 142,(o798 x)) ::
(nat_lit 143,(o200 x)) ::
(nat_lit 144,(o201 x)) ::
(nat_lit 147,(o267 x)) ::
(nat_lit 154,(o798 x)) ::
(nat_lit 155,(o215 x)) ::
(nat_lit 156,(o216 x)) ::
(nat_lit 159,(o267 x)) ::
(nat_lit 166,(o798 x)) ::
(nat_lit 167,(o230 x)) ::
(nat_lit 168,(o231 x)) ::
(nat_lit 171,(o267 x)) ::
(nat_lit 178,(o798 x)) ::
(nat_lit 179,(o245 x)) ::
(nat_lit 180,(o246 x)) ::
(nat_lit 183,(o267 x)) ::
(nat_lit 190,(o798 x)) ::
(nat_lit 191,(o260 x)) ::
(nat_lit 192,(o261 x)) ::
(nat_lit 195,(o267 x)) ::
(nat_lit 202,(o798 x)) ::
(nat_lit 203,(o275 x)) ::
(nat_lit 204,(o276 x)) ::
(nat_lit 207,(o798 x)) ::
(nat_lit 209,(o281 x)) ::
(nat_lit 210,(o798 x)) ::
(nat_lit 212,(o284 x)) ::
(nat_lit 213,(o285 x)) ::
(nat_lit 221,(o798 x)) ::
(nat_lit 223,(o297 x)) ::
(nat_lit 224,(o798 x)) ::
(nat_lit 226,(o300 x)) ::
(nat_lit 227,(o301 x)) ::
(nat_lit 228,(o798 x)) ::
(nat_lit 230,(o304 x)) ::
(nat_lit 231,(o798 x)) ::
(nat_lit 233,(o307 x)) ::
(nat_lit 234,(o308 x)) ::
(nat_lit 235,(o798 x)) ::
(nat_lit 237,(o311 x)) ::
(nat_lit 238,(o798 x)) ::
(nat_lit 240,(o314 x)) ::
(nat_lit 241,(o315 x)) ::
(nat_lit 242,(o798 x)) ::
(nat_lit 244,(o318 x)) ::
(nat_lit 245,(o798 x)) ::
(nat_lit 247,(o321 x)) ::
(nat_lit 248,(o322 x)) ::
(nat_lit 249,(o798 x)) ::
(nat_lit 251,(o325 x)) ::
(nat_lit 252,(o798 x)) ::
(nat_lit 254,(o328 x)) ::
(nat_lit 255,(o329 x)) ::
(nat_lit 256,(o798 x)) ::
(nat_lit 258,(o332 x)) ::
(nat_lit 259,(o798 x)) ::
(nat_lit 261,(o335 x)) ::
(nat_lit 262,(o336 x)) ::
(nat_lit 263,(o798 x)) ::
(nat_lit 264,(o338 x)) ::
(nat_lit 265,(o561 x)) ::
(nat_lit 266,(o340 x)) ::
(nat_lit 267,(o341 x)) ::
(nat_lit 270,(o562 x)) ::
(nat_lit 277,(o798 x)) ::
(nat_lit 279,(o356 x)) ::
(nat_lit 280,(o798 x)) ::
(nat_lit 282,(o359 x)) ::
(nat_lit 283,(o360 x)) ::
(nat_lit 284,(o798 x)) ::
(nat_lit 286,(o363 x)) ::
(nat_lit 287,(o798 x)) ::
(nat_lit 289,(o366 x)) ::
(nat_lit 290,(o367 x)) ::
(nat_lit 291,(o798 x)) ::
(nat_lit 293,(o370 x)) ::
(nat_lit 294,(o798 x)) ::
(nat_lit 296,(o373 x)) ::
(nat_lit 297,(o374 x)) ::
(nat_lit 298,(o375 x)) ::
(nat_lit 299,(o376 x)) ::
(nat_lit 300,(o377 x)) ::
(nat_lit 303,(o562 x)) ::
(nat_lit 310,(o798 x)) ::
(nat_lit 312,(o392 x)) ::
(nat_lit 313,(o798 x)) ::
(nat_lit 315,(o395 x)) ::
(nat_lit 316,(o396 x)) ::
(nat_lit 317,(o798 x)) ::
(nat_lit 319,(o399 x)) ::
(nat_lit 320,(o798 x)) ::
(nat_lit 322,(o402 x)) ::
(nat_lit 323,(o403 x)) ::
(nat_lit 324,(o798 x)) ::
(nat_lit 326,(o406 x)) ::
(nat_lit 327,(o798 x)) ::
(nat_lit 329,(o409 x)) ::
(nat_lit 330,(o410 x)) ::
(nat_lit 331,(o798 x)) ::
(nat_lit 333,(o413 x)) ::
(nat_lit 334,(o798 x)) ::
(nat_lit 336,(o416 x)) ::
(nat_lit 337,(o417 x)) ::
(nat_lit 338,(o418 x)) ::
(nat_lit 339,(o419 x)) ::
(nat_lit 340,(o420 x)) ::
(nat_lit 343,(o562 x)) ::
(nat_lit 350,(o798 x)) ::
(nat_lit 352,(o435 x)) ::
(nat_lit 353,(o798 x)) ::
(nat_lit 355,(o438 x)) ::
(nat_lit 356,(o439 x)) ::
(nat_lit 357,(o798 x)) ::
(nat_lit 359,(o442 x)) ::
(nat_lit 360,(o798 x)) ::
(nat_lit 362,(o445 x)) ::
(nat_lit 363,(o446 x)) ::
(nat_lit 364,(o798 x)) ::
(nat_lit 366,(o449 x)) ::
(nat_lit 367,(o798 x)) ::
(nat_lit 369,(o452 x)) ::
(nat_lit 370,(o453 x)) ::
(nat_lit 371,(o798 x)) ::
(nat_lit 373,(o456 x)) ::
(nat_lit 374,(o798 x)) ::
(nat_lit 376,(o459 x)) ::
(nat_lit 377,(o460 x)) ::
(nat_lit 378,(o798 x)) ::
(nat_lit 380,(o463 x)) ::
(nat_lit 381,(o798 x)) ::
(nat_lit 383,(o466 x)) ::
(nat_lit 384,(o467 x)) ::
(nat_lit 385,(o468 x)) ::
(nat_lit 386,(o469 x)) ::
(nat_lit 387,(o470 x)) ::
(nat_lit 390,(o562 x)) ::
(nat_lit 397,(o798 x)) ::
(nat_lit 399,(o485 x)) ::
(nat_lit 400,(o798 x)) ::
(nat_lit 402,(o488 x)) ::
(nat_lit 403,(o489 x)) ::
(nat_lit 404,(o798 x)) ::
(nat_lit 406,(o492 x)) ::
(nat_lit 407,(o798 x)) ::
(nat_lit 409,(o495 x)) ::
(nat_lit 410,(o496 x)) ::
(nat_lit 411,(o798 x)) ::
(nat_lit 413,(o499 x)) ::
(nat_lit 414,(o798 x)) ::
(nat_lit 416,(o502 x)) ::
(nat_lit 417,(o503 x)) ::
(nat_lit 418,(o504 x)) ::
(nat_lit 419,(o505 x)) ::
(nat_lit 420,(o506 x)) ::
(nat_lit 423,(o562 x)) ::
(nat_lit 430,(o798 x)) ::
(nat_lit 432,(o521 x)) ::
(nat_lit 433,(o798 x)) ::
(nat_lit 435,(o524 x)) ::
(nat_lit 436,(o525 x)) ::
(nat_lit 437,(o798 x)) ::
(nat_lit 439,(o528 x)) ::
(nat_lit 440,(o798 x)) ::
(nat_lit 442,(o531 x)) ::
(nat_lit 443,(o532 x)) ::
(nat_lit 444,(o798 x)) ::
(nat_lit 446,(o535 x)) ::
(nat_lit 447,(o798 x)) ::
(nat_lit 449,(o538 x)) ::
(nat_lit 450,(o539 x)) ::
(nat_lit 451,(o798 x)) ::
(nat_lit 453,(o542 x)) ::
(nat_lit 454,(o798 x)) ::
(nat_lit 456,(o545 x)) ::
(nat_lit 457,(o546 x)) ::
(nat_lit 458,(o798 x)) ::
(nat_lit 460,(o549 x)) ::
(nat_lit 461,(o798 x)) ::
(nat_lit 463,(o552 x)) ::
(nat_lit 464,(o553 x)) ::
(nat_lit 465,(o554 x)) ::
(nat_lit 466,(o555 x)) ::
(nat_lit 467,(o556 x)) ::
(nat_lit 470,(o562 x)) ::
(nat_lit 477,(o798 x)) ::
(nat_lit 479,(o571 x)) ::
(nat_lit 480,(o798 x)) ::
(nat_lit 482,(o574 x)) ::
(nat_lit 483,(o575 x)) ::
(nat_lit 484,(o798 x)) ::
(nat_lit 486,(o578 x)) ::
(nat_lit 487,(o798 x)) ::
(nat_lit 489,(o581 x)) ::
(nat_lit 490,(o582 x)) ::
(nat_lit 491,(o798 x)) ::
(nat_lit 493,(o585 x)) ::
(nat_lit 494,(o798 x)) ::
(nat_lit 496,(o588 x)) ::
(nat_lit 497,(o589 x)) ::
(nat_lit 498,(o798 x)) ::
(nat_lit 500,(o592 x)) ::
(nat_lit 501,(o798 x)) ::
(nat_lit 503,(o595 x)) ::
(nat_lit 504,(o596 x)) ::
(nat_lit 505,(o798 x)) ::
(nat_lit 507,(o599 x)) ::
(nat_lit 508,(o798 x)) ::
(nat_lit 510,(o602 x)) ::
(nat_lit 511,(o603 x)) ::
(nat_lit 512,(o798 x)) ::
(nat_lit 514,(o606 x)) ::
(nat_lit 515,(o798 x)) ::
(nat_lit 517,(o609 x)) ::
(nat_lit 518,(o610 x)) ::
(nat_lit 519,(o611 x)) ::
(nat_lit 520,(o612 x)) ::
(nat_lit 521,(o613 x)) ::
(nat_lit 524,(o798 x)) ::
(nat_lit 526,(o620 x)) ::
(nat_lit 527,(o798 x)) ::
(nat_lit 529,(o623 x)) ::
(nat_lit 530,(o624 x)) ::
(nat_lit 531,(o798 x)) ::
(nat_lit 533,(o627 x)) ::
(nat_lit 534,(o798 x)) ::
(nat_lit 536,(o630 x)) ::
(nat_lit 537,(o631 x)) ::
(nat_lit 538,(o798 x)) ::
(nat_lit 540,(o634 x)) ::
(nat_lit 541,(o798 x)) ::
(nat_lit 543,(o637 x)) ::
(nat_lit 544,(o638 x)) ::
(nat_lit 545,(o798 x)) ::
(nat_lit 547,(o641 x)) ::
(nat_lit 548,(o798 x)) ::
(nat_lit 550,(o644 x)) ::
(nat_lit 551,(o645 x)) ::
(nat_lit 552,(o798 x)) ::
(nat_lit 554,(o648 x)) ::
(nat_lit 555,(o798 x)) ::
(nat_lit 557,(o651 x)) ::
(nat_lit 558,(o652 x)) ::
(nat_lit 559,(o798 x)) ::
(nat_lit 561,(o655 x)) ::
(nat_lit 562,(o798 x)) ::
(nat_lit 564,(o658 x)) ::
(nat_lit 565,(o659 x)) ::
(nat_lit 566,(o798 x)) ::
(nat_lit 568,(o662 x)) ::
(nat_lit 569,(o798 x)) ::
(nat_lit 571,(o665 x)) ::
(nat_lit 572,(o666 x)) ::
(nat_lit 573,(o798 x)) ::
(nat_lit 575,(o669 x)) ::
(nat_lit 576,(o798 x)) ::
(nat_lit 578,(o672 x)) ::
(nat_lit 579,(o673 x)) ::
(nat_lit 580,(o798 x)) ::
(nat_lit 582,(o676 x)) ::
(nat_lit 583,(o798 x)) ::
(nat_lit 585,(o679 x)) ::
(nat_lit 586,(o680 x)) ::
(nat_lit 587,(o798 x)) ::
(nat_lit 589,(o683 x)) ::
(nat_lit 590,(o798 x)) ::
(nat_lit 592,(o686 x)) ::
(nat_lit 593,(o687 x)) ::
(nat_lit 594,(o798 x)) ::
(nat_lit 596,(o690 x)) ::
(nat_lit 597,(o798 x)) ::
(nat_lit 599,(o693 x)) ::
(nat_lit 600,(o694 x)) ::
(nat_lit 601,(o798 x)) ::
(nat_lit 603,(o699 x)) ::
(nat_lit 604,(o798 x)) ::
(nat_lit 606,(o702 x)) ::
(nat_lit 607,(o703 x)) ::
(nat_lit 608,(o798 x)) ::
(nat_lit 610,(o706 x)) ::
(nat_lit 611,(o798 x)) ::
(nat_lit 613,(o709 x)) ::
(nat_lit 614,(o710 x)) ::
(nat_lit 615,(o798 x)) ::
(nat_lit 617,(o713 x)) ::
(nat_lit 618,(o798 x)) ::
(nat_lit 620,(o716 x)) ::
(nat_lit 621,(o717 x)) ::
(nat_lit 622,(o798 x)) ::
(nat_lit 624,(o720 x)) ::
(nat_lit 625,(o798 x)) ::
(nat_lit 627,(o723 x)) ::
(nat_lit 628,(o724 x)) ::
(nat_lit 629,(o798 x)) ::
(nat_lit 631,(o727 x)) ::
(nat_lit 632,(o798 x)) ::
(nat_lit 634,(o730 x)) ::
(nat_lit 635,(o731 x)) ::
(nat_lit 636,(o798 x)) ::
(nat_lit 638,(o734 x)) ::
(nat_lit 639,(o798 x)) ::
(nat_lit 641,(o737 x)) ::
(nat_lit 642,(o738 x)) ::
(nat_lit 643,(o798 x)) ::
(nat_lit 645,(o741 x)) ::
(nat_lit 646,(o798 x)) ::
(nat_lit 648,(o744 x)) ::
(nat_lit 649,(o745 x)) ::
(nat_lit 650,(o798 x)) ::
(nat_lit 652,(o748 x)) ::
(nat_lit 653,(o798 x)) ::
(nat_lit 655,(o751 x)) ::
(nat_lit 656,(o752 x)) ::
(nat_lit 657,(o798 x)) ::
(nat_lit 659,(o755 x)) ::
(nat_lit 660,(o798 x)) ::
(nat_lit 662,(o758 x)) ::
(nat_lit 663,(o759 x)) ::
(nat_lit 664,(o798 x)) ::
(nat_lit 666,(o762 x)) ::
(nat_lit 667,(o798 x)) ::
(nat_lit 669,(o765 x)) ::
(nat_lit 670,(o766 x)) ::
(nat_lit 671,(o798 x)) ::
(nat_lit 673,(o769 x)) ::
(nat_lit 674,(o798 x)) ::
(nat_lit 676,(o772 x)) ::
(nat_lit 677,(o773 x)) ::
(nat_lit 678,(o798 x)) ::
(nat_lit 680,(o776 x)) ::
(nat_lit 681,(o798 x)) ::
(nat_lit 683,(o779 x)) ::
(nat_lit 684,(o780 x)) ::
(nat_lit 685,(o798 x)) ::
(nat_lit 688,(o786 x)) ::
(nat_lit 689,(o787 x)) ::
(nat_lit 690,(o798 x)) ::
(nat_lit 692,(o790 x)) ::
(nat_lit 693,(o798 x)) ::
(nat_lit 695,(o793 x)) ::
(nat_lit 696,(o794 x)) ::
(nat_lit 697,(o798 x)) ::
(nat_lit 699,(o797 x)) ::
(nat_lit 700,(o798 x)) ::
(nat_lit 702,(o800 x)) ::
(nat_lit 703,(o801 x)) :: []
def My.h_view_39:PySem.Program:={ PySem.Challenge.pw_oddbases_k52_moved_refused with main:={ PySem.Challenge.pw_oddbases_k52_moved_refused.main with body:=[My.top 1,My.top 2,My.top 3,My.top 4,My.top 5,My.top 7,My.top 8,My.top 9,My.top 10,My.top 11,My.top 12,My.top 13,My.top 14,My.top 15,My.top 16,My.top 17,My.top 18,My.top 19,My.top 21,My.top 22,My.top 23,My.top 24,My.top 25,My.top 26,My.top 27,My.top 28,My.top 30,My.top 31,My.top 33,My.top 34,My.top 36,My.top 37,My.top 38,My.top 39,My.top 40,My.top 41,My.top 42,My.top 44,My.top 45,My.top 47,My.top 48,My.top 49,My.top 50,My.top 51,My.top 52,My.top 53,My.top 54,My.top 55,My.top 56,My.top 57,My.top 58,My.top 59] } }
def My.h_heap_802:((x:@Params)→@Heap):=(fun x=>(@Heap.mk (@Array.mk @Obj ((@W.boot_o_0 x) :: (@W.boot_o_1 x) :: (@W.boot_o_2 x) :: (o781 x) :: (@W.boot_o_4 x) :: (@W.boot_o_5 x) :: (@W.boot_o_6 x) :: (@W.boot_o_7 x) :: (@W.boot_o_8 x) :: (@W.boot_o_9 x) :: (@W.boot_o_10 x) :: (o798 x) :: (o782 x) :: (o45 x) :: (o46 x) :: (o798 x) :: (o796 x) :: (o53 x) :: (o798 x) :: (o55 x) :: (o56 x) :: (o57 x) :: (o798 x) :: (o796 x) :: (o60 x) :: (o798 x) :: (o62 x) :: (o63 x) :: (o64 x) :: (o798 x) :: (o796 x) :: (o67 x) :: (o798 x) :: (o69 x) :: (o70 x) :: (o71 x) :: (o798 x) :: (o796 x) :: (o74 x) :: (o798 x) :: (o76 x) :: (o77 x) :: (o78 x) :: (o798 x) :: (o796 x) :: (o81 x) :: (o798 x) :: (o83 x) :: (o84 x) :: (o85 x) :: (o86 x) :: (o563 x) :: (o88 x) :: (o798 x) :: (o796 x) :: (o91 x) :: (o92 x) :: (o798 x) :: (o94 x) :: (o266 x) :: (o96 x) :: (o97 x) :: (o98 x) :: (o267 x) :: (o563 x) :: (o104 x) :: (o798 x) :: (o796 x) :: (o107 x) :: (o108 x) :: (o798 x) :: (o110 x) :: (o111 x) :: (o112 x) :: (o113 x) :: (o267 x) :: (o563 x) :: (o119 x) :: (o798 x) :: (o796 x) :: (o122 x) :: (o123 x) :: (o798 x) :: (o125 x) :: (o126 x) :: (o127 x) :: (o128 x) :: (o267 x) :: (o563 x) :: (o134 x) :: (o798 x) :: (o796 x) :: (o137 x) :: (o138 x) :: (o798 x) :: (o140 x) :: (o141 x) :: (o142 x) :: (o143 x) :: (o267 x) :: (o563 x) :: (o149 x) :: (o798 x) :: (o796 x) :: (o152 x) :: (o153 x) :: (o798 x) :: (o155 x) :: (o156 x) :: (o157 x) :: (o158 x) :: (o267 x) :: (o563 x) :: (o164 x) :: (o798 x) :: (o796 x) :: (o167 x) :: (o168 x) :: (o798 x) :: (o170 x) :: (o171 x) :: (o172 x) :: (o173 x) :: (o267 x) :: (o563 x) :: (o179 x) :: (o798 x) :: (o796 x) :: (o182 x) :: (o183 x) :: (o798 x) :: (o185 x) :: (o186 x) :: (o187 x) :: (o188 x) :: (o267 x) :: (o563 x) :: (o194 x) :: (o798 x) :: (o796 x) :: (o197 x) :: (o198 x) :: (o798 x) :: (o200 x) :: (o201 x) :: (o202 x) :: (o203 x) :: (o267 x) :: (o563 x) :: (o209 x) :: (o798 x) :: (o796 x) :: (o212 x) :: (o213 x) :: (o798 x) :: (o215 x) :: (o216 x) :: (o217 x) :: (o218 x) :: (o267 x) :: (o563 x) :: (o224 x) :: (o798 x) :: (o796 x) :: (o227 x) :: (o228 x) :: (o798 x) :: (o230 x) :: (o231 x) :: (o232 x) :: (o233 x) :: (o267 x) :: (o563 x) :: (o239 x) :: (o798 x) :: (o796 x) :: (o242 x) :: (o243 x) :: (o798 x) :: (o245 x) :: (o246 x) :: (o247 x) :: (o248 x) :: (o267 x) :: (o563 x) :: (o254 x) :: (o798 x) :: (o796 x) :: (o257 x) :: (o258 x) :: (o798 x) :: (o260 x) :: (o261 x) :: (o262 x) :: (o263 x) :: (o267 x) :: (o563 x) :: (o269 x) :: (o798 x) :: (o796 x) :: (o272 x) :: (o273 x) :: (o798 x) :: (o275 x) :: (o276 x) :: (o277 x) :: (o278 x) :: (o798 x) :: (o796 x) :: (o281 x) :: (o798 x) :: (o283 x) :: (o284 x) :: (o285 x) :: (o798 x) :: (o563 x) :: (o290 x) :: (o798 x) :: (o292 x) :: (o293 x) :: (o294 x) :: (o798 x) :: (o796 x) :: (o297 x) :: (o798 x) :: (o299 x) :: (o300 x) :: (o301 x) :: (o798 x) :: (o796 x) :: (o304 x) :: (o798 x) :: (o306 x) :: (o307 x) :: (o308 x) :: (o798 x) :: (o796 x) :: (o311 x) :: (o798 x) :: (o313 x) :: (o314 x) :: (o315 x) :: (o798 x) :: (o796 x) :: (o318 x) :: (o798 x) :: (o320 x) :: (o321 x) :: (o322 x) :: (o798 x) :: (o796 x) :: (o325 x) :: (o798 x) :: (o327 x) :: (o328 x) :: (o329 x) :: (o798 x) :: (o796 x) :: (o332 x) :: (o798 x) :: (o334 x) :: (o335 x) :: (o336 x) :: (o798 x) :: (o338 x) :: (o561 x) :: (o340 x) :: (o341 x) :: (o342 x) :: (o343 x) :: (o562 x) :: (o563 x) :: (o349 x) :: (o798 x) :: (o351 x) :: (o352 x) :: (o353 x) :: (o798 x) :: (o796 x) :: (o356 x) :: (o798 x) :: (o358 x) :: (o359 x) :: (o360 x) :: (o798 x) :: (o796 x) :: (o363 x) :: (o798 x) :: (o365 x) :: (o366 x) :: (o367 x) :: (o798 x) :: (o796 x) :: (o370 x) :: (o798 x) :: (o372 x) :: (o373 x) :: (o374 x) :: (o375 x) :: (o376 x) :: (o377 x) :: (o378 x) :: (o379 x) :: (o562 x) :: (o563 x) :: (o385 x) :: (o798 x) :: (o387 x) :: (o388 x) :: (o389 x) :: (o798 x) :: (o796 x) :: (o392 x) :: (o798 x) :: (o394 x) :: (o395 x) :: (o396 x) :: (o798 x) :: (o796 x) :: (o399 x) :: (o798 x) :: (o401 x) :: (o402 x) :: (o403 x) :: (o798 x) :: (o796 x) :: (o406 x) :: (o798 x) :: (o408 x) :: (o409 x) :: (o410 x) :: (o798 x) :: (o796 x) :: (o413 x) :: (o798 x) :: (o415 x) :: (o416 x) :: (o417 x) :: (o418 x) :: (o419 x) :: (o420 x) :: (o421 x) :: (o422 x) :: (o562 x) :: (o563 x) :: (o428 x) :: (o798 x) :: (o430 x) :: (o431 x) :: (o432 x) :: (o798 x) :: (o796 x) :: (o435 x) :: (o798 x) :: (o437 x) :: (o438 x) :: (o439 x) :: (o798 x) :: (o796 x) :: (o442 x) :: (o798 x) :: (o444 x) :: (o445 x) :: (o446 x) :: (o798 x) :: (o796 x) :: (o449 x) :: (o798 x) :: (o451 x) :: (o452 x) :: (o453 x) :: (o798 x) :: (o796 x) :: (o456 x) :: (o798 x) :: (o458 x) :: (o459 x) :: (o460 x) :: (o798 x) :: (o796 x) :: (o463 x) :: (o798 x) :: (o465 x) :: (o466 x) :: (o467 x) :: (o468 x) :: (o469 x) :: (o470 x) :: (o471 x) :: (o472 x) :: (o562 x) :: (o563 x) :: (o478 x) :: (o798 x) :: (o480 x) :: (o481 x) :: (o482 x) :: (o798 x) :: (o796 x) :: (o485 x) :: (o798 x) :: (o487 x) :: (o488 x) :: (o489 x) :: (o798 x) :: (o796 x) :: (o492 x) :: (o798 x) :: (o494 x) :: (o495 x) :: (o496 x) :: (o798 x) :: (o796 x) :: (o499 x) :: (o798 x) :: (o501 x) :: (o502 x) :: (o503 x) :: (o504 x) :: (o505 x) :: (o506 x) :: (o507 x) :: (o508 x) :: (o562 x) :: (o563 x) :: (o514 x) :: (o798 x) :: (o516 x) :: (o517 x) :: (o518 x) :: (o798 x) :: (o796 x) :: (o521 x) :: (o798 x) :: (o523 x) :: (o524 x) :: (o525 x) :: (o798 x) :: (o796 x) :: (o528 x) :: (o798 x) :: (o530 x) :: (o531 x) :: (o532 x) :: (o798 x) :: (o796 x) :: (o535 x) :: (o798 x) :: (o537 x) :: (o538 x) :: (o539 x) :: (o798 x) :: (o796 x) :: (o542 x) :: (o798 x) :: (o544 x) :: (o545 x) :: (o546 x) :: (o798 x) :: (o796 x) :: (o549 x) :: (o798 x) :: (o551 x) :: (o552 x) :: (o553 x) :: (o554 x) :: (o555 x) :: (o556 x) :: (o557 x) :: (o558 x) :: (o562 x) :: (o563 x) :: (o564 x) :: (o798 x) :: (o566 x) :: (o567 x) :: (o568 x) :: (o798 x) :: (o796 x) :: (o571 x) :: (o798 x) :: (o573 x) :: (o574 x) :: (o575 x) :: (o798 x) :: (o796 x) :: (o578 x) :: (o798 x) :: (o580 x) :: (o581 x) :: (o582 x) :: (o798 x) :: (o796 x) :: (o585 x) :: (o798 x) :: (o587 x) :: (o588 x) :: (o589 x) :: (o798 x) :: (o796 x) :: (o592 x) :: (o798 x) :: (o594 x) :: (o595 x) :: (o596 x) :: (o798 x) :: (o796 x) :: (o599 x) :: (o798 x) :: (o601 x) :: (o602 x) :: (o603 x) :: (o798 x) :: (o796 x) :: (o606 x) :: (o798 x) :: (o608 x) :: (o609 x) :: (o610 x) :: (o611 x) :: (o612 x) :: (o613 x) :: (o614 x) :: (o615 x) :: (o798 x) :: (o796 x) :: (o620 x) :: (o798 x) :: (o622 x) :: (o623 x) :: (o624 x) :: (o798 x) :: (o796 x) :: (o627 x) :: (o798 x) :: (o629 x) :: (o630 x) :: (o631 x) :: (o798 x) :: (o796 x) :: (o634 x) :: (o798 x) :: (o636 x) :: (o637 x) :: (o638 x) :: (o798 x) :: (o796 x) :: (o641 x) :: (o798 x) :: (o643 x) :: (o644 x) :: (o645 x) :: (o798 x) :: (o796 x) :: (o648 x) :: (o798 x) :: (o650 x) :: (o651 x) :: (o652 x) :: (o798 x) :: (o796 x) :: (o655 x) :: (o798 x) :: (o657 x) :: (o658 x) :: (o659 x) :: (o798 x) :: (o796 x) :: (o662 x) :: (o798 x) :: (o664 x) :: (o665 x) :: (o666 x) :: (o798 x) :: (o796 x) :: (o669 x) :: (o798 x) :: (o671 x) :: (o672 x) :: (o673 x) :: (o798 x) :: (o796 x) :: (o676 x) :: (o798 x) :: (o678 x) :: (o679 x) :: (o680 x) :: (o798 x) :: (o796 x) :: (o683 x) :: (o798 x) :: (o685 x) :: (o686 x) :: (o687 x) :: (o798 x) :: (o796 x) :: (o690 x) :: (o798 x) :: (o692 x) :: (o693 x) :: (o694 x) :: (o798 x) :: (o796 x) :: (o699 x) :: (o798 x) :: (o701 x) :: (o702 x) :: (o703 x) :: (o798 x) :: (o796 x) :: (o706 x) :: (o798 x) :: (o708 x) :: (o709 x) :: (o710 x) :: (o798 x) :: (o796 x) :: (o713 x) :: (o798 x) :: (o715 x) :: (o716 x) :: (o717 x) :: (o798 x) :: (o796 x) :: (o720 x) :: (o798 x) :: (o722 x) :: (o723 x) :: (o724 x) :: (o798 x) :: (o796 x) :: (o727 x) :: (o798 x) :: (o729 x) :: (o730 x) :: (o731 x) :: (o798 x) :: (o796 x) :: (o734 x) :: (o798 x) :: (o736 x) :: (o737 x) :: (o738 x) :: (o798 x) :: (o796 x) :: (o741 x) :: (o798 x) :: (o743 x) :: (o744 x) :: (o745 x) :: (o798 x) :: (o796 x) :: (o748 x) :: (o798 x) :: (o750 x) :: (o751 x) :: (o752 x) :: (o798 x) :: (o796 x) :: (o755 x) :: (o798 x) :: (o757 x) :: (o758 x) :: (o759 x) :: (o798 x) :: (o796 x) :: (o762 x) :: (o798 x) :: (o764 x) :: (o765 x) :: (o766 x) :: (o798 x) :: (o796 x) :: (o769 x) :: (o798 x) :: (o771 x) :: (o772 x) :: (o773 x) :: (o798 x) :: (o796 x) :: (o776 x) :: (o798 x) :: (o778 x) :: (o779 x) :: (o780 x) :: (o798 x) :: (o796 x) :: (o785 x) :: (o786 x) :: (o787 x) :: (o798 x) :: (o796 x) :: (o790 x) :: (o798 x) :: (o792 x) :: (o793 x) :: (o794 x) :: (o798 x) :: (o796 x) :: (o797 x) :: (o798 x) :: (o799 x) :: (o800 x) :: (o801 x) :: [])) (@Life.mk [] [] [] 0 (@List.nil (@Prod @Nat @Nat)) [] @Bool.false #[] [] 0 @Bool.false @Bool.false @Bool.false (0:Int) [(2000:Int),(10:Int),(10:Int)] @Bool.false 0 @Bool.true [] [] 0 @Bool.false)))
def My.h_env_41:@Env:=(@Env.mk (@Module.scope (@Program.main ((@W.OpenRow.toRowW (@W.OpenLaw.row @Challenge.rw_oddbases_k52_moved_refused))).1)) @mainNs @mainNs (@List.nil (@Prod @Str @Addr)) @Str.empty (@Option.none @Addr) (r_ 13) (@some @Addr (@OfNat.ofNat @Addr 14 (@instOfNatNat 14))) (@OfNat.ofNat @Addr 0 (@instOfNatNat 0)))
def My.h_tree_801:Params→W.BT:=(N_ W.boot_o_0 (N_ W.boot_o_1 (N_ o781 (N_ W.boot_o_7 (N_ o798 (N_ o67 (N_ o267 Y100 (N_ o260 (N_ o399 (L_ o669) Z_) (N_ o798 (L_ o801) Z_))) Y17) (N_ o83 Y18 (N_ o267 (N_ o796 (N_ o562 (L_ o798) Z_) (N_ o796 (L_ o785) Z_)) Y174))) (N_ o796 Y0 (N_ o91 Y19 (N_ o170 (N_ o267 Y326 (N_ o528 (L_ o793) Z_)) Y177)))) (N_ o798 (N_ o55 Y6 (N_ o563 Y20 (N_ o796 (N_ o245 (N_ o387 (L_ o657) Z_) (N_ o524 (L_ o796) Z_)) Y180))) (N_ o63 Y1 (N_ o266 Y21 (N_ o267 (N_ o796 (N_ o395 (L_ o665) Z_) (N_ o532 (L_ o797) Z_)) Y182))))) (N_ W.boot_o_5 (N_ W.boot_o_9 (N_ o53 Y7 (N_ o85 Y22 (N_ o164 (N_ o243 (N_ o385 (L_ o655) Z_) (N_ o798 (L_ o787) Z_)) Y185))) (N_ o798 Y8 (N_ o798 Y23 (N_ o172 (N_ o254 Y325 (N_ o530 (L_ o798) Z_)) Y187)))) (N_ o45 (N_ o57 Y2 (N_ o798 Y24 (N_ o168 (N_ o247 (N_ o389 (L_ o659) Z_) Y325) Y190))) (N_ o798 (N_ o81 Y25 (N_ o157 (N_ o239 (N_ o378 (L_ o651) Z_) (N_ o518 (L_ o798) Z_)) Y192)) (N_ o97 Y26 (N_ o179 (N_ o258 Y325 (N_ o796 (L_ o799) Z_)) Y193)))))) (N_ W.boot_o_2 (N_ W.boot_o_4 (N_ W.boot_o_8 (N_ o796 Y3 (N_ o84 Y27 (N_ o563 (N_ o242 (N_ o563 (L_ o796) Z_) (N_ o521 (L_ o786) Z_)) Y196))) (N_ o60 Y9 (N_ o92 Y28 (N_ o171 (N_ o563 (N_ o392 (L_ o662) Z_) (N_ o798 (L_ o794) Z_)) Y199)))) (N_ o782 (N_ o56 Y4 (N_ o88 Y29 (N_ o167 (N_ o246 (N_ o388 (L_ o658) Z_) (N_ o525 (L_ o790) Z_)) Y202))) (N_ o64 Y5 (N_ o96 Y30 (N_ o563 (N_ o257 (N_ o396 (L_ o666) Z_) Y325) Y204))))) (N_ W.boot_o_6 (N_ W.boot_o_10 (N_ o798 Y10 (N_ o86 Y31 (N_ o798 (N_ o798 Y325 (N_ o523 (L_ o798) Z_)) Y207))) (N_ o62 Y11 (N_ o94 Y32 (N_ o173 (N_ o798 (N_ o394 (L_ o664) Z_) (N_ o531 (L_ o796) Z_)) Y209)))) (N_ o46 (N_ o798 Y12 (N_ o796 Y33 (N_ o798 (N_ o248 Y325 (N_ o796 (L_ o792) Z_)) Y212))) (N_ o796 (N_ o798 Y34 (N_ o158 (N_ o798 (N_ o379 (L_ o652) Z_) Y324) Y214)) (N_ o98 Y35 (N_ o798 (N_ o798 Y326 (N_ o535 (L_ o800) Z_)) Y215)))))))
def My.h_sts_781:(@List @Stmt):=[My.top 57,My.top 58,My.top 59]
def My.h_tree_780:Params→W.BT:=(N_ W.boot_o_0 (N_ W.boot_o_1 (N_ o695 (N_ W.boot_o_7 (N_ o798 (N_ o67 (N_ o267 Y100 Y216) Y17) (N_ o83 Y18 (N_ o267 Y217 Y174))) (N_ o796 Y0 (N_ o91 Y19 (N_ o170 Y218 Y177)))) (N_ o798 (N_ o55 Y6 (N_ o563 Y20 (N_ o796 Y219 Y180))) (N_ o63 Y1 (N_ o266 Y21 (N_ o267 Y220 Y182))))) (N_ W.boot_o_5 (N_ W.boot_o_9 (N_ o53 Y7 (N_ o85 Y22 (N_ o164 Y221 Y185))) (N_ o798 Y8 (N_ o798 Y23 (N_ o172 Y222 Y187)))) (N_ o45 (N_ o57 Y2 (N_ o798 Y24 (N_ o168 Y223 Y190))) (N_ o798 (N_ o81 Y25 (N_ o157 Y224 Y192)) (N_ o97 Y26 (N_ o179 Y225 Y193)))))) (N_ W.boot_o_2 (N_ W.boot_o_4 (N_ W.boot_o_8 (N_ o796 Y3 (N_ o84 Y27 (N_ o563 Y226 Y196))) (N_ o60 Y9 (N_ o92 Y28 (N_ o171 Y227 Y199)))) (N_ o696 (N_ o56 Y4 (N_ o88 Y29 (N_ o167 Y228 Y202))) (N_ o64 Y5 (N_ o96 Y30 (N_ o563 Y229 Y204))))) (N_ W.boot_o_6 (N_ W.boot_o_10 (N_ o798 Y10 (N_ o86 Y31 (N_ o798 Y230 Y207))) (N_ o62 Y11 (N_ o94 Y32 (N_ o173 Y231 Y209)))) (N_ o46 (N_ o798 Y12 (N_ o796 Y33 (N_ o798 Y232 Y212))) (N_ o796 (N_ o798 Y34 (N_ o158 Y233 Y214)) (N_ o98 Y35 (N_ o798 Y234 Y215)))))))
def My.h_sts_695:(@List @Stmt):=[My.top 44,My.top 45,My.top 46,My.top 47,My.top 48,My.top 49,My.top 50,My.top 51,My.top 52,My.top 53,My.top 54,My.top 55,My.top 56]
def My.h_tree_694:Params→W.BT:=(N_ W.boot_o_0 (N_ W.boot_o_1 (N_ o616 (N_ W.boot_o_7 (N_ o798 (N_ o67 (N_ o267 Y235 Y216) (N_ o140 (N_ o267 (N_ o798 (L_ o637) Z_) (L_ o501)) (N_ o297 (L_ o796) (L_ o571)))) (N_ o83 (N_ o796 (N_ o200 Y323 (L_ o485)) Y173) (N_ o267 Y217 (N_ o313 (L_ o798) (L_ o587))))) (N_ o796 (N_ o798 (N_ o110 Y236 Y175) (N_ o796 (N_ o230 (N_ o372 (L_ o645) Z_) (L_ o562)) (N_ o798 (L_ o442) (L_ o798)))) (N_ o91 (N_ o267 (N_ o796 (N_ o356 (L_ o629) Z_) (L_ o798)) Y176) (N_ o170 Y218 (N_ o321 (L_ o458) (L_ o595)))))) (N_ o798 (N_ o55 (N_ o71 (N_ o796 Y237 Y178) (N_ o267 (N_ o796 (N_ o798 (L_ o641) Z_) (L_ o505)) (N_ o301 (L_ o438) (L_ o575)))) (N_ o563 (N_ o125 (N_ o267 (N_ o352 (L_ o798) Z_) (L_ o489)) Y179) (N_ o796 Y219 Y321))) (N_ o63 (N_ o798 (N_ o267 Y238 Y181) (N_ o155 (N_ o267 (N_ o376 (L_ o798) Z_) (L_ o516)) (N_ o798 (L_ o446) (L_ o798)))) (N_ o266 (N_ o796 (N_ o215 (N_ o360 (L_ o796) Z_) (L_ o798)) (N_ o293 (L_ o430) (L_ o567))) (N_ o267 Y220 (N_ o325 (L_ o796) (L_ o599))))))) (N_ W.boot_o_5 (N_ W.boot_o_9 (N_ o53 (N_ o69 (N_ o104 Y239 Y183) (N_ o142 (N_ o224 (N_ o366 (L_ o798) Z_) (L_ o503)) (N_ o299 (L_ o798) (L_ o573)))) (N_ o85 (N_ o123 (N_ o202 (N_ o798 (L_ o623) Z_) (L_ o487)) Y184) (N_ o164 Y221 (N_ o315 (L_ o452) (L_ o589))))) (N_ o798 (N_ o77 (N_ o112 Y240 Y186) (N_ o153 (N_ o232 (N_ o374 (L_ o796) Z_) (L_ o514)) (N_ o307 (L_ o444) (L_ o581)))) (N_ o798 (N_ o134 (N_ o213 (N_ o358 (L_ o631) Z_) (L_ o495)) (N_ o798 (L_ o428) (L_ o798))) (N_ o172 Y222 (N_ o798 (L_ o460) (L_ o798)))))) (N_ o45 (N_ o57 (N_ o796 (N_ o108 Y241 Y188) (N_ o149 (N_ o228 (N_ o370 (L_ o643) Z_) (L_ o507)) Y321)) (N_ o798 (N_ o127 (N_ o209 (N_ o798 (L_ o627) Z_) (L_ o796)) Y189) (N_ o168 Y223 (N_ o798 (L_ o456) (L_ o798))))) (N_ o798 (N_ o81 (N_ o119 (N_ o198 (N_ o343 (L_ o796) Z_) (L_ o798)) Y191) (N_ o157 Y224 (N_ o311 (L_ o796) (L_ o585)))) (N_ o97 (N_ o138 (N_ o217 Y327 (L_ o499)) (N_ o798 (L_ o432) (L_ o798))) (N_ o179 Y225 (N_ o327 (L_ o798) (L_ o601)))))))) (N_ W.boot_o_2 (N_ W.boot_o_4 (N_ W.boot_o_8 (N_ o796 (N_ o798 (N_ o563 Y242 Y194) (N_ o141 (N_ o563 (N_ o365 (L_ o638) Z_) (L_ o502)) (N_ o798 (L_ o435) (L_ o798)))) (N_ o84 (N_ o122 (N_ o201 (N_ o349 (L_ o622) Z_) (L_ o798)) Y195) (N_ o563 Y226 (N_ o314 (L_ o451) (L_ o588))))) (N_ o60 (N_ o76 (N_ o111 Y243 Y197) (N_ o152 (N_ o231 (N_ o373 (L_ o798) Z_) (L_ o563)) (N_ o306 (L_ o798) (L_ o580)))) (N_ o92 (N_ o563 (N_ o212 (N_ o798 (L_ o630) Z_) (L_ o494)) Y198) (N_ o171 Y227 (N_ o322 (L_ o459) (L_ o596)))))) (N_ o617 (N_ o56 (N_ o798 (N_ o107 Y244 Y200) (N_ o563 (N_ o227 Y327 (L_ o506)) (N_ o798 (L_ o439) (L_ o798)))) (N_ o88 (N_ o126 (N_ o563 (N_ o353 (L_ o796) Z_) (L_ o798)) Y201) (N_ o167 Y228 (N_ o318 (L_ o796) (L_ o592))))) (N_ o64 (N_ o796 (N_ o563 (N_ o197 (N_ o342 (L_ o798) Z_) (L_ o482)) Y203) (N_ o156 (N_ o563 (N_ o377 (L_ o650) Z_) (L_ o517)) Y321)) (N_ o96 (N_ o137 (N_ o216 (N_ o798 (L_ o634) Z_) (L_ o796)) (N_ o294 (L_ o431) (L_ o568))) (N_ o563 Y229 (N_ o798 (L_ o463) (L_ o798))))))) (N_ W.boot_o_6 (N_ W.boot_o_10 (N_ o798 (N_ o70 (N_ o798 Y245 Y205) (N_ o143 (N_ o798 (N_ o367 (L_ o796) Z_) (L_ o504)) (N_ o300 (L_ o437) (L_ o574)))) (N_ o86 (N_ o798 (N_ o203 (N_ o351 (L_ o624) Z_) (L_ o488)) Y206) (N_ o798 Y230 (N_ o798 (L_ o453) (L_ o798))))) (N_ o62 (N_ o78 (N_ o113 Y246 Y208) (N_ o798 (N_ o233 (N_ o375 (L_ o648) Z_) (L_ o798)) (N_ o308 (L_ o445) (L_ o582)))) (N_ o94 (N_ o798 (N_ o798 (N_ o359 (L_ o798) Z_) (L_ o496)) (N_ o292 (L_ o798) (L_ o566))) (N_ o173 Y231 Y321)))) (N_ o46 (N_ o798 (N_ o74 (N_ o798 Y247 Y210) (N_ o798 (N_ o798 (N_ o798 (L_ o644) Z_) (L_ o508)) (N_ o304 (L_ o796) (L_ o578)))) (N_ o796 (N_ o128 (N_ o798 Y327 (L_ o492)) Y211) (N_ o798 Y232 (N_ o320 (L_ o798) (L_ o594))))) (N_ o796 (N_ o798 (N_ o798 (N_ o798 (N_ o562 (L_ o620) Z_) (L_ o796)) Y213) (N_ o158 Y233 (N_ o798 (L_ o449) (L_ o798)))) (N_ o98 (N_ o798 (N_ o218 (N_ o363 (L_ o636) Z_) (L_ o798)) Y321) (N_ o798 Y234 (N_ o328 (L_ o465) (L_ o602)))))))))
def My.h_sts_616:(@List @Stmt):=[My.top 29,My.top 30,My.top 31,My.top 32,My.top 33,My.top 34,My.top 35,My.top 36,My.top 37,My.top 38,My.top 39,My.top 40,My.top 41,My.top 42,My.top 43]
def My.h_tree_615:Params→W.BT:=(N_ W.boot_o_0 (N_ W.boot_o_1 (N_ o559 (N_ W.boot_o_7 (N_ o798 (N_ o67 (N_ o267 Y235 (N_ o260 (L_ o399) (L_ o798))) (N_ o140 (N_ o267 (L_ o798) (L_ o501)) (N_ o297 (L_ o796) (L_ o571)))) (N_ o83 Y51 (N_ o267 (N_ o796 (L_ o562) (L_ o796)) (N_ o313 (L_ o798) (L_ o587))))) (N_ o796 (N_ o798 (N_ o110 Y236 (N_ o796 (L_ o798) (L_ o544))) (N_ o796 (N_ o230 (L_ o372) (L_ o562)) (N_ o798 (L_ o442) (L_ o798)))) (N_ o91 (N_ o267 (N_ o796 (L_ o356) (L_ o798)) (N_ o563 (L_ o562) (L_ o563))) (N_ o170 (N_ o267 (L_ o796) (L_ o528)) (N_ o321 (L_ o458) (L_ o595)))))) (N_ o798 (N_ o55 (N_ o71 (N_ o796 Y237 (N_ o267 (L_ o403) (L_ o798))) (N_ o267 (N_ o796 (L_ o798) (L_ o505)) (N_ o301 (L_ o438) (L_ o575)))) (N_ o563 Y52 (N_ o796 (N_ o245 (L_ o387) (L_ o524)) Y321))) (N_ o63 (N_ o798 (N_ o267 Y238 (N_ o275 (L_ o798) (L_ o796))) (N_ o155 (N_ o267 (L_ o376) (L_ o516)) (N_ o798 (L_ o446) (L_ o798)))) (N_ o266 (N_ o796 (N_ o215 (L_ o360) (L_ o798)) (N_ o293 (L_ o430) (L_ o567))) (N_ o267 (N_ o796 (L_ o395) (L_ o532)) (N_ o325 (L_ o796) (L_ o599))))))) (N_ W.boot_o_5 (N_ W.boot_o_9 (N_ o53 (N_ o69 (N_ o104 Y239 (N_ o262 (L_ o401) (L_ o538))) (N_ o142 (N_ o224 (L_ o366) (L_ o503)) (N_ o299 (L_ o798) (L_ o573)))) (N_ o85 Y53 (N_ o164 (N_ o243 (L_ o385) (L_ o798)) (N_ o315 (L_ o452) (L_ o589))))) (N_ o798 (N_ o77 (N_ o112 Y240 (N_ o273 (L_ o409) (L_ o546))) (N_ o153 (N_ o232 (L_ o374) (L_ o514)) (N_ o307 (L_ o444) (L_ o581)))) (N_ o798 (N_ o134 (N_ o213 (L_ o358) (L_ o495)) (N_ o798 (L_ o428) (L_ o798))) (N_ o172 (N_ o254 (L_ o798) (L_ o530)) (N_ o798 (L_ o460) (L_ o798)))))) (N_ o45 (N_ o57 (N_ o796 (N_ o108 Y241 (N_ o269 (L_ o796) (L_ o542))) (N_ o149 (N_ o228 (L_ o370) (L_ o507)) Y321)) (N_ o798 Y54 (N_ o168 (N_ o247 (L_ o389) (L_ o798)) (N_ o798 (L_ o456) (L_ o798))))) (N_ o798 (N_ o81 Y55 (N_ o157 (N_ o239 (L_ o378) (L_ o518)) (N_ o311 (L_ o796) (L_ o585)))) (N_ o97 (N_ o138 (N_ o217 (L_ o796) (L_ o499)) (N_ o798 (L_ o432) (L_ o798))) (N_ o179 (N_ o258 (L_ o798) (L_ o796)) (N_ o327 (L_ o798) (L_ o601)))))))) (N_ W.boot_o_2 (N_ W.boot_o_4 (N_ W.boot_o_8 (N_ o796 (N_ o798 (N_ o563 Y242 (N_ o261 (L_ o798) (L_ o537))) (N_ o141 (N_ o563 (L_ o365) (L_ o502)) (N_ o798 (L_ o435) (L_ o798)))) (N_ o84 Y56 (N_ o563 (N_ o242 (L_ o563) (L_ o521)) (N_ o314 (L_ o451) (L_ o588))))) (N_ o60 (N_ o76 (N_ o111 Y243 (N_ o272 (L_ o408) (L_ o545))) (N_ o152 (N_ o231 (L_ o373) (L_ o563)) (N_ o306 (L_ o798) (L_ o580)))) (N_ o92 (N_ o563 (N_ o212 (L_ o798) (L_ o494)) (N_ o290 (L_ o563) (L_ o564))) (N_ o171 (N_ o563 (L_ o392) (L_ o798)) (N_ o322 (L_ o459) (L_ o596)))))) (N_ o560 (N_ o56 (N_ o798 (N_ o107 Y244 (N_ o563 (L_ o798) (L_ o796))) (N_ o563 (N_ o227 (L_ o796) (L_ o506)) (N_ o798 (L_ o439) (L_ o798)))) (N_ o88 Y57 (N_ o167 (N_ o246 (L_ o388) (L_ o525)) (N_ o318 (L_ o796) (L_ o592))))) (N_ o64 (N_ o796 Y58 (N_ o156 (N_ o563 (L_ o377) (L_ o517)) Y321)) (N_ o96 (N_ o137 (N_ o216 (L_ o798) (L_ o796)) (N_ o294 (L_ o431) (L_ o568))) (N_ o563 (N_ o257 (L_ o396) (L_ o798)) (N_ o798 (L_ o463) (L_ o798))))))) (N_ W.boot_o_6 (N_ W.boot_o_10 (N_ o798 (N_ o70 (N_ o798 Y245 (N_ o263 (L_ o402) (L_ o539))) (N_ o143 (N_ o798 (L_ o367) (L_ o504)) (N_ o300 (L_ o437) (L_ o574)))) (N_ o86 Y59 (N_ o798 (N_ o798 (L_ o798) (L_ o523)) (N_ o798 (L_ o453) (L_ o798))))) (N_ o62 (N_ o78 (N_ o113 Y246 (N_ o798 (L_ o410) (L_ o798))) (N_ o798 (N_ o233 (L_ o375) (L_ o798)) (N_ o308 (L_ o445) (L_ o582)))) (N_ o94 (N_ o798 (N_ o798 (L_ o359) (L_ o496)) (N_ o292 (L_ o798) (L_ o566))) (N_ o173 (N_ o798 (L_ o394) (L_ o531)) Y321)))) (N_ o46 (N_ o798 (N_ o74 (N_ o798 Y247 (N_ o798 (L_ o406) (L_ o798))) (N_ o798 (N_ o798 (L_ o798) (L_ o508)) (N_ o304 (L_ o796) (L_ o578)))) (N_ o796 (N_ o128 (N_ o798 (L_ o796) (L_ o492)) (N_ o798 (L_ o422) (L_ o562))) (N_ o798 (N_ o248 (L_ o798) (L_ o796)) (N_ o320 (L_ o798) (L_ o594))))) (N_ o796 (N_ o798 Y60 (N_ o158 (N_ o798 (L_ o379) (L_ o798)) (N_ o798 (L_ o449) (L_ o798)))) (N_ o98 (N_ o798 (N_ o218 (L_ o363) (L_ o798)) Y321) (N_ o798 (N_ o798 (L_ o796) (L_ o535)) (N_ o328 (L_ o465) (L_ o602)))))))))
def My.h_sts_559:(@List @Stmt):=[My.top 28]
def My.h_tree_558:Params→W.BT:=(N_ W.boot_o_0 (N_ W.boot_o_1 (N_ o509 (N_ W.boot_o_7 (N_ o798 (N_ o67 (N_ o267 (N_ o796 (L_ o329) (L_ o466)) (N_ o260 (L_ o399) (L_ o798))) Y65) (N_ o83 Y51 (N_ o267 (N_ o796 (L_ o562) (L_ o796)) (N_ o313 (L_ o798) Z_)))) (N_ o796 (N_ o798 (N_ o110 (N_ o267 (L_ o798) (L_ o563)) (N_ o796 (L_ o798) (L_ o544))) (N_ o796 (N_ o230 (L_ o372) (L_ o562)) (N_ o798 (L_ o442) Z_))) (N_ o91 Y66 (N_ o170 (N_ o267 (L_ o796) (L_ o528)) (N_ o321 (L_ o458) Z_))))) (N_ o798 (N_ o55 (N_ o71 (N_ o796 (N_ o185 (L_ o798) (L_ o470)) (N_ o267 (L_ o403) (L_ o798))) Y67) (N_ o563 Y52 (N_ o796 (N_ o245 (L_ o387) (L_ o524)) Y327))) (N_ o63 (N_ o798 (N_ o267 (N_ o796 (L_ o341) (L_ o481)) (N_ o275 (L_ o798) (L_ o796))) (N_ o155 (N_ o267 (L_ o376) (L_ o516)) (N_ o798 (L_ o446) Z_))) (N_ o266 Y68 (N_ o267 (N_ o796 (L_ o395) (L_ o532)) (N_ o325 (L_ o796) Z_)))))) (N_ W.boot_o_5 (N_ W.boot_o_9 (N_ o53 (N_ o69 (N_ o104 (N_ o183 (L_ o796) (L_ o468)) (N_ o262 (L_ o401) (L_ o538))) Y69) (N_ o85 Y53 (N_ o164 (N_ o243 (L_ o385) (L_ o798)) (N_ o315 (L_ o452) Z_)))) (N_ o798 (N_ o77 (N_ o112 (N_ o194 (L_ o511) (L_ o798)) (N_ o273 (L_ o409) (L_ o546))) (N_ o153 (N_ o232 (L_ o374) (L_ o514)) (N_ o307 (L_ o444) Z_))) (N_ o798 Y70 (N_ o172 (N_ o254 (L_ o798) (L_ o530)) (N_ o798 (L_ o460) Z_))))) (N_ o45 (N_ o57 (N_ o796 (N_ o108 (N_ o187 (L_ o335) (L_ o472)) (N_ o269 (L_ o796) (L_ o542))) Y71) (N_ o798 Y54 (N_ o168 (N_ o247 (L_ o389) (L_ o798)) (N_ o798 (L_ o456) Z_)))) (N_ o798 (N_ o81 Y55 (N_ o157 (N_ o239 (L_ o378) (L_ o518)) (N_ o311 (L_ o796) Z_))) (N_ o97 Y72 (N_ o179 (N_ o258 (L_ o798) (L_ o796)) (N_ o327 (L_ o798) Z_))))))) (N_ W.boot_o_2 (N_ W.boot_o_4 (N_ W.boot_o_8 (N_ o796 (N_ o798 (N_ o563 (N_ o182 (L_ o798) (L_ o467)) (N_ o261 (L_ o798) (L_ o537))) Y73) (N_ o84 Y56 (N_ o563 (N_ o242 (L_ o563) (L_ o521)) (N_ o314 (L_ o451) Z_)))) (N_ o60 (N_ o76 (N_ o111 (N_ o563 (L_ o338) (L_ o478)) (N_ o272 (L_ o408) (L_ o545))) (N_ o152 (N_ o231 (L_ o373) (L_ o563)) (N_ o306 (L_ o798) Z_))) (N_ o92 Y74 (N_ o171 (N_ o563 (L_ o392) (L_ o798)) (N_ o322 (L_ o459) Z_))))) (N_ o510 (N_ o56 (N_ o798 (N_ o107 (N_ o186 (L_ o334) (L_ o471)) (N_ o563 (L_ o798) (L_ o796))) Y75) (N_ o88 Y57 (N_ o167 (N_ o246 (L_ o388) (L_ o525)) (N_ o318 (L_ o796) Z_)))) (N_ o64 (N_ o796 Y58 (N_ o156 (N_ o563 (L_ o377) (L_ o517)) Y327)) (N_ o96 Y76 (N_ o563 (N_ o257 (L_ o396) (L_ o798)) (N_ o798 (L_ o463) Z_)))))) (N_ W.boot_o_6 (N_ W.boot_o_10 (N_ o798 (N_ o70 (N_ o798 (N_ o798 (L_ o332) (L_ o469)) (N_ o263 (L_ o402) (L_ o539))) Y77) (N_ o86 Y59 (N_ o798 (N_ o798 (L_ o798) (L_ o523)) (N_ o798 (L_ o453) Z_)))) (N_ o62 (N_ o78 (N_ o113 (N_ o798 (L_ o340) (L_ o480)) (N_ o798 (L_ o410) (L_ o798))) (N_ o798 (N_ o233 (L_ o375) (L_ o798)) (N_ o308 (L_ o445) Z_))) (N_ o94 Y78 (N_ o173 (N_ o798 (L_ o394) (L_ o531)) Y327)))) (N_ o46 (N_ o798 (N_ o74 (N_ o798 (N_ o188 (L_ o336) (L_ o562)) (N_ o798 (L_ o406) (L_ o798))) Y79) (N_ o796 Y80 (N_ o798 (N_ o248 (L_ o798) (L_ o796)) (N_ o320 (L_ o798) Z_)))) (N_ o796 (N_ o798 Y60 (N_ o158 (N_ o798 (L_ o379) (L_ o798)) (N_ o798 (L_ o449) Z_))) (N_ o98 Y81 (N_ o798 (N_ o798 (L_ o796) (L_ o535)) (N_ o328 (L_ o465) Z_))))))))
def My.h_sts_509:(@List @Stmt):=[My.top 27]
def My.h_tree_508:Params→W.BT:=(N_ W.boot_o_0 (N_ W.boot_o_1 (N_ o473 (N_ W.boot_o_7 (N_ o798 (N_ o67 Y82 Y65) (N_ o83 (N_ o796 (N_ o200 (L_ o563) (L_ o485)) (N_ o798 (L_ o415) Z_)) Y101)) (N_ o796 (N_ o798 (N_ o110 (N_ o267 (L_ o798) (L_ o563)) Y327) Y102) (N_ o91 Y66 Y103))) (N_ o798 (N_ o55 (N_ o71 Y83 Y67) (N_ o563 (N_ o125 (N_ o267 (L_ o352) (L_ o489)) (N_ o283 (L_ o419) Z_)) Y104)) (N_ o63 (N_ o798 (N_ o267 (N_ o796 (L_ o341) (L_ o481)) (N_ o275 (L_ o798) Z_)) Y105) (N_ o266 Y68 Y106)))) (N_ W.boot_o_5 (N_ W.boot_o_9 (N_ o53 (N_ o69 Y84 Y69) (N_ o85 (N_ o123 (N_ o202 (L_ o798) (L_ o487)) (N_ o281 (L_ o417) Z_)) Y107)) (N_ o798 (N_ o77 (N_ o112 (N_ o194 (L_ o475) (L_ o798)) (N_ o273 (L_ o409) Z_)) Y108) (N_ o798 Y70 Y109))) (N_ o45 (N_ o57 (N_ o796 Y85 Y71) (N_ o798 (N_ o127 (N_ o209 (L_ o798) (L_ o796)) (N_ o285 (L_ o421) Z_)) Y110)) (N_ o798 (N_ o81 (N_ o119 (N_ o198 (L_ o343) (L_ o798)) (N_ o277 (L_ o413) Z_)) Y111) (N_ o97 Y72 Y112))))) (N_ W.boot_o_2 (N_ W.boot_o_4 (N_ W.boot_o_8 (N_ o796 (N_ o798 Y86 Y73) (N_ o84 (N_ o122 (N_ o201 (L_ o349) (L_ o798)) (N_ o796 (L_ o416) Z_)) Y113)) (N_ o60 (N_ o76 (N_ o111 (N_ o563 (L_ o338) (L_ o478)) (N_ o272 (L_ o408) Z_)) Y114) (N_ o92 Y74 Y115))) (N_ o474 (N_ o56 (N_ o798 Y87 Y75) (N_ o88 (N_ o126 (N_ o563 (L_ o353) (L_ o798)) (N_ o284 (L_ o420) Z_)) Y116)) (N_ o64 (N_ o796 (N_ o563 (N_ o197 (L_ o342) (L_ o482)) (N_ o276 (L_ o796) Z_)) Y117) (N_ o96 Y76 Y118)))) (N_ W.boot_o_6 (N_ W.boot_o_10 (N_ o798 (N_ o70 Y88 Y77) (N_ o86 (N_ o798 (N_ o203 (L_ o351) (L_ o488)) (N_ o798 (L_ o418) Z_)) Y119)) (N_ o62 (N_ o78 (N_ o113 (N_ o798 (L_ o340) (L_ o480)) (N_ o798 (L_ o410) Z_)) Y120) (N_ o94 Y78 Y121))) (N_ o46 (N_ o798 (N_ o74 (N_ o798 (N_ o188 (L_ o336) (L_ o562)) (N_ o798 (L_ o406) Z_)) Y79) (N_ o796 Y80 Y122)) (N_ o796 (N_ o798 (N_ o798 (N_ o798 (L_ o562) (L_ o796)) (N_ o278 (L_ o798) Z_)) Y123) (N_ o98 Y81 Y124))))))
def My.h_sts_473:(@List @Stmt):=[My.top 26]
def My.h_tree_472:Params→W.BT:=(N_ W.boot_o_0 (N_ W.boot_o_1 (N_ o423 (N_ W.boot_o_7 (N_ o798 (N_ o67 Y82 (N_ o140 Y329 (N_ o297 (L_ o796) Z_))) (N_ o83 Y125 Y101)) (N_ o796 (N_ o798 Y126 Y102) (N_ o91 (N_ o267 (N_ o796 (L_ o356) Z_) (N_ o563 (L_ o562) Z_)) Y103))) (N_ o798 (N_ o55 (N_ o71 Y83 (N_ o267 Y327 (N_ o301 (L_ o438) Z_))) (N_ o563 Y127 Y104)) (N_ o63 (N_ o798 Y128 Y105) (N_ o266 (N_ o796 (N_ o215 (L_ o360) Z_) (N_ o293 (L_ o430) Z_)) Y106)))) (N_ W.boot_o_5 (N_ W.boot_o_9 (N_ o53 (N_ o69 Y84 (N_ o142 (N_ o224 (L_ o366) Z_) (N_ o299 (L_ o798) Z_))) (N_ o85 Y129 Y107)) (N_ o798 (N_ o77 (N_ o112 (N_ o194 (L_ o425) Z_) (N_ o273 (L_ o409) Z_)) Y108) (N_ o798 (N_ o134 (N_ o213 (L_ o358) Z_) (N_ o798 (L_ o428) Z_)) Y109))) (N_ o45 (N_ o57 (N_ o796 Y85 (N_ o149 (N_ o228 (L_ o370) Z_) Y327)) (N_ o798 Y130 Y110)) (N_ o798 (N_ o81 Y131 Y111) (N_ o97 (N_ o138 (N_ o217 (L_ o796) Z_) (N_ o798 (L_ o432) Z_)) Y112))))) (N_ W.boot_o_2 (N_ W.boot_o_4 (N_ W.boot_o_8 (N_ o796 (N_ o798 Y86 (N_ o141 (N_ o563 (L_ o365) Z_) (N_ o798 (L_ o435) Z_))) (N_ o84 Y132 Y113)) (N_ o60 (N_ o76 Y133 Y114) (N_ o92 (N_ o563 (N_ o212 (L_ o798) Z_) (N_ o290 (L_ o563) Z_)) Y115))) (N_ o424 (N_ o56 (N_ o798 Y87 (N_ o563 (N_ o227 (L_ o796) Z_) (N_ o798 (L_ o439) Z_))) (N_ o88 Y134 Y116)) (N_ o64 (N_ o796 Y135 Y117) (N_ o96 (N_ o137 (N_ o216 (L_ o798) Z_) (N_ o294 (L_ o431) Z_)) Y118)))) (N_ W.boot_o_6 (N_ W.boot_o_10 (N_ o798 (N_ o70 Y88 (N_ o143 (N_ o798 (L_ o367) Z_) (N_ o300 (L_ o437) Z_))) (N_ o86 Y136 Y119)) (N_ o62 (N_ o78 Y137 Y120) (N_ o94 (N_ o798 (N_ o798 (L_ o359) Z_) (N_ o292 (L_ o798) Z_)) Y121))) (N_ o46 (N_ o798 (N_ o74 Y138 (N_ o798 Y325 (N_ o304 (L_ o796) Z_))) (N_ o796 Y139 Y122)) (N_ o796 (N_ o798 Y140 Y123) (N_ o98 (N_ o798 (N_ o218 (L_ o363) Z_) Y327) Y124))))))
def My.h_sts_423:(@List @Stmt):=[My.top 25]
def My.h_tree_422:Params→W.BT:=(N_ W.boot_o_0 (N_ W.boot_o_1 (N_ o380 (N_ W.boot_o_7 (N_ o798 (N_ o67 (N_ o267 (N_ o796 (L_ o329) Z_) (N_ o260 (L_ o399) Z_)) Y248) (N_ o83 Y125 (N_ o267 (N_ o796 (L_ o562) Z_) (L_ o313)))) (N_ o796 (N_ o798 Y126 Y249) (N_ o91 Y250 (N_ o170 Y328 (L_ o321))))) (N_ o798 (N_ o55 (N_ o71 (N_ o796 (N_ o185 (L_ o798) Z_) (N_ o267 (L_ o403) Z_)) Y251) (N_ o563 Y127 (N_ o796 (N_ o245 (L_ o387) Z_) (L_ o796)))) (N_ o63 (N_ o798 Y128 Y252) (N_ o266 Y253 (N_ o267 (N_ o796 (L_ o395) Z_) (L_ o325)))))) (N_ W.boot_o_5 (N_ W.boot_o_9 (N_ o53 (N_ o69 (N_ o104 (N_ o183 (L_ o796) Z_) (N_ o262 (L_ o401) Z_)) Y254) (N_ o85 Y129 (N_ o164 (N_ o243 (L_ o385) Z_) (L_ o315)))) (N_ o798 (N_ o77 (N_ o112 (N_ o194 (L_ o382) Z_) (N_ o273 (L_ o409) Z_)) Y255) (N_ o798 Y256 (N_ o172 (N_ o254 (L_ o798) Z_) (L_ o798))))) (N_ o45 (N_ o57 (N_ o796 (N_ o108 (N_ o187 (L_ o335) Z_) (N_ o269 (L_ o796) Z_)) Y257) (N_ o798 Y130 (N_ o168 (N_ o247 (L_ o389) Z_) (L_ o798)))) (N_ o798 (N_ o81 Y131 Y258) (N_ o97 Y259 (N_ o179 (N_ o258 (L_ o798) Z_) (L_ o327))))))) (N_ W.boot_o_2 (N_ W.boot_o_4 (N_ W.boot_o_8 (N_ o796 (N_ o798 (N_ o563 (N_ o182 (L_ o798) Z_) (N_ o261 (L_ o798) Z_)) Y260) (N_ o84 Y132 (N_ o563 (N_ o242 (L_ o563) Z_) (L_ o314)))) (N_ o60 (N_ o76 Y133 Y261) (N_ o92 Y262 (N_ o171 (N_ o563 (L_ o392) Z_) (L_ o322))))) (N_ o381 (N_ o56 (N_ o798 (N_ o107 (N_ o186 (L_ o334) Z_) Y323) Y263) (N_ o88 Y134 (N_ o167 (N_ o246 (L_ o388) Z_) (L_ o318)))) (N_ o64 (N_ o796 Y135 Y264) (N_ o96 Y265 (N_ o563 (N_ o257 (L_ o396) Z_) (L_ o798)))))) (N_ W.boot_o_6 (N_ W.boot_o_10 (N_ o798 (N_ o70 (N_ o798 (N_ o798 (L_ o332) Z_) (N_ o263 (L_ o402) Z_)) Y266) (N_ o86 Y136 (N_ o798 Y325 (L_ o798)))) (N_ o62 (N_ o78 Y137 Y267) (N_ o94 Y268 (N_ o173 (N_ o798 (L_ o394) Z_) (L_ o796))))) (N_ o46 (N_ o798 (N_ o74 Y138 Y269) (N_ o796 Y139 (N_ o798 (N_ o248 (L_ o798) Z_) (L_ o320)))) (N_ o796 (N_ o798 Y140 Y270) (N_ o98 Y271 (N_ o798 Y324 (L_ o328))))))))
def My.h_sts_380:(@List @Stmt):=[My.top 24]
def My.h_tree_379:Params→W.BT:=(N_ W.boot_o_0 (N_ W.boot_o_1 (N_ o344 (N_ W.boot_o_7 (N_ o798 (N_ o67 Y272 Y248) (N_ o83 (N_ o796 (N_ o200 (L_ o563) Z_) (L_ o798)) (N_ o267 (L_ o796) (L_ o313)))) (N_ o796 (N_ o798 Y273 Y249) (N_ o91 Y250 (N_ o170 (L_ o267) (L_ o321))))) (N_ o798 (N_ o55 (N_ o71 Y274 Y251) (N_ o563 (N_ o125 (N_ o267 (L_ o352) Z_) (L_ o283)) (N_ o796 (L_ o245) (L_ o796)))) (N_ o63 (N_ o798 Y275 Y252) (N_ o266 Y253 (N_ o267 (L_ o796) (L_ o325)))))) (N_ W.boot_o_5 (N_ W.boot_o_9 (N_ o53 (N_ o69 Y276 Y254) (N_ o85 (N_ o123 (N_ o202 (L_ o798) Z_) (L_ o281)) (N_ o164 (L_ o243) (L_ o315)))) (N_ o798 (N_ o77 (N_ o112 (N_ o194 (L_ o346) Z_) (L_ o273)) Y255) (N_ o798 Y256 (N_ o172 (L_ o254) (L_ o798))))) (N_ o45 (N_ o57 (N_ o796 Y277 Y257) (N_ o798 (N_ o127 (N_ o209 (L_ o798) Z_) (L_ o285)) (N_ o168 (L_ o247) (L_ o798)))) (N_ o798 (N_ o81 Y278 Y258) (N_ o97 Y259 (N_ o179 (L_ o258) (L_ o327))))))) (N_ W.boot_o_2 (N_ W.boot_o_4 (N_ W.boot_o_8 (N_ o796 (N_ o798 Y279 Y260) (N_ o84 (N_ o122 (N_ o201 (L_ o349) Z_) (L_ o796)) (N_ o563 (L_ o242) (L_ o314)))) (N_ o60 (N_ o76 Y280 Y261) (N_ o92 Y262 (N_ o171 (L_ o563) (L_ o322))))) (N_ o345 (N_ o56 (N_ o798 Y281 Y263) (N_ o88 (N_ o126 (N_ o563 (L_ o353) Z_) (L_ o284)) (N_ o167 (L_ o246) (L_ o318)))) (N_ o64 (N_ o796 Y282 Y264) (N_ o96 Y265 (N_ o563 (L_ o257) (L_ o798)))))) (N_ W.boot_o_6 (N_ W.boot_o_10 (N_ o798 (N_ o70 Y283 Y266) (N_ o86 (N_ o798 (N_ o203 (L_ o351) Z_) (L_ o798)) (N_ o798 (L_ o798) (L_ o798)))) (N_ o62 (N_ o78 Y284 Y267) (N_ o94 Y268 (N_ o173 (L_ o798) (L_ o796))))) (N_ o46 (N_ o798 (N_ o74 Y285 Y269) (N_ o796 (N_ o128 Y324 (L_ o798)) (N_ o798 (L_ o248) (L_ o320)))) (N_ o796 (N_ o798 (N_ o798 (N_ o798 (L_ o562) Z_) (L_ o278)) Y270) (N_ o98 Y271 (N_ o798 (L_ o798) (L_ o328))))))))
def My.h_sts_344:(@List @Stmt):=[My.top 23]
def My.h_tree_343:Params→W.BT:=(N_ W.boot_o_0 (N_ W.boot_o_1 (N_ o286 (N_ W.boot_o_7 (N_ o798 (N_ o67 Y272 (N_ o140 (L_ o267) (L_ o297))) (N_ o83 (N_ o796 (L_ o200) (L_ o798)) (N_ o267 (L_ o796) (L_ o313)))) (N_ o796 (N_ o798 Y273 (N_ o796 (L_ o230) (L_ o798))) (N_ o91 (N_ o267 (L_ o796) (L_ o563)) (N_ o170 (L_ o267) (L_ o321))))) (N_ o798 (N_ o55 (N_ o71 Y274 (N_ o267 (L_ o796) (L_ o301))) (N_ o563 (N_ o125 (L_ o267) (L_ o283)) (N_ o796 (L_ o245) (L_ o796)))) (N_ o63 (N_ o798 Y275 (N_ o155 (L_ o267) (L_ o798))) (N_ o266 (N_ o796 (L_ o215) (L_ o293)) (N_ o267 (L_ o796) (L_ o325)))))) (N_ W.boot_o_5 (N_ W.boot_o_9 (N_ o53 (N_ o69 Y276 (N_ o142 (L_ o224) (L_ o299))) (N_ o85 (N_ o123 (L_ o202) (L_ o281)) (N_ o164 (L_ o243) (L_ o315)))) (N_ o798 (N_ o77 (N_ o112 (N_ o194 (L_ o339) Z_) (L_ o273)) (N_ o153 (L_ o232) (L_ o307))) (N_ o798 (N_ o134 (L_ o213) (L_ o798)) (N_ o172 (L_ o254) (L_ o798))))) (N_ o45 (N_ o57 (N_ o796 Y277 (N_ o149 (L_ o228) (L_ o796))) (N_ o798 (N_ o127 (L_ o209) (L_ o285)) (N_ o168 (L_ o247) (L_ o798)))) (N_ o798 (N_ o81 Y278 (N_ o157 (L_ o239) (L_ o311))) (N_ o97 (N_ o138 (L_ o217) (L_ o798)) (N_ o179 (L_ o258) (L_ o327))))))) (N_ W.boot_o_2 (N_ W.boot_o_4 (N_ W.boot_o_8 (N_ o796 (N_ o798 Y279 (N_ o141 (L_ o563) (L_ o798))) (N_ o84 (N_ o122 (L_ o201) (L_ o796)) (N_ o563 (L_ o242) (L_ o314)))) (N_ o60 (N_ o76 Y280 (N_ o152 (L_ o231) (L_ o306))) (N_ o92 (N_ o563 (L_ o212) (L_ o290)) (N_ o171 (L_ o563) (L_ o322))))) (N_ o287 (N_ o56 (N_ o798 Y281 (N_ o563 (L_ o227) (L_ o798))) (N_ o88 (N_ o126 (L_ o563) (L_ o284)) (N_ o167 (L_ o246) (L_ o318)))) (N_ o64 (N_ o796 Y282 (N_ o156 (L_ o563) (L_ o796))) (N_ o96 (N_ o137 (L_ o216) (L_ o294)) (N_ o563 (L_ o257) (L_ o798)))))) (N_ W.boot_o_6 (N_ W.boot_o_10 (N_ o798 (N_ o70 Y283 (N_ o143 (L_ o798) (L_ o300))) (N_ o86 (N_ o798 (L_ o203) (L_ o798)) (N_ o798 (L_ o798) (L_ o798)))) (N_ o62 (N_ o78 Y284 (N_ o798 (L_ o233) (L_ o308))) (N_ o94 (N_ o798 (L_ o798) (L_ o292)) (N_ o173 (L_ o798) (L_ o796))))) (N_ o46 (N_ o798 (N_ o74 Y285 (N_ o798 (L_ o798) (L_ o304))) (N_ o796 (N_ o128 (L_ o798) (L_ o798)) (N_ o798 (L_ o248) (L_ o320)))) (N_ o796 (N_ o798 (N_ o798 (L_ o798) (L_ o278)) (N_ o158 (L_ o798) (L_ o798))) (N_ o98 (N_ o798 (L_ o218) (L_ o796)) (N_ o798 (L_ o798) (L_ o328))))))))
def My.h_sts_286:(@List @Stmt):=[My.top 22]
def My.h_tree_285:Params→W.BT:=(N_ W.boot_o_0 (N_ W.boot_o_1 (N_ o264 (N_ W.boot_o_7 (N_ o798 Y90 (N_ o83 (N_ o796 (L_ o200) (L_ o798)) Y328)) (N_ o796 (N_ o798 (N_ o110 (L_ o267) (L_ o796)) (N_ o796 (L_ o230) Z_)) Y150)) (N_ o798 (N_ o55 (N_ o71 (N_ o796 (L_ o185) (L_ o267)) Y328) (N_ o563 (N_ o125 (L_ o267) (L_ o283)) (N_ o796 (L_ o245) Z_))) (N_ o63 (N_ o798 (N_ o267 (L_ o796) (L_ o275)) (N_ o155 (L_ o267) Z_)) (N_ o266 Y330 Y328)))) (N_ W.boot_o_5 (N_ W.boot_o_9 (N_ o53 Y91 (N_ o85 (N_ o123 (L_ o202) (L_ o281)) (N_ o164 (L_ o243) Z_))) (N_ o798 (N_ o77 (N_ o112 (L_ o194) (L_ o273)) (N_ o153 (L_ o232) Z_)) Y141)) (N_ o45 (N_ o57 (N_ o796 (N_ o108 (L_ o187) (L_ o269)) (N_ o149 (L_ o228) Z_)) (N_ o798 (N_ o127 (L_ o209) (L_ o285)) (N_ o168 (L_ o247) Z_))) (N_ o798 (N_ o81 (N_ o119 (L_ o198) (L_ o277)) (N_ o157 (L_ o239) Z_)) Y151)))) (N_ W.boot_o_2 (N_ W.boot_o_4 (N_ W.boot_o_8 (N_ o796 Y89 (N_ o84 (N_ o122 (L_ o201) (L_ o796)) (N_ o563 (L_ o242) Z_))) (N_ o60 (N_ o76 (N_ o111 (L_ o563) (L_ o272)) (N_ o152 (L_ o231) Z_)) Y152)) (N_ o265 (N_ o56 (N_ o798 (N_ o107 (L_ o186) (L_ o563)) (N_ o563 (L_ o227) Z_)) (N_ o88 (N_ o126 (L_ o563) (L_ o284)) (N_ o167 (L_ o246) Z_))) (N_ o64 (N_ o796 (N_ o563 (L_ o197) (L_ o276)) (N_ o156 (L_ o563) Z_)) Y153))) (N_ W.boot_o_6 (N_ W.boot_o_10 (N_ o798 Y92 (N_ o86 (N_ o798 (L_ o203) (L_ o798)) Y325)) (N_ o62 (N_ o78 (N_ o113 (L_ o798) (L_ o798)) (N_ o798 (L_ o233) Z_)) Y154)) (N_ o46 (N_ o798 (N_ o74 (N_ o798 (L_ o188) (L_ o798)) Y325) Y142) (N_ o796 (N_ o798 (N_ o798 (L_ o798) (L_ o278)) (N_ o158 (L_ o798) Z_)) Y155)))))
def My.h_sts_264:(@List @Stmt):=[My.top 19,My.top 20,My.top 21]
def My.h_tree_263:Params→W.BT:=(N_ W.boot_o_0 (N_ W.boot_o_1 (N_ o249 (N_ W.boot_o_7 (N_ o798 Y90 Y156) (N_ o796 Y143 Y150)) (N_ o798 Y15 (N_ o63 Y144 (N_ o251 Y330 Y328)))) (N_ W.boot_o_5 (N_ W.boot_o_9 (N_ o53 Y91 Y158) (N_ o798 Y159 Y141)) (N_ o45 Y13 (N_ o798 Y160 Y151)))) (N_ W.boot_o_2 (N_ W.boot_o_4 (N_ W.boot_o_8 (N_ o796 Y89 Y161) (N_ o60 Y162 Y152)) (N_ o250 Y16 (N_ o64 Y147 Y153))) (N_ W.boot_o_6 (N_ W.boot_o_10 (N_ o798 Y92 Y163) (N_ o62 Y164 Y154)) (N_ o46 Y14 (N_ o796 Y148 Y155)))))
def My.h_sts_249:(@List @Stmt):=[My.top 18]
def My.h_tree_248:Params→W.BT:=(N_ W.boot_o_0 (N_ W.boot_o_1 (N_ o234 (N_ W.boot_o_7 (N_ o798 Y166 Y156) Y36) (N_ o798 Y15 (N_ o63 Y144 (N_ o236 Y330 (L_ o267))))) (N_ W.boot_o_5 (N_ W.boot_o_9 (N_ o53 Y167 Y158) Y37) (N_ o45 Y13 (N_ o798 Y160 Y298)))) (N_ W.boot_o_2 (N_ W.boot_o_4 (N_ W.boot_o_8 (N_ o796 Y149 Y161) Y38) (N_ o235 Y16 (N_ o64 Y147 Y300))) (N_ W.boot_o_6 (N_ W.boot_o_10 (N_ o798 Y168 Y163) Y39) (N_ o46 Y14 (N_ o796 Y148 Y302)))))
def My.h_sts_234:(@List @Stmt):=[My.top 17]
def My.h_tree_233:Params→W.BT:=(N_ W.boot_o_0 (N_ W.boot_o_1 (N_ o219 (N_ W.boot_o_7 (N_ o798 Y166 Y303) Y36) (N_ o798 (N_ o55 Y157 Y287) (N_ o63 Y288 (N_ o221 Y330 (L_ o267))))) (N_ W.boot_o_5 (N_ W.boot_o_9 (N_ o53 Y167 Y304) Y37) (N_ o45 (N_ o57 Y145 Y289) Y42))) (N_ W.boot_o_2 (N_ W.boot_o_4 (N_ W.boot_o_8 (N_ o796 Y149 Y306) Y38) (N_ o220 (N_ o56 Y146 Y307) Y43)) (N_ W.boot_o_6 (N_ W.boot_o_10 (N_ o798 Y168 Y308) Y39) (N_ o46 (N_ o798 Y165 Y291) Y40))))
def My.h_sts_219:(@List @Stmt):=[My.top 16]
def My.h_tree_218:Params→W.BT:=(N_ W.boot_o_0 (N_ W.boot_o_1 (N_ o204 (N_ W.boot_o_7 Y44 (N_ o796 Y293 Y297)) (N_ o798 (N_ o55 Y310 Y287) (N_ o63 Y288 (N_ o206 Y330 (L_ o267))))) (N_ W.boot_o_5 (N_ W.boot_o_9 Y46 (N_ o798 Y312 Y286)) (N_ o45 (N_ o57 Y294 Y289) Y42))) (N_ W.boot_o_2 (N_ W.boot_o_4 (N_ W.boot_o_8 Y41 (N_ o60 Y313 Y299)) (N_ o205 (N_ o56 Y296 Y307) Y43)) (N_ W.boot_o_6 (N_ W.boot_o_10 Y45 (N_ o62 Y315 Y301)) (N_ o46 (N_ o798 Y316 Y291) Y40))))
def My.h_sts_204:(@List @Stmt):=[My.top 15]
def My.h_tree_203:Params→W.BT:=(N_ W.boot_o_0 (N_ W.boot_o_1 (N_ o189 (N_ W.boot_o_7 Y44 (N_ o796 Y293 (N_ o91 (L_ o267) (L_ o170)))) (N_ o798 Y49 (N_ o63 Y288 (N_ o191 (L_ o796) (L_ o267))))) (N_ W.boot_o_5 (N_ W.boot_o_9 Y46 (N_ o798 Y312 (N_ o798 (L_ o134) (L_ o172)))) (N_ o45 Y47 (N_ o798 Y305 (N_ o97 (L_ o138) (L_ o179)))))) (N_ W.boot_o_2 (N_ W.boot_o_4 (N_ W.boot_o_8 Y41 (N_ o60 Y313 (N_ o92 (L_ o563) (L_ o171)))) (N_ o190 Y50 (N_ o64 Y290 (N_ o96 (L_ o137) (L_ o563))))) (N_ W.boot_o_6 (N_ W.boot_o_10 Y45 (N_ o62 Y315 (N_ o94 (L_ o798) (L_ o173)))) (N_ o46 Y48 (N_ o796 Y292 (N_ o98 (L_ o798) (L_ o798)))))))
def My.h_sts_189:(@List @Stmt):=[My.top 14]
def My.h_tree_188:Params→W.BT:=(N_ W.boot_o_0 (N_ W.boot_o_1 (N_ o174 (N_ W.boot_o_7 (N_ o798 Y309 (N_ o83 (L_ o796) (L_ o267))) Y61) (N_ o798 Y49 (N_ o63 Y322 (N_ o176 (L_ o796) (L_ o267))))) (N_ W.boot_o_5 (N_ W.boot_o_9 (N_ o53 Y311 (N_ o85 (L_ o123) (L_ o164))) Y62) (N_ o45 Y47 (N_ o798 (N_ o81 (L_ o119) (L_ o157)) (N_ o97 (L_ o138) (L_ o179)))))) (N_ W.boot_o_2 (N_ W.boot_o_4 (N_ W.boot_o_8 (N_ o796 Y295 (N_ o84 (L_ o122) (L_ o563))) Y63) (N_ o175 Y50 (N_ o64 (N_ o796 (L_ o563) (L_ o156)) (N_ o96 (L_ o137) (L_ o563))))) (N_ W.boot_o_6 (N_ W.boot_o_10 (N_ o798 Y314 (N_ o86 (L_ o798) (L_ o798))) Y64) (N_ o46 Y48 (N_ o796 (N_ o798 (L_ o798) (L_ o158)) (N_ o98 (L_ o798) (L_ o798)))))))
def My.h_sts_174:(@List @Stmt):=[My.top 13]
def My.h_tree_173:Params→W.BT:=(N_ W.boot_o_0 (N_ W.boot_o_1 (N_ o159 (N_ W.boot_o_7 (N_ o798 (N_ o67 (L_ o267) (L_ o140)) (N_ o83 (L_ o796) (L_ o267))) Y61) (N_ o798 (N_ o55 (N_ o71 (L_ o796) (L_ o267)) (N_ o563 (L_ o125) (L_ o796))) (N_ o63 Y322 (N_ o161 (L_ o796) Z_)))) (N_ W.boot_o_5 (N_ W.boot_o_9 (N_ o53 (N_ o69 (L_ o104) (L_ o142)) (N_ o85 (L_ o123) (L_ o164))) Y62) (N_ o45 (N_ o57 (N_ o796 (L_ o108) (L_ o149)) (N_ o798 (L_ o127) (L_ o168))) Y95))) (N_ W.boot_o_2 (N_ W.boot_o_4 (N_ W.boot_o_8 (N_ o796 (N_ o798 (L_ o563) (L_ o141)) (N_ o84 (L_ o122) (L_ o563))) Y63) (N_ o160 (N_ o56 (N_ o798 (L_ o107) (L_ o563)) (N_ o88 (L_ o126) (L_ o167))) Y96)) (N_ W.boot_o_6 (N_ W.boot_o_10 (N_ o798 (N_ o70 (L_ o798) (L_ o143)) (N_ o86 (L_ o798) (L_ o798))) Y64) (N_ o46 (N_ o798 (N_ o74 (L_ o798) (L_ o798)) (N_ o796 (L_ o128) (L_ o798))) Y93))))
def My.h_sts_159:(@List @Stmt):=[My.top 12]
def My.h_tree_158:Params→W.BT:=(N_ W.boot_o_0 (N_ W.boot_o_1 (N_ o144 (N_ W.boot_o_7 Y97 (N_ o796 (N_ o798 (L_ o110) (L_ o796)) (N_ o91 (L_ o267) Z_))) (N_ o798 (N_ o55 (N_ o71 (L_ o796) (L_ o267)) (N_ o563 (L_ o125) Z_)) (N_ o63 Y322 (N_ o146 (L_ o796) Z_)))) (N_ W.boot_o_5 (N_ W.boot_o_9 Y99 (N_ o798 (N_ o77 (L_ o112) (L_ o153)) (N_ o798 (L_ o134) Z_))) (N_ o45 (N_ o57 (N_ o796 (L_ o108) (L_ o149)) (N_ o798 (L_ o127) Z_)) Y95))) (N_ W.boot_o_2 (N_ W.boot_o_4 (N_ W.boot_o_8 Y94 (N_ o60 (N_ o76 (L_ o111) (L_ o152)) (N_ o92 (L_ o563) Z_))) (N_ o145 (N_ o56 (N_ o798 (L_ o107) (L_ o563)) (N_ o88 (L_ o126) Z_)) Y96)) (N_ W.boot_o_6 (N_ W.boot_o_10 Y98 (N_ o62 (N_ o78 (L_ o113) (L_ o798)) (N_ o94 (L_ o798) Z_))) (N_ o46 (N_ o798 (N_ o74 (L_ o798) (L_ o798)) (N_ o796 (L_ o128) Z_)) Y93))))
def My.h_sts_144:(@List @Stmt):=[My.top 11]
def My.h_tree_143:Params→W.BT:=(N_ W.boot_o_0 (N_ W.boot_o_1 (N_ o129 (N_ W.boot_o_7 Y97 (N_ o796 (N_ o798 (L_ o110) Z_) (N_ o91 (L_ o267) Z_))) (N_ o798 Y171 (N_ o63 (N_ o798 (L_ o267) Z_) (N_ o131 (L_ o796) Z_)))) (N_ W.boot_o_5 (N_ W.boot_o_9 Y99 (N_ o798 (N_ o77 (L_ o112) Z_) (N_ o798 (L_ o134) Z_))) (N_ o45 Y169 (N_ o798 (N_ o81 (L_ o119) Z_) (N_ o97 (L_ o138) Z_))))) (N_ W.boot_o_2 (N_ W.boot_o_4 (N_ W.boot_o_8 Y94 (N_ o60 (N_ o76 (L_ o111) Z_) (N_ o92 (L_ o563) Z_))) (N_ o130 Y172 (N_ o64 (N_ o796 (L_ o563) Z_) (N_ o96 (L_ o137) Z_)))) (N_ W.boot_o_6 (N_ W.boot_o_10 Y98 (N_ o62 (N_ o78 (L_ o113) Z_) (N_ o94 (L_ o798) Z_))) (N_ o46 Y170 (N_ o796 Y325 (N_ o98 (L_ o798) Z_))))))
def My.h_sts_129:(@List @Stmt):=[My.top 10]
def My.h_tree_128:Params→W.BT:=(N_ W.boot_o_0 (N_ W.boot_o_1 (N_ o114 (N_ W.boot_o_7 (N_ o798 (N_ o67 (L_ o267) Z_) (N_ o83 (L_ o796) Z_)) Y317) (N_ o798 Y171 (N_ o63 (N_ o798 (L_ o267) Z_) (L_ o116)))) (N_ W.boot_o_5 (N_ W.boot_o_9 (N_ o53 (N_ o69 (L_ o104) Z_) (N_ o85 (L_ o123) Z_)) Y318) (N_ o45 Y169 (N_ o798 (N_ o81 (L_ o119) Z_) (L_ o97))))) (N_ W.boot_o_2 (N_ W.boot_o_4 (N_ W.boot_o_8 (N_ o796 (N_ o798 (L_ o563) Z_) (N_ o84 (L_ o122) Z_)) Y319) (N_ o115 Y172 (N_ o64 (N_ o796 (L_ o563) Z_) (L_ o96)))) (N_ W.boot_o_6 (N_ W.boot_o_10 (N_ o798 (N_ o70 (L_ o798) Z_) (N_ o86 (L_ o798) Z_)) Y320) (N_ o46 Y170 (N_ o796 Y325 (L_ o98))))))
def My.h_sts_114:(@List @Stmt):=[My.top 9]
def My.h_tree_113:Params→W.BT:=(N_ W.boot_o_0 (N_ W.boot_o_1 (N_ o99 (N_ W.boot_o_7 (N_ o798 (N_ o67 (L_ o267) Z_) (L_ o83)) Y317) (N_ o798 (N_ o55 (N_ o71 (L_ o796) Z_) (L_ o563)) (N_ o63 (L_ o798) (L_ o101)))) (N_ W.boot_o_5 (N_ W.boot_o_9 (N_ o53 (N_ o69 (L_ o104) Z_) (L_ o85)) Y318) (N_ o45 (N_ o57 (N_ o796 (L_ o108) Z_) (L_ o798)) (N_ o798 (L_ o81) (L_ o97))))) (N_ W.boot_o_2 (N_ W.boot_o_4 (N_ W.boot_o_8 (N_ o796 (N_ o798 (L_ o563) Z_) (L_ o84)) Y319) (N_ o100 (N_ o56 (N_ o798 (L_ o107) Z_) (L_ o88)) (N_ o64 (L_ o796) (L_ o96)))) (N_ W.boot_o_6 (N_ W.boot_o_10 (N_ o798 (N_ o70 (L_ o798) Z_) (L_ o86)) Y320) (N_ o46 (N_ o798 (N_ o74 (L_ o798) Z_) (L_ o796)) (N_ o796 (L_ o798) (L_ o98))))))
def My.h_sts_99:(@List @Stmt):=[My.top 8]
def My.h_tree_98:Params→W.BT:=(N_ W.boot_o_0 (N_ W.boot_o_1 (N_ o49 (N_ W.boot_o_7 (N_ o798 (L_ o67) (L_ o83)) (N_ o796 (L_ o798) (L_ o91))) (N_ o798 (N_ o55 (L_ o71) (L_ o563)) (N_ o63 (L_ o798) (L_ o95)))) (N_ W.boot_o_5 (N_ W.boot_o_9 (N_ o53 (L_ o69) (L_ o85)) (N_ o798 (L_ o77) (L_ o798))) (N_ o45 (N_ o57 (L_ o796) (L_ o798)) (N_ o798 (L_ o81) (L_ o97))))) (N_ W.boot_o_2 (N_ W.boot_o_4 (N_ W.boot_o_8 (N_ o796 (L_ o798) (L_ o84)) (N_ o60 (L_ o76) (L_ o92))) (N_ o50 (N_ o56 (L_ o798) (L_ o88)) (N_ o64 (L_ o796) (L_ o96)))) (N_ W.boot_o_6 (N_ W.boot_o_10 (N_ o798 (L_ o70) (L_ o86)) (N_ o62 (L_ o78) (L_ o94))) (N_ o46 (N_ o798 (L_ o74) (L_ o796)) (N_ o796 (L_ o798) (L_ o98))))))
def My.h_sts_49:(@List @Stmt):=[My.top 0,My.top 1,My.top 2,My.top 3,My.top 4,My.top 5,My.top 6,My.top 7]
def My.h_tree_47:Params→W.BT:=(N_ W.boot_o_0 (N_ W.boot_o_1 (N_ W.boot_o_3 (L_ W.boot_o_7) (L_ o798)) (N_ W.boot_o_5 (L_ W.boot_o_9) (L_ o45))) (N_ W.boot_o_2 (N_ W.boot_o_4 (L_ W.boot_o_8) (L_ o796)) (N_ W.boot_o_6 (L_ W.boot_o_10) (L_ o46))))
def My.h_heap_46:((x:@Params)→@Heap):=(fun x=>(@Heap.mk (@Array.mk @Obj [(@W.boot_o_0 x),(@W.boot_o_1 x),(@W.boot_o_2 x),(@W.boot_o_3 x),(@W.boot_o_4 x),(@W.boot_o_5 x),(@W.boot_o_6 x),(@W.boot_o_7 x),(@W.boot_o_8 x),(@W.boot_o_9 x),(@W.boot_o_10 x),(o798 x),(o796 x),(o45 x),(o46 x)]) (@Life.mk [] [] [] 0 (@List.nil (@Prod @Nat @Nat)) [] @Bool.false #[] [] 0 @Bool.false @Bool.false @Bool.false (0:Int) [(2000:Int),(10:Int),(10:Int)] @Bool.false 0 @Bool.true [] [] 0 @Bool.false)))
abbrev My.k0:=(@Life.mk [] [] [] 0 (@List.nil (@Prod @Nat @Nat)) [] @Bool.false #[] [] 0 @Bool.false @Bool.false @Bool.false (0:Int) [(2000:Int),(10:Int),(10:Int)] @Bool.false 0 @Bool.true [] [] 0 @Bool.false)
abbrev My.S_ (t:Params→W.BT) (n k:Nat) (w:World) (o:OsState):W.SharedT:=W.SharedT.mk (t w.params) n k0 g_ d_ k o
abbrev My.k1:=(@Code.body (@W.behindTheImports ((@W.OpenRow.toRowW (@W.OpenLaw.row @Challenge.rw_oddbases_k52_moved_refused))).1) @h_env_41)
abbrev My.k2:=(@HAppend.hAppend (@List @Stmt) (@List @Stmt) (@List @Stmt) (@instHAppendOfAppend (@List @Stmt) (@List.instAppend @Stmt)) @h_sts_264 (@HAppend.hAppend (@List @Stmt) (@List @Stmt) (@List @Stmt) (@instHAppendOfAppend (@List @Stmt) (@List.instAppend @Stmt)) @h_sts_286 (@HAppend.hAppend (@List @Stmt) (@List @Stmt) (@List @Stmt) (@instHAppendOfAppend (@List @Stmt) (@List.instAppend @Stmt)) @h_sts_344 (@HAppend.hAppend (@List @Stmt) (@List @Stmt) (@List @Stmt) (@instHAppendOfAppend (@List @Stmt) (@List.instAppend @Stmt)) @h_sts_380 (@HAppend.hAppend (@List @Stmt) (@List @Stmt) (@List @Stmt) (@instHAppendOfAppend (@List @Stmt) (@List.instAppend @Stmt)) @h_sts_423 (@HAppend.hAppend (@List @Stmt) (@List @Stmt) (@List @Stmt) (@instHAppendOfAppend (@List @Stmt) (@List.instAppend @Stmt)) @h_sts_473 (@HAppend.hAppend (@List @Stmt) (@List @Stmt) (@List @Stmt) (@instHAppendOfAppend (@List @Stmt) (@List.instAppend @Stmt)) @h_sts_509 (@HAppend.hAppend (@List @Stmt) (@List @Stmt) (@List @Stmt) (@instHAppendOfAppend (@List @Stmt) (@List.instAppend @Stmt)) @h_sts_559 (@HAppend.hAppend (@List @Stmt) (@List @Stmt) (@List @Stmt) (@instHAppendOfAppend (@List @Stmt) (@List.instAppend @Stmt)) @h_sts_616 (@HAppend.hAppend (@List @Stmt) (@List @Stmt) (@List @Stmt) (@instHAppendOfAppend (@List @Stmt) (@List.instAppend @Stmt)) @h_sts_695 (@HAppend.hAppend (@List @Stmt) (@List @Stmt) (@List @Stmt) (@instHAppendOfAppend (@List @Stmt) (@List.instAppend @Stmt)) @h_sts_781 [])))))))))))
abbrev My.k3 (x0:World) (x1:OsState):=(@Shared.mk (@h_heap_802 x0.params) g_ d_ 1115 x1)
abbrev My.k4:=(@W.OpenRow.toRowW (@W.OpenLaw.row @Challenge.rw_oddbases_k52_moved_refused))
abbrev My.k5:=(@instHAppendOfAppend (@List @Stmt) (@List.instAppend @Stmt))
abbrev My.k6:=(@Prod (@Prod (@List (@Option @FnShape)) @Bool) (@Prod (@List (@Option @PyProof.Rows.PlainShape)) (@Prod (@List (@Option (@Prod @PyProof.Rows.PlainShape @Bool))) (@Prod (@Prod (@List (@Option @FnShape)) @Bool) (@List (@Prod (@Option (@Prod (@List (@Option @FnShape)) @Bool)) (@Option (@Prod @PyProof.Rows.PlainShape @Bool))))))))
abbrev My.k7:=(@Prod @Flow (@Prod @W.SharedT (@Prod @Code @Pos)))
abbrev My.k8:=(@Prod @Flow (@Prod @Shared (@Prod @Code @Pos)))
abbrev My.k9:=(@Nat.add 214 (@Nat.add 214 (@Nat.add 214 (@Nat.add 214 (@Nat.add 254 (@Nat.add 388 (@Nat.add 310 (@Nat.add 342 (@Nat.add 374 (@Nat.add 310 (@Nat.add 380 (@Nat.add 410 (@Nat.add 382 (@Nat.add 392 (@Nat.add 102 2)))))))))))))))
abbrev My.k10:=(@HAppend.hAppend (@List @Stmt) (@List @Stmt) (@List @Stmt) k5 @h_sts_174 (@HAppend.hAppend (@List @Stmt) (@List @Stmt) (@List @Stmt) k5 @h_sts_189 (@HAppend.hAppend (@List @Stmt) (@List @Stmt) (@List @Stmt) k5 @h_sts_204 (@HAppend.hAppend (@List @Stmt) (@List @Stmt) (@List @Stmt) k5 @h_sts_219 (@HAppend.hAppend (@List @Stmt) (@List @Stmt) (@List @Stmt) k5 @h_sts_234 (@HAppend.hAppend (@List @Stmt) (@List @Stmt) (@List @Stmt) k5 @h_sts_249 k2))))))
abbrev My.k11:=(@HAppend.hAppend (@List @Stmt) (@List @Stmt) (@List @Stmt) k5 @h_sts_509 (@HAppend.hAppend (@List @Stmt) (@List @Stmt) (@List @Stmt) k5 @h_sts_559 (@HAppend.hAppend (@List @Stmt) (@List @Stmt) (@List @Stmt) k5 @h_sts_616 (@HAppend.hAppend (@List @Stmt) (@List @Stmt) (@List @Stmt) k5 @h_sts_695 (@HAppend.hAppend (@List @Stmt) (@List @Stmt) (@List @Stmt) k5 @h_sts_781 [])))))
abbrev My.k12 (x0:World) (x1:OsState):=(@ite @Bool (@Eq @Bool @Bool.true @Bool.true) (@instDecidableEqBool @Bool.true @Bool.true) (@BEq.beq @Nat (@instBEqOfDecidableEq @Nat @instDecidableEqNat) (@Array.size @GenState (@Shared.gens (k3 x0 x1))) 0) (@Bool.not (@leftWithCleanup (@Shared.gens (k3 x0 x1)))))
abbrev My.k13:=(@Bool.true,((@pinGoodD (@PyProof.Rows.drecsOf @h_view_39)),((@PyProof.Rows.plainGoodE @h_view_39 (@W.looseW @h_view_39 [])),((@PyProof.Rows.plainGoodD @h_view_39 []),((@W.wideGood @h_view_39),(@W.clsGoodW @h_view_39 []))))))
abbrev My.k14:=(@List (@Prod (@Option (@Prod (@List (@Option @FnShape)) @Bool)) (@Option (@Prod @PyProof.Rows.PlainShape @Bool))))
abbrev My.k15 (x0:World) (x1:OsState):=(@Bool.and (@Bool.and (@Bool.and (@W.staticsOk (@importedModules (@Module.body (@Program.main (k4).1))) (@W.boot_heap x0.params) (@h_heap_802 x0.params)) (@W.namesBound (k4).1 (@h_heap_802 x0.params))) (@W.gensDone (k3 x0 x1))) (@W.laidKept (@W.boot_heap x0.params) (@h_heap_802 x0.params)))
abbrev My.k16:=(@Prod (@Prod (@Option @Str) (@List (@Prod @Str @Value))) (@Prod @Bool (@Prod @Bool k6)))
abbrev My.k17:=(@Nat.add 356 (@Nat.add 214 (@Nat.add 214 (@Nat.add 214 (@Nat.add 214 (@Nat.add 214 (@Nat.add 214 (@Nat.add 214 k9))))))))
abbrev My.k18 (x0:World) (x1:OsState):=(@PyProof.Rows.plainSeenE @h_view_39 (@W.looseW @h_view_39 []) (k3 x0 x1))
abbrev My.k19:=(@Eq.refl (@List @Addr) My.myAs)
abbrev My.k20:=(@Nat.add 374 (@Nat.add 310 (@Nat.add 380 (@Nat.add 410 (@Nat.add 382 (@Nat.add 392 (@Nat.add 102 2)))))))
abbrev My.k21:=(@HAppend.hAppend (@List @Stmt) (@List @Stmt) (@List @Stmt) k5 @h_sts_129 (@HAppend.hAppend (@List @Stmt) (@List @Stmt) (@List @Stmt) k5 @h_sts_144 (@HAppend.hAppend (@List @Stmt) (@List @Stmt) (@List @Stmt) k5 @h_sts_159 k10)))
abbrev My.k22:=(@HAppend.hAppend (@List @Stmt) (@List @Stmt) (@List @Stmt) k5 @h_sts_380 (@HAppend.hAppend (@List @Stmt) (@List @Stmt) (@List @Stmt) k5 @h_sts_423 (@HAppend.hAppend (@List @Stmt) (@List @Stmt) (@List @Stmt) k5 @h_sts_473 k11)))
abbrev My.k23:=(@HAppend.hAppend (@List @Stmt) (@List @Stmt) (@List @Stmt) k5 @h_sts_219 (@HAppend.hAppend (@List @Stmt) (@List @Stmt) (@List @Stmt) k5 @h_sts_234 (@HAppend.hAppend (@List @Stmt) (@List @Stmt) (@List @Stmt) k5 @h_sts_249 k2)))
abbrev My.k24:=(@importedModules (@Module.body (@Program.main (k4).1)))
abbrev My.k25 (x0:World) (x1:OsState):=(@pinSeenD @h_view_39 (@PyProof.Rows.drecsOf @h_view_39) (k3 x0 x1))
abbrev My.k26 (x0:World) (x1:OsState):=(@PyProof.Rows.plainSeenD @h_view_39 [] (k3 x0 x1))
abbrev My.k27:=(@Prod (@List (@Option @FnShape)) @Bool)
abbrev My.k28 (x0:World) (x1:OsState):=(@W.clsSeenW @h_view_39 [] (k3 x0 x1))
abbrev My.k29:=(@List.nil (@Prod @Str @W.WData))
abbrev My.k30 (x0:World) (x1:OsState):=(@W.wideSeen @h_view_39 (k3 x0 x1))
abbrev My.k31:=(@HAppend.hAppend (@List @Stmt) (@List @Stmt) (@List @Stmt) k5 @h_sts_695 (@HAppend.hAppend (@List @Stmt) (@List @Stmt) (@List @Stmt) k5 @h_sts_781 []))
abbrev My.k32:=(@W.piecesOf @h_sts_781 @h_env_41 k1 (P_ 336 0 343 70) [(@W.topFrame (P_ 0 0 0 0))])
abbrev My.k33:=(@W.piecesOf @h_sts_616 @h_env_41 k1 (P_ 154 0 176 30) [(@W.topFrame (P_ 0 0 0 0))])
abbrev My.k34:=(@W.piecesOf @h_sts_559 @h_env_41 k1 (P_ 130 0 153 63) [(@W.topFrame (P_ 0 0 0 0))])
abbrev My.k35:=(@W.piecesOf @h_sts_509 @h_env_41 k1 (P_ 120 0 129 33) [(@W.topFrame (P_ 0 0 0 0))])
abbrev My.k36:=(@W.piecesOf @h_sts_473 @h_env_41 k1 (P_ 104 0 119 31) [(@W.topFrame (P_ 0 0 0 0))])
abbrev My.k37:=(@W.piecesOf @h_sts_695 @h_env_41 k1 (P_ 245 0 245 8) [(@W.topFrame (P_ 0 0 0 0))])
abbrev My.k38:=(@W.piecesOf @h_sts_423 @h_env_41 k1 (P_ 91 0 103 31) [(@W.topFrame (P_ 0 0 0 0))])
abbrev My.k39:=(@W.piecesOf @h_sts_380 @h_env_41 k1 (P_ 81 0 90 24) [(@W.topFrame (P_ 0 0 0 0))])
abbrev My.k40:=(@W.piecesOf @h_sts_344 @h_env_41 k1 (P_ 54 0 80 47) [(@W.topFrame (P_ 0 0 0 0))])
abbrev My.k41:=(@W.piecesOf @h_sts_286 @h_env_41 k1 (P_ 50 0 53 17) [(@W.topFrame (P_ 0 0 0 0))])
abbrev My.k42:=(@W.piecesOf @h_sts_264 @h_env_41 k1 (P_ 45 0 46 8) [(@W.topFrame (P_ 0 0 0 0))])
abbrev My.k43:=(@W.piecesOf @h_sts_249 @h_env_41 k1 (P_ 43 0 44 8) [(@W.topFrame (P_ 0 0 0 0))])
abbrev My.k44:=(@W.piecesOf @h_sts_234 @h_env_41 k1 (P_ 41 0 42 8) [(@W.topFrame (P_ 0 0 0 0))])
abbrev My.k45:=(@W.piecesOf @h_sts_219 @h_env_41 k1 (P_ 39 0 40 8) [(@W.topFrame (P_ 0 0 0 0))])
abbrev My.k46:=(@W.piecesOf @h_sts_204 @h_env_41 k1 (P_ 37 0 38 8) [(@W.topFrame (P_ 0 0 0 0))])
abbrev My.k47:=(@W.piecesOf @h_sts_189 @h_env_41 k1 (P_ 35 0 36 8) [(@W.topFrame (P_ 0 0 0 0))])
abbrev My.k48:=(@W.piecesOf @h_sts_174 @h_env_41 k1 (P_ 33 0 34 8) [(@W.topFrame (P_ 0 0 0 0))])
abbrev My.k49:=(@W.piecesOf @h_sts_159 @h_env_41 k1 (P_ 31 0 32 8) [(@W.topFrame (P_ 0 0 0 0))])
abbrev My.k50:=(@W.piecesOf @h_sts_144 @h_env_41 k1 (P_ 29 0 30 8) [(@W.topFrame (P_ 0 0 0 0))])
abbrev My.k51:=(@W.piecesOf @h_sts_129 @h_env_41 k1 (P_ 27 0 28 8) [(@W.topFrame (P_ 0 0 0 0))])
abbrev My.k52:=(@W.piecesOf @h_sts_114 @h_env_41 k1 (P_ 25 0 26 8) [(@W.topFrame (P_ 0 0 0 0))])
abbrev My.k53:=(@List (@Option (@Prod @PyProof.Rows.PlainShape @Bool)))
abbrev My.k54:=(@W.piecesOf @h_sts_99 @h_env_41 k1 (P_ 23 0 24 8) [(@W.topFrame (P_ 0 0 0 0))])
abbrev My.k55:=(@W.piecesOf @h_sts_49 @h_env_41 k1 (P_ 0 0 0 0) [(@W.topFrame (P_ 0 0 0 0))])
abbrev My.k56:=(@PyProof.Rows.plainGoodE @h_view_39 (@W.looseW @h_view_39 []))
abbrev My.k57 (x0:World) (x1:OsState):=(S_ h_tree_780 685 1078 x0 x1)
abbrev My.k58 (x0:World) (x1:OsState):=(S_ h_tree_694 601 958 x0 x1)
abbrev My.k59 (x0:World) (x1:OsState):=(S_ h_tree_615 524 847 x0 x1)
abbrev My.k60 (x0:World) (x1:OsState):=(S_ h_tree_558 470 778 x0 x1)
abbrev My.k61 (x0:World) (x1:OsState):=(S_ h_tree_508 423 715 x0 x1)
abbrev My.k62 (x0:World) (x1:OsState):=(S_ h_tree_472 390 674 x0 x1)
abbrev My.k63 (x0:World) (x1:OsState):=(S_ h_tree_422 343 617 x0 x1)
abbrev My.k64 (x0:World) (x1:OsState):=(S_ h_tree_379 303 568 x0 x1)
abbrev My.k65 (x0:World) (x1:OsState):=(S_ h_tree_343 270 527 x0 x1)
abbrev My.k66 (x0:World) (x1:OsState):=(S_ h_tree_285 214 453 x0 x1)
abbrev My.k67 (x0:World) (x1:OsState):=(S_ h_tree_263 195 426 x0 x1)
abbrev My.k68 (x0:World) (x1:OsState):=(S_ h_tree_248 183 410 x0 x1)
abbrev My.k69 (x0:World) (x1:OsState):=(S_ h_tree_233 171 394 x0 x1)
abbrev My.k70 (x0:World) (x1:OsState):=(S_ h_tree_218 159 378 x0 x1)
abbrev My.k71 (x0:World) (x1:OsState):=(S_ h_tree_203 147 362 x0 x1)
abbrev My.k72 (x0:World) (x1:OsState):=(S_ h_tree_188 135 346 x0 x1)
abbrev My.k73 (x0:World) (x1:OsState):=(S_ h_tree_173 123 330 x0 x1)
abbrev My.k74 (x0:World) (x1:OsState):=(S_ h_tree_158 111 314 x0 x1)
abbrev My.k75:=(@PyProof.Rows.clssOf @h_view_39 (@W.looseW @h_view_39 []))
abbrev My.k76 (x0:World) (x1:OsState):=(S_ h_tree_143 99 298 x0 x1)
abbrev My.k77 (x0:World) (x1:OsState):=(S_ h_tree_128 87 282 x0 x1)
abbrev My.k78 (x0:World) (x1:OsState):=(S_ h_tree_113 75 266 x0 x1)
abbrev My.k79 (x0:World) (x1:OsState):=(S_ h_tree_98 63 250 x0 x1)
abbrev My.k80 (x0:World) (x1:OsState):=(S_ h_tree_47 15 187 x0 x1)
abbrev My.k81 (x0:World) (x1:OsState):=(@Shared.mk (@h_heap_46 x0.params) g_ d_ 187 x1)
abbrev My.k82 (x0:World) (x1:OsState):=(@PyProof.Rows.tablesOk @h_view_39 (@Shared.heap (k3 x0 x1)))
abbrev My.k83 (x0:World) (x1:OsState):=(@PyProof.Rows.tabsOk @h_view_39 (k3 x0 x1))
abbrev My.k84:=(@PyProof.Rows.plainGoodD @h_view_39 [])
abbrev My.k85 (x0:World) (x1:OsState):=(@Heap.accountedOkI (@Shared.heap (k3 x0 x1)) k24)
abbrev My.k86 (x0:World) (x1:OsState):=(S_ h_tree_801 704 1115 x0 x1)
abbrev My.k87 (x0:World) (x1:OsState):=(@Heap.isNs (@Shared.heap (k3 x0 x1)) @mainGlobals)
abbrev My.k88 (x0:World) (x1:OsState):=(@Heap.isNs (@Shared.heap (k3 x0 x1)) @builtinsNs)
abbrev My.k89 (x0:World) (x1:OsState):=(@Shared.mk (@W.boot_heap x0.params) g_ @W.boot_drawn @W.boot_toks x1)
abbrev My.k90:=(@Thread.mk (@denote @treeTable k1) k1 (P_ 0 0 0 0) [(@W.topFrame (P_ 0 0 0 0))])
abbrev My.kh0:=(@W.kHook @h_heap_39 My.myAs (fun x0=>(@id (@Eq (@List @Addr) My.myAs (@List.map (@Prod @Addr @Obj) @Addr (fun (x1:(@Prod @Addr @Obj))=>(@Prod.fst @Addr @Obj x1)) (@h_heap_39 x0))) k19)))
theorem My.pf_837:((x0:World)→(@Eq ((x1:OsState)→(@W.Hook.α kh0)) (fun x1=>(@W.Hook.obs kh0 (k3 x0 x1))) (fun x1=>(@W.Hook.val kh0 x0)))):=by intros; kernel_rfl
theorem My.pf_827:((x0:World)→(@Eq ((x1:OsState)→k14) (fun x1=>(k28 x0 x1)) (fun x1=>(@W.clsGoodW @h_view_39 [])))):=by intros; kernel_rfl
theorem My.pf_825:((x0:World)→(@Eq ((x1:OsState)→k27) (fun x1=>(k30 x0 x1)) (fun x1=>(@W.wideGood @h_view_39)))):=by intros; kernel_rfl
theorem My.pf_828:((x0:World)→((x1:OsState)→(@Eq (@Prod k27 k14) ((k30 x0 x1),(k28 x0 x1)) ((@W.wideGood @h_view_39),(@W.clsGoodW @h_view_39 []))))):=(fun x0=>(fun x1=>(@W.looks_pair k27 k14 (k30 x0 x1) (@W.wideGood @h_view_39) (k28 x0 x1) (@W.clsGoodW @h_view_39 []) ((fun x2=>(fun x3=>(congrFun (My.pf_825 x2) x3))) x0 x1) ((fun x2=>(fun x3=>(congrFun (My.pf_827 x2) x3))) x0 x1))))
theorem My.pf_823:((x0:World)→(@Eq ((x1:OsState)→k53) (fun x1=>(k26 x0 x1)) (fun x1=>k84))):=by intros; kernel_rfl
theorem My.pf_829:((x0:World)→((x1:OsState)→(@Eq (@Prod k53 (@Prod k27 k14)) ((k26 x0 x1),((k30 x0 x1),(k28 x0 x1))) (k84,((@W.wideGood @h_view_39),(@W.clsGoodW @h_view_39 [])))))):=(fun x0=>(fun x1=>(@W.looks_pair k53 (@Prod k27 k14) (k26 x0 x1) k84 ((k30 x0 x1),(k28 x0 x1)) ((@W.wideGood @h_view_39),(@W.clsGoodW @h_view_39 [])) ((fun x2=>(fun x3=>(congrFun (My.pf_823 x2) x3))) x0 x1) (@My.pf_828 x0 x1))))
theorem My.pf_821:((x0:World)→(@Eq ((x1:OsState)→(@List (@Option @PyProof.Rows.PlainShape))) (fun x1=>(k18 x0 x1)) (fun x1=>k56))):=by intros; kernel_rfl
theorem My.pf_830:((x0:World)→((x1:OsState)→(@Eq (@Prod (@List (@Option @PyProof.Rows.PlainShape)) (@Prod k53 (@Prod k27 k14))) ((k18 x0 x1),((k26 x0 x1),((k30 x0 x1),(k28 x0 x1)))) (k56,(k84,((@W.wideGood @h_view_39),(@W.clsGoodW @h_view_39 []))))))):=(fun x0=>(fun x1=>(@W.looks_pair (@List (@Option @PyProof.Rows.PlainShape)) (@Prod k53 (@Prod k27 k14)) (k18 x0 x1) k56 ((k26 x0 x1),((k30 x0 x1),(k28 x0 x1))) (k84,((@W.wideGood @h_view_39),(@W.clsGoodW @h_view_39 []))) ((fun x2=>(fun x3=>(congrFun (My.pf_821 x2) x3))) x0 x1) (@My.pf_829 x0 x1))))
theorem My.pf_819:((x0:World)→(@Eq ((x1:OsState)→k27) (fun x1=>(k25 x0 x1)) (fun x1=>(@pinGoodD (@PyProof.Rows.drecsOf @h_view_39))))):=by intros; kernel_rfl
theorem My.pf_831:((x0:World)→((x1:OsState)→(@Eq k6 ((k25 x0 x1),((k18 x0 x1),((k26 x0 x1),((k30 x0 x1),(k28 x0 x1))))) ((@pinGoodD (@PyProof.Rows.drecsOf @h_view_39)),(k56,(k84,((@W.wideGood @h_view_39),(@W.clsGoodW @h_view_39 [])))))))):=(fun x0=>(fun x1=>(@W.looks_pair k27 (@Prod (@List (@Option @PyProof.Rows.PlainShape)) (@Prod k53 (@Prod k27 k14))) (k25 x0 x1) (@pinGoodD (@PyProof.Rows.drecsOf @h_view_39)) ((k18 x0 x1),((k26 x0 x1),((k30 x0 x1),(k28 x0 x1)))) (k56,(k84,((@W.wideGood @h_view_39),(@W.clsGoodW @h_view_39 [])))) ((fun x2=>(fun x3=>(congrFun (My.pf_819 x2) x3))) x0 x1) (@My.pf_830 x0 x1))))
theorem My.pf_817:((x0:World)→(@Eq ((x1:OsState)→@Bool) (fun x1=>(k83 x0 x1)) (fun x1=>@Bool.true))):=by intros; kernel_rfl
theorem My.pf_832:((x0:World)→((x1:OsState)→(@Eq (@Prod @Bool k6) ((k83 x0 x1),((k25 x0 x1),((k18 x0 x1),((k26 x0 x1),((k30 x0 x1),(k28 x0 x1)))))) k13))):=(fun x0=>(fun x1=>(@W.looks_pair @Bool k6 (k83 x0 x1) @Bool.true ((k25 x0 x1),((k18 x0 x1),((k26 x0 x1),((k30 x0 x1),(k28 x0 x1))))) ((@pinGoodD (@PyProof.Rows.drecsOf @h_view_39)),(k56,(k84,((@W.wideGood @h_view_39),(@W.clsGoodW @h_view_39 []))))) ((fun x2=>(fun x3=>(congrFun (My.pf_817 x2) x3))) x0 x1) (@My.pf_831 x0 x1))))
theorem My.pf_815:((x0:World)→(@Eq ((x1:OsState)→@Bool) (fun x1=>(@Bool.and (@Bool.and (@Bool.and (@Bool.and (@Bool.and (@Bool.and (@Heap.keysOk (@Shared.heap (k3 x0 x1)) (@W.looseW @h_view_39 []) (@List.map @DefRec @Str (fun (x2:@DefRec)=>(@DefRec.name x2)) (@PyProof.Rows.recsOf @h_view_39)) (@List.map (@Prod @Str @PyData) @Str (fun (x2:(@Prod @Str @PyData))=>(@Prod.fst @Str @PyData x2)) (@PyProof.Rows.litsOf @h_view_39)) (@List.map @ClsRec @Str (fun (x2:@ClsRec)=>(@ClsRec.name x2)) k75)) (k85 x0 x1)) (k87 x0 x1)) (k88 x0 x1)) (k82 x0 x1)) ((fun (x2:@Shared)=>(@Bool.and (@W.xlAt @h_view_39 k29 x2) (@W.recOk (@W.RowW.records k4) x2))) (k3 x0 x1))) (k12 x0 x1))) (fun x1=>@Bool.true))):=by intros; kernel_rfl
theorem My.pf_833:((x0:World)→((x1:OsState)→(@Eq (@Prod @Bool (@Prod @Bool k6)) ((@Bool.and (@Bool.and (@Bool.and (@Bool.and (@Bool.and (@Bool.and (@Heap.keysOk (@Shared.heap (k3 x0 x1)) (@W.looseW @h_view_39 []) (@List.map @DefRec @Str (fun (x2:@DefRec)=>(@DefRec.name x2)) (@PyProof.Rows.recsOf @h_view_39)) (@List.map (@Prod @Str @PyData) @Str (fun (x2:(@Prod @Str @PyData))=>(@Prod.fst @Str @PyData x2)) (@PyProof.Rows.litsOf @h_view_39)) (@List.map @ClsRec @Str (fun (x2:@ClsRec)=>(@ClsRec.name x2)) k75)) (k85 x0 x1)) (k87 x0 x1)) (k88 x0 x1)) (k82 x0 x1)) ((fun (x2:@Shared)=>(@Bool.and (@W.xlAt @h_view_39 k29 x2) (@W.recOk (@W.RowW.records k4) x2))) (k3 x0 x1))) (k12 x0 x1)),((k83 x0 x1),((k25 x0 x1),((k18 x0 x1),((k26 x0 x1),((k30 x0 x1),(k28 x0 x1))))))) (@Bool.true,k13)))):=(fun x0=>(fun x1=>(@W.looks_pair @Bool (@Prod @Bool k6) (@Bool.and (@Bool.and (@Bool.and (@Bool.and (@Bool.and (@Bool.and (@Heap.keysOk (@Shared.heap (k3 x0 x1)) (@W.looseW @h_view_39 []) (@List.map @DefRec @Str (fun (x2:@DefRec)=>(@DefRec.name x2)) (@PyProof.Rows.recsOf @h_view_39)) (@List.map (@Prod @Str @PyData) @Str (fun (x2:(@Prod @Str @PyData))=>(@Prod.fst @Str @PyData x2)) (@PyProof.Rows.litsOf @h_view_39)) (@List.map @ClsRec @Str (fun (x2:@ClsRec)=>(@ClsRec.name x2)) k75)) (k85 x0 x1)) (k87 x0 x1)) (k88 x0 x1)) (k82 x0 x1)) ((fun (x2:@Shared)=>(@Bool.and (@W.xlAt @h_view_39 k29 x2) (@W.recOk (@W.RowW.records k4) x2))) (k3 x0 x1))) (k12 x0 x1)) @Bool.true ((k83 x0 x1),((k25 x0 x1),((k18 x0 x1),((k26 x0 x1),((k30 x0 x1),(k28 x0 x1)))))) k13 ((fun x2=>(fun x3=>(congrFun (My.pf_815 x2) x3))) x0 x1) (@My.pf_832 x0 x1))))
theorem My.pf_813:((x0:World)→(@Eq ((x1:OsState)→(@Prod (@Option @Str) (@List (@Prod @Str @Value)))) (fun x1=>(@Heap.bltView (@Shared.heap (k3 x0 x1)))) (fun x1=>@bltViewBooted))):=by intros; kernel_rfl
theorem My.pf_834:((x0:World)→((x1:OsState)→(@Eq k16 ((@Heap.bltView (@Shared.heap (k3 x0 x1))),((@Bool.and (@Bool.and (@Bool.and (@Bool.and (@Bool.and (@Bool.and (@Heap.keysOk (@Shared.heap (k3 x0 x1)) (@W.looseW @h_view_39 []) (@List.map @DefRec @Str (fun (x2:@DefRec)=>(@DefRec.name x2)) (@PyProof.Rows.recsOf @h_view_39)) (@List.map (@Prod @Str @PyData) @Str (fun (x2:(@Prod @Str @PyData))=>(@Prod.fst @Str @PyData x2)) (@PyProof.Rows.litsOf @h_view_39)) (@List.map @ClsRec @Str (fun (x2:@ClsRec)=>(@ClsRec.name x2)) k75)) (k85 x0 x1)) (k87 x0 x1)) (k88 x0 x1)) (k82 x0 x1)) ((fun (x2:@Shared)=>(@Bool.and (@W.xlAt @h_view_39 k29 x2) (@W.recOk (@W.RowW.records k4) x2))) (k3 x0 x1))) (k12 x0 x1)),((k83 x0 x1),((k25 x0 x1),((k18 x0 x1),((k26 x0 x1),((k30 x0 x1),(k28 x0 x1)))))))) (@bltViewBooted,(@Bool.true,k13))))):=(fun x0=>(fun x1=>(@W.looks_pair (@Prod (@Option @Str) (@List (@Prod @Str @Value))) (@Prod @Bool (@Prod @Bool k6)) (@Heap.bltView (@Shared.heap (k3 x0 x1))) @bltViewBooted ((@Bool.and (@Bool.and (@Bool.and (@Bool.and (@Bool.and (@Bool.and (@Heap.keysOk (@Shared.heap (k3 x0 x1)) (@W.looseW @h_view_39 []) (@List.map @DefRec @Str (fun (x2:@DefRec)=>(@DefRec.name x2)) (@PyProof.Rows.recsOf @h_view_39)) (@List.map (@Prod @Str @PyData) @Str (fun (x2:(@Prod @Str @PyData))=>(@Prod.fst @Str @PyData x2)) (@PyProof.Rows.litsOf @h_view_39)) (@List.map @ClsRec @Str (fun (x2:@ClsRec)=>(@ClsRec.name x2)) k75)) (k85 x0 x1)) (k87 x0 x1)) (k88 x0 x1)) (k82 x0 x1)) ((fun (x2:@Shared)=>(@Bool.and (@W.xlAt @h_view_39 k29 x2) (@W.recOk (@W.RowW.records k4) x2))) (k3 x0 x1))) (k12 x0 x1)),((k83 x0 x1),((k25 x0 x1),((k18 x0 x1),((k26 x0 x1),((k30 x0 x1),(k28 x0 x1))))))) (@Bool.true,k13) ((fun x2=>(fun x3=>(congrFun (My.pf_813 x2) x3))) x0 x1) (@My.pf_833 x0 x1))))
theorem My.pf_811:((x0:World)→(@Eq ((x1:OsState)→@PyProof.Rows.Seen) (fun x1=>(@PyProof.Rows.seen (@List.map @DefRec @Str (fun (x2:@DefRec)=>(@DefRec.name x2)) (@PyProof.Rows.recsOf @h_view_39)) (@PyProof.Rows.ownsOf @h_view_39) [] (@Shared.mk (@Shared.heap (k3 x0 x1)) #[] (@Shared.drawn (k3 x0 x1)) (@Shared.toks (k3 x0 x1)) (@Shared.os (k3 x0 x1))))) (fun x1=>(@PyProof.Rows.expectedOf @h_view_39)))):=by intros; kernel_rfl
theorem My.pf_835:((x0:World)→((x1:OsState)→(@Eq (@Prod @PyProof.Rows.Seen k16) (@W.openSeen @h_view_39 [] k24 (fun (x2:@Shared)=>(@Bool.and (@W.xlAt @h_view_39 k29 x2) (@W.recOk (@W.RowW.records k4) x2))) @Bool.true (k3 x0 x1)) (@W.openGood @h_view_39 [])))):=(fun x0=>(fun x1=>(@W.looks_pair @PyProof.Rows.Seen k16 (@PyProof.Rows.seen (@List.map @DefRec @Str (fun (x2:@DefRec)=>(@DefRec.name x2)) (@PyProof.Rows.recsOf @h_view_39)) (@PyProof.Rows.ownsOf @h_view_39) [] (@Shared.mk (@Shared.heap (k3 x0 x1)) #[] (@Shared.drawn (k3 x0 x1)) (@Shared.toks (k3 x0 x1)) (@Shared.os (k3 x0 x1)))) (@PyProof.Rows.expectedOf @h_view_39) ((@Heap.bltView (@Shared.heap (k3 x0 x1))),((@Bool.and (@Bool.and (@Bool.and (@Bool.and (@Bool.and (@Bool.and (@Heap.keysOk (@Shared.heap (k3 x0 x1)) (@W.looseW @h_view_39 []) (@List.map @DefRec @Str (fun (x2:@DefRec)=>(@DefRec.name x2)) (@PyProof.Rows.recsOf @h_view_39)) (@List.map (@Prod @Str @PyData) @Str (fun (x2:(@Prod @Str @PyData))=>(@Prod.fst @Str @PyData x2)) (@PyProof.Rows.litsOf @h_view_39)) (@List.map @ClsRec @Str (fun (x2:@ClsRec)=>(@ClsRec.name x2)) k75)) (k85 x0 x1)) (k87 x0 x1)) (k88 x0 x1)) (k82 x0 x1)) ((fun (x2:@Shared)=>(@Bool.and (@W.xlAt @h_view_39 k29 x2) (@W.recOk (@W.RowW.records k4) x2))) (k3 x0 x1))) (k12 x0 x1)),((k83 x0 x1),((k25 x0 x1),((k18 x0 x1),((k26 x0 x1),((k30 x0 x1),(k28 x0 x1)))))))) (@bltViewBooted,(@Bool.true,k13)) ((fun x2=>(fun x3=>(congrFun (My.pf_811 x2) x3))) x0 x1) (@My.pf_834 x0 x1))))
theorem My.pf_838:((x0:World)→((x1:OsState)→(@Eq (@Prod (@Prod @PyProof.Rows.Seen k16) (@W.Hook.α kh0)) ((@W.openSeen @h_view_39 [] k24 (fun (x2:@Shared)=>(@Bool.and (@W.xlAt @h_view_39 k29 x2) (@W.recOk (@W.RowW.records k4) x2))) @Bool.true (k3 x0 x1)),(@W.Hook.obs kh0 (k3 x0 x1))) ((@W.openGood @h_view_39 []),(@W.Hook.val kh0 x0))))):=(fun x0=>(fun x1=>(@W.looks_pair (@Prod @PyProof.Rows.Seen k16) (@W.Hook.α kh0) (@W.openSeen @h_view_39 [] k24 (fun (x2:@Shared)=>(@Bool.and (@W.xlAt @h_view_39 k29 x2) (@W.recOk (@W.RowW.records k4) x2))) @Bool.true (k3 x0 x1)) (@W.openGood @h_view_39 []) (@W.Hook.obs kh0 (k3 x0 x1)) (@W.Hook.val kh0 x0) (@My.pf_835 x0 x1) ((fun x2=>(fun x3=>(congrFun (My.pf_837 x2) x3))) x0 x1))))
theorem My.pf_809:((x0:World)→(@Eq ((x1:OsState)→@Bool) (fun x1=>(k15 x0 x1)) (fun x1=>@Bool.true))):=by intros; kernel_rfl
theorem My.pf_839:((x0:World)→((x1:OsState)→(@Eq (@Prod @Bool (@Prod (@Prod @PyProof.Rows.Seen k16) (@W.Hook.α kh0))) ((k15 x0 x1),((@W.openSeen @h_view_39 [] k24 (fun (x2:@Shared)=>(@Bool.and (@W.xlAt @h_view_39 k29 x2) (@W.recOk (@W.RowW.records k4) x2))) @Bool.true (k3 x0 x1)),(@W.Hook.obs kh0 (k3 x0 x1)))) (@Bool.true,((@W.openGood @h_view_39 []),(@W.Hook.val kh0 x0)))))):=(fun x0=>(fun x1=>(@W.looks_pair @Bool (@Prod (@Prod @PyProof.Rows.Seen k16) (@W.Hook.α kh0)) (k15 x0 x1) @Bool.true ((@W.openSeen @h_view_39 [] k24 (fun (x2:@Shared)=>(@Bool.and (@W.xlAt @h_view_39 k29 x2) (@W.recOk (@W.RowW.records k4) x2))) @Bool.true (k3 x0 x1)),(@W.Hook.obs kh0 (k3 x0 x1))) ((@W.openGood @h_view_39 []),(@W.Hook.val kh0 x0)) ((fun x2=>(fun x3=>(congrFun (My.pf_809 x2) x3))) x0 x1) (@My.pf_838 x0 x1))))
theorem My.pf_804:((x0:World)→(@Eq ((x1:OsState)→(@Option @Shared)) (fun x1=>(@W.topRun @treeTable (k4).1 x0 11 v_ 2 (@W.SharedT.abs (k86 x0 x1)) (@Thread.mk (@W.doneF @Flow.next) k1 (P_ 363 0 391 34) [(@W.topFrame (P_ 0 0 0 0))]))) (fun x1=>(@some @Shared (k3 x0 x1))))):=by intros; kernel_rfl
theorem My.pf_802:((x0:World)→(@Eq ((x1:OsState)→(@Option k7)) (fun x1=>(@W.segRunT @treeTable (k4).1 x0 11 v_ 1 102 (k57 x0 x1) k32)) (fun x1=>(@some k7 (@Flow.next,((k86 x0 x1),(k1,(P_ 363 0 391 34)))))))):=by intros; kernel_rfl
theorem My.pf_781:((x0:World)→(@Eq ((x1:OsState)→(@Option k7)) (fun x1=>(@W.segRunT @treeTable (k4).1 x0 11 v_ 1 392 (k58 x0 x1) k37)) (fun x1=>(@some k7 (@Flow.next,((k57 x0 x1),(k1,(P_ 336 0 343 70)))))))):=by intros; kernel_rfl
theorem My.pf_695:((x0:World)→(@Eq ((x1:OsState)→(@Option k7)) (fun x1=>(@W.segRunT @treeTable (k4).1 x0 11 v_ 1 382 (k59 x0 x1) k33)) (fun x1=>(@some k7 (@Flow.next,((k58 x0 x1),(k1,(P_ 245 0 245 8)))))))):=by intros; kernel_rfl
theorem My.pf_616:((x0:World)→(@Eq ((x1:OsState)→(@Option k7)) (fun x1=>(@W.segRunT @treeTable (k4).1 x0 11 v_ 1 410 (k60 x0 x1) k34)) (fun x1=>(@some k7 (@Flow.next,((k59 x0 x1),(k1,(P_ 154 0 176 30)))))))):=by intros; kernel_rfl
theorem My.pf_559:((x0:World)→(@Eq ((x1:OsState)→(@Option k7)) (fun x1=>(@W.segRunT @treeTable (k4).1 x0 11 v_ 1 380 (k61 x0 x1) k35)) (fun x1=>(@some k7 (@Flow.next,((k60 x0 x1),(k1,(P_ 130 0 153 63)))))))):=by intros; kernel_rfl
theorem My.pf_509:((x0:World)→(@Eq ((x1:OsState)→(@Option k7)) (fun x1=>(@W.segRunT @treeTable (k4).1 x0 11 v_ 1 310 (k62 x0 x1) k36)) (fun x1=>(@some k7 (@Flow.next,((k61 x0 x1),(k1,(P_ 120 0 129 33)))))))):=by intros; kernel_rfl
theorem My.pf_473:((x0:World)→(@Eq ((x1:OsState)→(@Option k7)) (fun x1=>(@W.segRunT @treeTable (k4).1 x0 11 v_ 1 374 (k63 x0 x1) k38)) (fun x1=>(@some k7 (@Flow.next,((k62 x0 x1),(k1,(P_ 104 0 119 31)))))))):=by intros; kernel_rfl
theorem My.pf_423:((x0:World)→(@Eq ((x1:OsState)→(@Option k7)) (fun x1=>(@W.segRunT @treeTable (k4).1 x0 11 v_ 1 342 (k64 x0 x1) k39)) (fun x1=>(@some k7 (@Flow.next,((k63 x0 x1),(k1,(P_ 91 0 103 31)))))))):=by intros; kernel_rfl
theorem My.pf_380:((x0:World)→(@Eq ((x1:OsState)→(@Option k7)) (fun x1=>(@W.segRunT @treeTable (k4).1 x0 11 v_ 1 310 (k65 x0 x1) k40)) (fun x1=>(@some k7 (@Flow.next,((k64 x0 x1),(k1,(P_ 81 0 90 24)))))))):=by intros; kernel_rfl
theorem My.pf_344:((x0:World)→(@Eq ((x1:OsState)→(@Option k7)) (fun x1=>(@W.segRunT @treeTable (k4).1 x0 11 v_ 1 388 (k66 x0 x1) k41)) (fun x1=>(@some k7 (@Flow.next,((k65 x0 x1),(k1,(P_ 54 0 80 47)))))))):=by intros; kernel_rfl
theorem My.pf_286:((x0:World)→(@Eq ((x1:OsState)→(@Option k7)) (fun x1=>(@W.segRunT @treeTable (k4).1 x0 11 v_ 1 254 (k67 x0 x1) k42)) (fun x1=>(@some k7 (@Flow.next,((k66 x0 x1),(k1,(P_ 50 0 53 17)))))))):=by intros; kernel_rfl
theorem My.pf_264:((x0:World)→(@Eq ((x1:OsState)→(@Option k7)) (fun x1=>(@W.segRunT @treeTable (k4).1 x0 11 v_ 1 214 (k68 x0 x1) k43)) (fun x1=>(@some k7 (@Flow.next,((k67 x0 x1),(k1,(P_ 45 0 46 8)))))))):=by intros; kernel_rfl
theorem My.pf_249:((x0:World)→(@Eq ((x1:OsState)→(@Option k7)) (fun x1=>(@W.segRunT @treeTable (k4).1 x0 11 v_ 1 214 (k69 x0 x1) k44)) (fun x1=>(@some k7 (@Flow.next,((k68 x0 x1),(k1,(P_ 43 0 44 8)))))))):=by intros; kernel_rfl
theorem My.pf_234:((x0:World)→(@Eq ((x1:OsState)→(@Option k7)) (fun x1=>(@W.segRunT @treeTable (k4).1 x0 11 v_ 1 214 (k70 x0 x1) k45)) (fun x1=>(@some k7 (@Flow.next,((k69 x0 x1),(k1,(P_ 41 0 42 8)))))))):=by intros; kernel_rfl
theorem My.pf_219:((x0:World)→(@Eq ((x1:OsState)→(@Option k7)) (fun x1=>(@W.segRunT @treeTable (k4).1 x0 11 v_ 1 214 (k71 x0 x1) k46)) (fun x1=>(@some k7 (@Flow.next,((k70 x0 x1),(k1,(P_ 39 0 40 8)))))))):=by intros; kernel_rfl
theorem My.pf_204:((x0:World)→(@Eq ((x1:OsState)→(@Option k7)) (fun x1=>(@W.segRunT @treeTable (k4).1 x0 11 v_ 1 214 (k72 x0 x1) k47)) (fun x1=>(@some k7 (@Flow.next,((k71 x0 x1),(k1,(P_ 37 0 38 8)))))))):=by intros; kernel_rfl
theorem My.pf_189:((x0:World)→(@Eq ((x1:OsState)→(@Option k7)) (fun x1=>(@W.segRunT @treeTable (k4).1 x0 11 v_ 1 214 (k73 x0 x1) k48)) (fun x1=>(@some k7 (@Flow.next,((k72 x0 x1),(k1,(P_ 35 0 36 8)))))))):=by intros; kernel_rfl
theorem My.pf_174:((x0:World)→(@Eq ((x1:OsState)→(@Option k7)) (fun x1=>(@W.segRunT @treeTable (k4).1 x0 11 v_ 1 214 (k74 x0 x1) k49)) (fun x1=>(@some k7 (@Flow.next,((k73 x0 x1),(k1,(P_ 33 0 34 8)))))))):=by intros; kernel_rfl
theorem My.pf_159:((x0:World)→(@Eq ((x1:OsState)→(@Option k7)) (fun x1=>(@W.segRunT @treeTable (k4).1 x0 11 v_ 1 214 (k76 x0 x1) k50)) (fun x1=>(@some k7 (@Flow.next,((k74 x0 x1),(k1,(P_ 31 0 32 8)))))))):=by intros; kernel_rfl
theorem My.pf_144:((x0:World)→(@Eq ((x1:OsState)→(@Option k7)) (fun x1=>(@W.segRunT @treeTable (k4).1 x0 11 v_ 1 214 (k77 x0 x1) k51)) (fun x1=>(@some k7 (@Flow.next,((k76 x0 x1),(k1,(P_ 29 0 30 8)))))))):=by intros; kernel_rfl
theorem My.pf_129:((x0:World)→(@Eq ((x1:OsState)→(@Option k7)) (fun x1=>(@W.segRunT @treeTable (k4).1 x0 11 v_ 1 214 (k78 x0 x1) k52)) (fun x1=>(@some k7 (@Flow.next,((k77 x0 x1),(k1,(P_ 27 0 28 8)))))))):=by intros; kernel_rfl
theorem My.pf_114:((x0:World)→(@Eq ((x1:OsState)→(@Option k7)) (fun x1=>(@W.segRunT @treeTable (k4).1 x0 11 v_ 1 214 (k79 x0 x1) k54)) (fun x1=>(@some k7 (@Flow.next,((k78 x0 x1),(k1,(P_ 25 0 26 8)))))))):=by intros; kernel_rfl
theorem My.pf_99:((x0:World)→(@Eq ((x1:OsState)→(@Option k7)) (fun x1=>(@W.segRunT @treeTable (k4).1 x0 11 v_ 1 356 (k80 x0 x1) k55)) (fun x1=>(@some k7 (@Flow.next,((k79 x0 x1),(k1,(P_ 23 0 24 8)))))))):=by intros; kernel_rfl
theorem My.pf_49:((x0:World)→(@Eq ((x1:OsState)→(@Option k8)) (fun x1=>(@W.segRun @treeTable (k4).1 x0 11 v_ 1 1 (k81 x0 x1) (@W.blockOf (@W.behindTheImports (k4).1) @h_env_41 k1 (P_ 0 0 0 0) [(@W.topFrame (P_ 0 0 0 0))]))) (fun x1=>(@some k8 (@Flow.next,((@W.SharedT.abs (k80 x0 x1)),(k1,(P_ 0 0 0 0)))))))):=by intros; kernel_rfl
theorem My.pf_47:((x0:World)→(@Eq ((x1:OsState)→(@Option (@Prod @Shared @Thread))) (fun x1=>(@W.topGo @treeTable (k4).1 x0 11 v_ 12 (k89 x0 x1) (@W.topStub (k4).1))) (fun x1=>(@some (@Prod @Shared @Thread) ((k81 x0 x1),k90))))):=by intros; kernel_rfl
theorem My.pf_805:((x0:World)→((x1:OsState)→(@Eq (@Option @Shared) (@W.topRun @treeTable (k4).1 x0 11 v_ (@Nat.add 12 (@Nat.add 1 k17)) (k89 x0 x1) (@W.topStub (k4).1)) (@some @Shared (k3 x0 x1))))):=(fun x0=>(fun x1=>(@W.go_top @treeTable (k4).1 x0 11 v_ 12 (@Nat.add 1 k17) (k89 x0 x1) (k81 x0 x1) (k3 x0 x1) (@W.topStub (k4).1) k90 (congrFun (My.pf_47 x0) x1) (@W.piece_block @treeTable (k4).1 x0 11 v_ @h_env_41 (P_ 0 0 0 0) 1 k17 (k81 x0 x1) (@W.SharedT.abs (k80 x0 x1)) (k3 x0 x1) (@W.behindTheImports (k4).1) k1 (P_ 0 0 0 0) (P_ 0 0 0 0) (congrFun (My.pf_49 x0) x1) (@W.piece_app @treeTable (k4).1 x0 11 v_ @h_env_41 (P_ 0 0 0 0) 356 (@Nat.add 214 (@Nat.add 214 (@Nat.add 214 (@Nat.add 214 (@Nat.add 214 (@Nat.add 214 (@Nat.add 214 k9))))))) (@W.SharedT.abs (k80 x0 x1)) (@W.SharedT.abs (k79 x0 x1)) (k3 x0 x1) @h_sts_49 (@HAppend.hAppend (@List @Stmt) (@List @Stmt) (@List @Stmt) k5 @h_sts_99 (@HAppend.hAppend (@List @Stmt) (@List @Stmt) (@List @Stmt) k5 @h_sts_114 k21)) k1 (P_ 0 0 0 0) (P_ 23 0 24 8) (sg_ (congrFun (My.pf_99 x0) x1)) (@W.piece_app @treeTable (k4).1 x0 11 v_ @h_env_41 (P_ 0 0 0 0) 214 (@Nat.add 214 (@Nat.add 214 (@Nat.add 214 (@Nat.add 214 (@Nat.add 214 (@Nat.add 214 k9)))))) (@W.SharedT.abs (k79 x0 x1)) (@W.SharedT.abs (k78 x0 x1)) (k3 x0 x1) @h_sts_99 (@HAppend.hAppend (@List @Stmt) (@List @Stmt) (@List @Stmt) k5 @h_sts_114 k21) k1 (P_ 23 0 24 8) (P_ 25 0 26 8) (sg_ (congrFun (My.pf_114 x0) x1)) (@W.piece_app @treeTable (k4).1 x0 11 v_ @h_env_41 (P_ 0 0 0 0) 214 (@Nat.add 214 (@Nat.add 214 (@Nat.add 214 (@Nat.add 214 (@Nat.add 214 k9))))) (@W.SharedT.abs (k78 x0 x1)) (@W.SharedT.abs (k77 x0 x1)) (k3 x0 x1) @h_sts_114 k21 k1 (P_ 25 0 26 8) (P_ 27 0 28 8) (sg_ (congrFun (My.pf_129 x0) x1)) (@W.piece_app @treeTable (k4).1 x0 11 v_ @h_env_41 (P_ 0 0 0 0) 214 (@Nat.add 214 (@Nat.add 214 (@Nat.add 214 (@Nat.add 214 k9)))) (@W.SharedT.abs (k77 x0 x1)) (@W.SharedT.abs (k76 x0 x1)) (k3 x0 x1) @h_sts_129 (@HAppend.hAppend (@List @Stmt) (@List @Stmt) (@List @Stmt) k5 @h_sts_144 (@HAppend.hAppend (@List @Stmt) (@List @Stmt) (@List @Stmt) k5 @h_sts_159 k10)) k1 (P_ 27 0 28 8) (P_ 29 0 30 8) (sg_ (congrFun (My.pf_144 x0) x1)) (@W.piece_app @treeTable (k4).1 x0 11 v_ @h_env_41 (P_ 0 0 0 0) 214 (@Nat.add 214 (@Nat.add 214 (@Nat.add 214 k9))) (@W.SharedT.abs (k76 x0 x1)) (@W.SharedT.abs (k74 x0 x1)) (k3 x0 x1) @h_sts_144 (@HAppend.hAppend (@List @Stmt) (@List @Stmt) (@List @Stmt) k5 @h_sts_159 k10) k1 (P_ 29 0 30 8) (P_ 31 0 32 8) (sg_ (congrFun (My.pf_159 x0) x1)) (@W.piece_app @treeTable (k4).1 x0 11 v_ @h_env_41 (P_ 0 0 0 0) 214 (@Nat.add 214 (@Nat.add 214 k9)) (@W.SharedT.abs (k74 x0 x1)) (@W.SharedT.abs (k73 x0 x1)) (k3 x0 x1) @h_sts_159 k10 k1 (P_ 31 0 32 8) (P_ 33 0 34 8) (sg_ (congrFun (My.pf_174 x0) x1)) (@W.piece_app @treeTable (k4).1 x0 11 v_ @h_env_41 (P_ 0 0 0 0) 214 (@Nat.add 214 k9) (@W.SharedT.abs (k73 x0 x1)) (@W.SharedT.abs (k72 x0 x1)) (k3 x0 x1) @h_sts_174 (@HAppend.hAppend (@List @Stmt) (@List @Stmt) (@List @Stmt) k5 @h_sts_189 (@HAppend.hAppend (@List @Stmt) (@List @Stmt) (@List @Stmt) k5 @h_sts_204 k23)) k1 (P_ 33 0 34 8) (P_ 35 0 36 8) (sg_ (congrFun (My.pf_189 x0) x1)) (@W.piece_app @treeTable (k4).1 x0 11 v_ @h_env_41 (P_ 0 0 0 0) 214 k9 (@W.SharedT.abs (k72 x0 x1)) (@W.SharedT.abs (k71 x0 x1)) (k3 x0 x1) @h_sts_189 (@HAppend.hAppend (@List @Stmt) (@List @Stmt) (@List @Stmt) k5 @h_sts_204 k23) k1 (P_ 35 0 36 8) (P_ 37 0 38 8) (sg_ (congrFun (My.pf_204 x0) x1)) (@W.piece_app @treeTable (k4).1 x0 11 v_ @h_env_41 (P_ 0 0 0 0) 214 (@Nat.add 214 (@Nat.add 214 (@Nat.add 214 (@Nat.add 254 (@Nat.add 388 (@Nat.add 310 (@Nat.add 342 k20))))))) (@W.SharedT.abs (k71 x0 x1)) (@W.SharedT.abs (k70 x0 x1)) (k3 x0 x1) @h_sts_204 k23 k1 (P_ 37 0 38 8) (P_ 39 0 40 8) (sg_ (congrFun (My.pf_219 x0) x1)) (@W.piece_app @treeTable (k4).1 x0 11 v_ @h_env_41 (P_ 0 0 0 0) 214 (@Nat.add 214 (@Nat.add 214 (@Nat.add 254 (@Nat.add 388 (@Nat.add 310 (@Nat.add 342 k20)))))) (@W.SharedT.abs (k70 x0 x1)) (@W.SharedT.abs (k69 x0 x1)) (k3 x0 x1) @h_sts_219 (@HAppend.hAppend (@List @Stmt) (@List @Stmt) (@List @Stmt) k5 @h_sts_234 (@HAppend.hAppend (@List @Stmt) (@List @Stmt) (@List @Stmt) k5 @h_sts_249 k2)) k1 (P_ 39 0 40 8) (P_ 41 0 42 8) (sg_ (congrFun (My.pf_234 x0) x1)) (@W.piece_app @treeTable (k4).1 x0 11 v_ @h_env_41 (P_ 0 0 0 0) 214 (@Nat.add 214 (@Nat.add 254 (@Nat.add 388 (@Nat.add 310 (@Nat.add 342 k20))))) (@W.SharedT.abs (k69 x0 x1)) (@W.SharedT.abs (k68 x0 x1)) (k3 x0 x1) @h_sts_234 (@HAppend.hAppend (@List @Stmt) (@List @Stmt) (@List @Stmt) k5 @h_sts_249 k2) k1 (P_ 41 0 42 8) (P_ 43 0 44 8) (sg_ (congrFun (My.pf_249 x0) x1)) (@W.piece_app @treeTable (k4).1 x0 11 v_ @h_env_41 (P_ 0 0 0 0) 214 (@Nat.add 254 (@Nat.add 388 (@Nat.add 310 (@Nat.add 342 k20)))) (@W.SharedT.abs (k68 x0 x1)) (@W.SharedT.abs (k67 x0 x1)) (k3 x0 x1) @h_sts_249 k2 k1 (P_ 43 0 44 8) (P_ 45 0 46 8) (sg_ (congrFun (My.pf_264 x0) x1)) (@W.piece_app @treeTable (k4).1 x0 11 v_ @h_env_41 (P_ 0 0 0 0) 254 (@Nat.add 388 (@Nat.add 310 (@Nat.add 342 k20))) (@W.SharedT.abs (k67 x0 x1)) (@W.SharedT.abs (k66 x0 x1)) (k3 x0 x1) @h_sts_264 (@HAppend.hAppend (@List @Stmt) (@List @Stmt) (@List @Stmt) k5 @h_sts_286 (@HAppend.hAppend (@List @Stmt) (@List @Stmt) (@List @Stmt) k5 @h_sts_344 k22)) k1 (P_ 45 0 46 8) (P_ 50 0 53 17) (sg_ (congrFun (My.pf_286 x0) x1)) (@W.piece_app @treeTable (k4).1 x0 11 v_ @h_env_41 (P_ 0 0 0 0) 388 (@Nat.add 310 (@Nat.add 342 k20)) (@W.SharedT.abs (k66 x0 x1)) (@W.SharedT.abs (k65 x0 x1)) (k3 x0 x1) @h_sts_286 (@HAppend.hAppend (@List @Stmt) (@List @Stmt) (@List @Stmt) k5 @h_sts_344 k22) k1 (P_ 50 0 53 17) (P_ 54 0 80 47) (sg_ (congrFun (My.pf_344 x0) x1)) (@W.piece_app @treeTable (k4).1 x0 11 v_ @h_env_41 (P_ 0 0 0 0) 310 (@Nat.add 342 k20) (@W.SharedT.abs (k65 x0 x1)) (@W.SharedT.abs (k64 x0 x1)) (k3 x0 x1) @h_sts_344 k22 k1 (P_ 54 0 80 47) (P_ 81 0 90 24) (sg_ (congrFun (My.pf_380 x0) x1)) (@W.piece_app @treeTable (k4).1 x0 11 v_ @h_env_41 (P_ 0 0 0 0) 342 k20 (@W.SharedT.abs (k64 x0 x1)) (@W.SharedT.abs (k63 x0 x1)) (k3 x0 x1) @h_sts_380 (@HAppend.hAppend (@List @Stmt) (@List @Stmt) (@List @Stmt) k5 @h_sts_423 (@HAppend.hAppend (@List @Stmt) (@List @Stmt) (@List @Stmt) k5 @h_sts_473 k11)) k1 (P_ 81 0 90 24) (P_ 91 0 103 31) (sg_ (congrFun (My.pf_423 x0) x1)) (@W.piece_app @treeTable (k4).1 x0 11 v_ @h_env_41 (P_ 0 0 0 0) 374 (@Nat.add 310 (@Nat.add 380 (@Nat.add 410 (@Nat.add 382 (@Nat.add 392 (@Nat.add 102 2)))))) (@W.SharedT.abs (k63 x0 x1)) (@W.SharedT.abs (k62 x0 x1)) (k3 x0 x1) @h_sts_423 (@HAppend.hAppend (@List @Stmt) (@List @Stmt) (@List @Stmt) k5 @h_sts_473 k11) k1 (P_ 91 0 103 31) (P_ 104 0 119 31) (sg_ (congrFun (My.pf_473 x0) x1)) (@W.piece_app @treeTable (k4).1 x0 11 v_ @h_env_41 (P_ 0 0 0 0) 310 (@Nat.add 380 (@Nat.add 410 (@Nat.add 382 (@Nat.add 392 (@Nat.add 102 2))))) (@W.SharedT.abs (k62 x0 x1)) (@W.SharedT.abs (k61 x0 x1)) (k3 x0 x1) @h_sts_473 k11 k1 (P_ 104 0 119 31) (P_ 120 0 129 33) (sg_ (congrFun (My.pf_509 x0) x1)) (@W.piece_app @treeTable (k4).1 x0 11 v_ @h_env_41 (P_ 0 0 0 0) 380 (@Nat.add 410 (@Nat.add 382 (@Nat.add 392 (@Nat.add 102 2)))) (@W.SharedT.abs (k61 x0 x1)) (@W.SharedT.abs (k60 x0 x1)) (k3 x0 x1) @h_sts_509 (@HAppend.hAppend (@List @Stmt) (@List @Stmt) (@List @Stmt) k5 @h_sts_559 (@HAppend.hAppend (@List @Stmt) (@List @Stmt) (@List @Stmt) k5 @h_sts_616 k31)) k1 (P_ 120 0 129 33) (P_ 130 0 153 63) (sg_ (congrFun (My.pf_559 x0) x1)) (@W.piece_app @treeTable (k4).1 x0 11 v_ @h_env_41 (P_ 0 0 0 0) 410 (@Nat.add 382 (@Nat.add 392 (@Nat.add 102 2))) (@W.SharedT.abs (k60 x0 x1)) (@W.SharedT.abs (k59 x0 x1)) (k3 x0 x1) @h_sts_559 (@HAppend.hAppend (@List @Stmt) (@List @Stmt) (@List @Stmt) k5 @h_sts_616 k31) k1 (P_ 130 0 153 63) (P_ 154 0 176 30) (sg_ (congrFun (My.pf_616 x0) x1)) (@W.piece_app @treeTable (k4).1 x0 11 v_ @h_env_41 (P_ 0 0 0 0) 382 (@Nat.add 392 (@Nat.add 102 2)) (@W.SharedT.abs (k59 x0 x1)) (@W.SharedT.abs (k58 x0 x1)) (k3 x0 x1) @h_sts_616 k31 k1 (P_ 154 0 176 30) (P_ 245 0 245 8) (sg_ (congrFun (My.pf_695 x0) x1)) (@W.piece_app @treeTable (k4).1 x0 11 v_ @h_env_41 (P_ 0 0 0 0) 392 (@Nat.add 102 2) (@W.SharedT.abs (k58 x0 x1)) (@W.SharedT.abs (k57 x0 x1)) (k3 x0 x1) @h_sts_695 (@HAppend.hAppend (@List @Stmt) (@List @Stmt) (@List @Stmt) k5 @h_sts_781 []) k1 (P_ 245 0 245 8) (P_ 336 0 343 70) (sg_ (congrFun (My.pf_781 x0) x1)) (@W.piece_app @treeTable (k4).1 x0 11 v_ @h_env_41 (P_ 0 0 0 0) 102 2 (@W.SharedT.abs (k57 x0 x1)) (@W.SharedT.abs (k86 x0 x1)) (k3 x0 x1) @h_sts_781 [] k1 (P_ 336 0 343 70) (P_ 363 0 391 34) (sg_ (congrFun (My.pf_802 x0) x1)) (congrFun (My.pf_804 x0) x1))))))))))))))))))))))))))))
theorem My.pf_807:((x0:World)→(@Eq (@Prod @Bool (@Prod @Nat (@Option @Value))) ((@Bool.and (@Heap.isNs (@W.boot_heap x0.params) @mainGlobals) (@BEq.beq @Nat (@instBEqOfDecidableEq @Nat @instDecidableEqNat) (@Array.size @GenState g_) 0)),((@Array.size @Obj (@Heap.objs (@W.boot_heap x0.params))),(@Heap.nsMap (@W.boot_heap x0.params) @mainGlobals (.ofString "__annotations__")))) (@Bool.true,(11,v_)))):=by intros; kernel_rfl
theorem My.pf_43:((x0:@Shared)→(@Eq (@Option @Shared) (@fenceModules? (k4).1 x0) (@some @Shared x0))):=by intros; kernel_rfl
theorem My.pf_42:(@Eq @Program (@W.opening (k4).1) (@W.plainProg (@Scope.names (@Module.scope (@Program.main (k4).1))))):=by intros; kernel_rfl
theorem My.left:(@W.LeftO (k4).1 @h_view_39 [] (fun (x0:@Shared)=>(@Bool.and (@W.xlAt @h_view_39 k29 x0) (@W.recOk (@W.RowW.records k4) x0))) (@W.Hook.α kh0) (@W.Hook.obs kh0) (@W.Hook.val kh0) 12788 @Bool.true):=(@W.LeftO.of_pieces (k4).1 @h_view_39 [] (fun (x0:@Shared)=>(@Bool.and (@W.xlAt @h_view_39 k29 x0) (@W.recOk (@W.RowW.records k4) x0))) (@W.Hook.α kh0) (@W.Hook.obs kh0) (@W.Hook.val kh0) 12788 @Bool.true @W.boot_heap @h_heap_802 g_ g_ @W.boot_drawn d_ @W.boot_toks 1115 11 v_ (@Nat.add 12 (@Nat.add 1 k17)) (@W.boot_open (k4).1 12788 @My.pf_42 (@of_decide_eq_true (@Eq @Bool (@Nat.ble 600 12788) @Bool.true) (@instDecidableEqBool (@Nat.ble 600 12788) @Bool.true) (@id (@Eq @Bool (@Decidable.decide (@Eq @Bool (@Nat.ble 600 12788) @Bool.true) (@instDecidableEqBool (@Nat.ble 600 12788) @Bool.true)) @Bool.true) (@Eq.refl @Bool @Bool.true))) @My.pf_43) @My.pf_807 @My.pf_805 (@of_decide_eq_true (@Eq @Bool (@Nat.ble (@Nat.add 12 (@Nat.add 1 k17)) 12788) @Bool.true) (@instDecidableEqBool (@Nat.ble (@Nat.add 12 (@Nat.add 1 k17)) 12788) @Bool.true) (@id (@Eq @Bool (@Decidable.decide (@Eq @Bool (@Nat.ble (@Nat.add 12 (@Nat.add 1 k17)) 12788) @Bool.true) (@instDecidableEqBool (@Nat.ble (@Nat.add 12 (@Nat.add 1 k17)) 12788) @Bool.true)) @Bool.true) (@Eq.refl @Bool @Bool.true))) (fun x0=>(@funext @OsState (fun x1=>(@Prod @Bool (@Prod (@Prod @PyProof.Rows.Seen k16) (@W.Hook.α kh0)))) (fun x1=>((k15 x0 x1),((@W.openSeen @h_view_39 [] k24 (fun (x2:@Shared)=>(@Bool.and (@W.xlAt @h_view_39 k29 x2) (@W.recOk (@W.RowW.records k4) x2))) @Bool.true (k3 x0 x1)),(@W.Hook.obs kh0 (k3 x0 x1))))) (fun x1=>(@Bool.true,((@W.openGood @h_view_39 []),(@W.Hook.val kh0 x0)))) (fun x1=>(@My.pf_839 x0 x1)))))
end
theorem My.myE:∀ P,My.myAs=(My.h_heap_39 P).map (·.1):=fun _=>by kernel_rfl
set_option maxRecDepth 100000
set_option maxHeartbeats 4000000
namespace OD
open PySem PySem.Spec PyProof.Rows L2
abbrev St:=L2.St
noncomputable def Zx (X:Cx):Hp:=if X.stack.length=X.outer.length∨X.fn ""=false then (fun _=>none) else X.H₀
theorem n9 {CX:CXT} {P:Program} {w:World} {K:PySem.W.Frag} {mg:Str→Option Value} {base:Heap} {N:List Str} {qual:Str} {scope:Scope} {f:Addr} {cd:Value} {A:Around} {outer:List Env} {s:Shared} {H:Hp} {E:XK}:Zx (yu CX P w K mg base N qual scope f cd A outer s H E)=H:=if_neg (fun z=>z.elim (Nat.succ_ne_self _) (fun z=>Bool.noConfusion z))
theorem uL {X:Cx} (h:X.stack.length ≠ X.outer.length) (hf:X.fn ""=true:=by rfl):Zx X=X.H₀:=if_neg (fun z=>z.elim h (fun z=>by rw [hf] at z; cases z))
variable {Z:Hp}
inductive Dt where
 | non | bl (b:Bool) | int (i:Int) | str (x:Str) | tup (ds:List Dt) | lst (ds:List Dt) | scr (ns:List Int) | way (C:Addr) (f:Str) (n:Int) | exc (C:Addr)
def excAt (a C:Addr):Heap→Prop:=fun h=>∃ o,h.get? a=some o∧o.cls=.ref C
mutual
def Is (K:PySem.W.Frag) (H:Hp):Dt→V→Prop
 | .non,v=>v=.non
 | .bl b,v=>v=.bl b
 | .int i,v=>v=.int i
 | .str x,v=>v=.str x
 | .tup ds,v=>∃ a xs,v=.ref a∧H a=some (.tup xs)∧AllIs K H ds xs
 | .lst ds,v=>∃ a xs,v=.ref a∧H a=some (.lst xs)∧AllIs K H ds xs
 | .scr ns,v=>∃ a,v=.ref a∧SqL K H a (ns.map V.int)
 | .way C f n,v=>∃ a dx,v=.ref a∧H a=some (.ins C dx [(f,.int n)])
 | .exc C,v=>∃ a,v=.ref a∧H a=some (.ext (excAt a C))
def AllIs (K:PySem.W.Frag) (H:Hp):List Dt→List V→Prop
 | [],xs=>xs=[]
 | d :: ds,xs=>∃ x r,xs=x :: r∧Is K H d x∧AllIs K H ds r
end
variable {K:PySem.W.Frag} {H H' H1 H2:Hp}
theorem is_non {v:V}:Is K H .non v ↔ v=.non:=by unfold Is; exact Iff.rfl
theorem is_bl {b:Bool} {v:V}:Is K H (.bl b) v ↔ v=.bl b:=by unfold Is; exact Iff.rfl
theorem is_int {i:Int} {v:V}:Is K H (.int i) v ↔ v=.int i:=by unfold Is; exact Iff.rfl
theorem is_str {x:Str} {v:V}:Is K H (.str x) v ↔ v=.str x:=by unfold Is; exact Iff.rfl
theorem is_tup {ds:List Dt} {v:V}:Is K H (.tup ds) v ↔ ∃ a xs,v=.ref a∧H a=some (.tup xs)∧AllIs K H ds xs:=by
 constructor
 ·intro h; unfold Is at h; exact h
 ·intro h; unfold Is; exact h
theorem is_lst {ds:List Dt} {v:V}:Is K H (.lst ds) v ↔ ∃ a xs,v=.ref a∧H a=some (.lst xs)∧AllIs K H ds xs:=by
 constructor
 ·intro h; unfold Is at h; exact h
 ·intro h; unfold Is; exact h
theorem is_scr {ns:List Int} {v:V}:Is K H (.scr ns) v ↔ ∃ a,v=.ref a∧SqL K H a (ns.map V.int):=by
 constructor
 ·intro h; unfold Is at h; exact h
 ·intro h; unfold Is; exact h
theorem is_way {C:Addr} {f:Str} {n:Int} {v:V}:Is K H (.way C f n) v ↔ ∃ a dx,v=.ref a∧H a=some (.ins C dx [(f,.int n)]):=by
 constructor
 ·intro h; unfold Is at h; exact h
 ·intro h; unfold Is; exact h
theorem is_exc {C:Addr} {v:V}:Is K H (.exc C) v ↔ ∃ a,v=.ref a∧H a=some (.ext (excAt a C)):=by
 constructor
 ·intro h; unfold Is at h; exact h
 ·intro h; unfold Is; exact h
theorem allIs_nil {xs:List V}:AllIs K H [] xs ↔ xs=[]:=by unfold AllIs; exact Iff.rfl
theorem allIs_cons {d:Dt} {ds:List Dt} {xs:List V}:AllIs K H (d :: ds) xs ↔ ∃ x r,xs=x :: r∧Is K H d x∧AllIs K H ds r:=by
 constructor
 ·intro h; unfold AllIs at h; exact h
 ·intro h; unfold AllIs; exact h
mutual
theorem Is.mono0 (s:Same H H'):∀ {d:Dt} {v:V},Is K H d v→Is K H' d v
 | .non,_,h=>is_non.mpr (is_non.mp h)
 | .bl _,_,h=>is_bl.mpr (is_bl.mp h)
 | .int _,_,h=>is_int.mpr (is_int.mp h)
 | .str _,_,h=>is_str.mpr (is_str.mp h)
 | .tup ds,_,h=>by
  obtain ⟨a,xs,e,h1,h2⟩:=is_tup.mp h
  exact is_tup.mpr ⟨a,xs,e,s _ _ h1,AllIs.mono0 s h2⟩
 | .lst ds,_,h=>by
  obtain ⟨a,xs,e,h1,h2⟩:=is_lst.mp h
  exact is_lst.mpr ⟨a,xs,e,s _ _ h1,AllIs.mono0 s h2⟩
 | .scr ns,_,h=>by
  obtain ⟨a,e,h1⟩:=is_scr.mp h
  exact is_scr.mpr ⟨a,e,s.seq h1⟩
 | .way C f n,_,h=>by
  obtain ⟨a,dx,e,h1⟩:=is_way.mp h
  exact is_way.mpr ⟨a,dx,e,s _ _ h1⟩
 | .exc C,_,h=>by
  obtain ⟨a,e,h1⟩:=is_exc.mp h
  exact is_exc.mpr ⟨a,e,s _ _ h1⟩
theorem AllIs.mono0 (s:Same H H'):∀ {ds:List Dt} {xs:List V},AllIs K H ds xs→AllIs K H' ds xs
 | [],_,h=>allIs_nil.mpr (allIs_nil.mp h)
 | d :: ds,_,h=>by
  obtain ⟨x,r,e,h1,h2⟩:=allIs_cons.mp h
  exact allIs_cons.mpr ⟨x,r,e,Is.mono0 s h1,AllIs.mono0 s h2⟩
end
theorem AllIs.length:∀ {ds:List Dt} {xs:List V},AllIs K H ds xs→ds.length=xs.length
 | [],_,h=>by rw [allIs_nil.mp h]; rfl
 | d :: ds,_,h=>by
  obtain ⟨x,r,rfl,_,h2⟩:=allIs_cons.mp h
  rw [List.length_cons,List.length_cons,AllIs.length h2]
theorem AllIs.get:∀ {ds:List Dt} {xs:List V} {i:Nat} {d:Dt},AllIs K H ds xs→ds[i]? = some d→∃ v,xs[i]? = some v∧Is K H d v
 | [],_,_,_,_,e=>by simp at e
 | d :: ds,_,0,d',h,e=>by
  obtain ⟨x,r,rfl,h1,h2⟩:=allIs_cons.mp h
  simp at e; subst e
  exact ⟨x,rfl,h1⟩
 | d :: ds,_,i + 1,d',h,e=>by
  obtain ⟨x,r,rfl,h1,h2⟩:=allIs_cons.mp h
  obtain ⟨v,e1,e2⟩:=AllIs.get (i:=i) h2 (by simpa using e)
  exact ⟨v,by simpa using e1,e2⟩
theorem AllIs.get':∀ {ds:List Dt} {xs:List V} {i:Nat} {v:V},AllIs K H ds xs→xs[i]? = some v→∃ d,ds[i]? = some d∧Is K H d v
 | [],_,_,_,h,e=>by rw [allIs_nil.mp h] at e; simp at e
 | d :: ds,_,0,v,h,e=>by
  obtain ⟨x,r,rfl,h1,h2⟩:=allIs_cons.mp h
  simp at e; subst e
  exact ⟨d,rfl,h1⟩
 | d :: ds,_,i + 1,v,h,e=>by
  obtain ⟨x,r,rfl,h1,h2⟩:=allIs_cons.mp h
  obtain ⟨v,e1,e2⟩:=AllIs.get' (i:=i) h2 (by simpa using e)
  exact ⟨v,by simpa using e1,e2⟩
theorem AllIs.append:∀ {ds es:List Dt} {xs ys:List V},AllIs K H ds xs→AllIs K H es ys→AllIs K H (ds ++ es) (xs ++ ys)
 | [],_,_,_,h,h'=>by rw [allIs_nil.mp h]; exact h'
 | d :: ds,_,_,_,h,h'=>by
  obtain ⟨x,r,rfl,h1,h2⟩:=allIs_cons.mp h
  exact allIs_cons.mpr ⟨x,_,rfl,h1,AllIs.append h2 h'⟩
theorem AllIs.drop:∀ {ds:List Dt} {xs:List V} (n:Nat),AllIs K H ds xs→AllIs K H (ds.drop n) (xs.drop n)
 | _,_,0,h=>h
 | [],_,n + 1,h=>by rw [allIs_nil.mp h]; exact allIs_nil.mpr rfl
 | d :: ds,_,n + 1,h=>by
  obtain ⟨x,r,rfl,h1,h2⟩:=allIs_cons.mp h
  exact AllIs.drop n h2
theorem AllIs.take:∀ {ds:List Dt} {xs:List V} (n:Nat),AllIs K H ds xs→AllIs K H (ds.take n) (xs.take n)
 | _,_,0,_=>allIs_nil.mpr rfl
 | [],_,n + 1,h=>by rw [allIs_nil.mp h]; exact allIs_nil.mpr rfl
 | d :: ds,_,n + 1,h=>by
  obtain ⟨x,r,rfl,h1,h2⟩:=allIs_cons.mp h
  exact allIs_cons.mpr ⟨x,_,rfl,h1,AllIs.take n h2⟩
theorem AllIs.ints:∀ {ns:List Int},AllIs K H (ns.map Dt.int) (ns.map V.int)
 | []=>allIs_nil.mpr rfl
 | n :: ns=>allIs_cons.mpr ⟨.int n,_,rfl,is_int.mpr rfl,AllIs.ints⟩
theorem AllIs.atI {ds:List Dt} {xs:List V} {i:Int} {d:Dt} (h:AllIs K H ds xs) (e:L2.atI ds i=some d):∃ v,L2.atI xs i=some v∧Is K H d v:=by
 unfold L2.atI at e ⊢
 rw [← h.length]
 cases q:ixN ds.length i with
 | none=>rw [q] at e; cases e
 | some j=>
  rw [q] at e
  exact h.get e
theorem AllIs.one {d:Dt} {xs:List V} (h:AllIs K H [d] xs):∃ v,xs=[v]∧Is K H d v:=by
 obtain ⟨x,r,rfl,h1,h2⟩:=allIs_cons.mp h
 rw [allIs_nil.mp h2]
 exact ⟨x,rfl,h1⟩
theorem AllIs.two {d e:Dt} {xs:List V} (h:AllIs K H [d,e] xs):∃ v u,xs=[v,u]∧Is K H d v∧Is K H e u:=by
 obtain ⟨x,r,rfl,h1,h2⟩:=allIs_cons.mp h
 obtain ⟨u,rfl,h3⟩:=h2.one
 exact ⟨x,u,rfl,h1,h3⟩
theorem zF {p:Addr} (h:H p=none) (o:HO):Same H (upd H p o):=fun b u q=>by rw [zr (zO q h)]; exact q
structure Vw where
 g:Hp
 h:Hp
 sub:Same g h
structure Le (W W':Vw):Prop where
 g:Same W.g W'.g
 h:Same W.h W'.h
 n:∀ a,W.h a ≠ none→W.g a=none→W'.g a=none
theorem Le.refl (W:Vw):Le W W:=⟨Same.refl _,Same.refl _,fun _ _ h=>h⟩
theorem Le.trans {W W1 W2:Vw} (a:Le W W1) (b:Le W1 W2):Le W W2:=
 ⟨a.g.trans b.g,a.h.trans b.h,fun c h1 h2=>b.n c (fun z=>h1 (a.h.free z)) (a.n c h1 h2)⟩
theorem Is.mono {W W':Vw} {d:Dt} {v:V} (h:Is K W.g d v) (s:Le W W'):Is K W'.g d v:=Is.mono0 s.g h
theorem AllIs.mono {W W':Vw} {d:List Dt} {v:List V} (h:AllIs K W.g d v) (s:Le W W'):AllIs K W'.g d v:=AllIs.mono0 s.g h
def Vw.new (W:Vw) (p:Addr) (o:HO):Vw:=⟨upd W.g p o,upd W.h p o,fun b u q=>by
 by_cases e:b=p
 ·subst e; rw [zu] at q ⊢; exact q
 ·rw [zr e] at q ⊢; exact W.sub _ _ q⟩
theorem x6 {W:Vw} {p:Addr} (hp:W.h p=none) (o:HO):Le W (W.new p o):=
 ⟨zF (W.sub.free hp) o,zF hp o,fun a h1 h2=>by
  have:a ≠ p:=fun e=>h1 (e ▸ hp)
  show upd W.g p o a=none
  rw [zr this]; exact h2⟩
def Vw.mine (W:Vw) (p:Addr) (o:HO) (hp:W.g p=none):Vw:=⟨W.g,upd W.h p o,fun b u q=>by
 have:b ≠ p:=fun e=>by rw [e,hp] at q; cases q
 rw [zr this]; exact W.sub _ _ q⟩
theorem rM {W:Vw} {p:Addr} (hp:W.h p=none) (o:HO):Le W (W.mine p o (W.sub.free hp)):=
 ⟨Same.refl _,zF hp o,fun _ _ h=>h⟩
def Vw.frz (W:Vw) (p:Addr) (o:HO) (hp:W.h p=some o):Vw:=⟨upd W.g p o,W.h,fun b u q=>by
 by_cases e:b=p
 ·subst e; rw [zu] at q; rw [hp]; exact q
 ·rw [zr e] at q; exact W.sub _ _ q⟩
inductive Sl where | none | some (d:Dt) | own (ds:List Dt) | arg (a:Addr) (ds:List Dt)
abbrev DS:=List Sl
structure Rl (K:PySem.W.Frag) (Z F:Hp) (W:Vw) (ρ:DS) (σ:St):Prop where
 len:ρ.length=σ.length
 at_:∀ (i:Nat) (d:Dt),ρ[i]? = some (.some d)→∃ v,σ[i]? = some (some v)∧Is K W.g d v
 ow:∀ (i:Nat) (ds:List Dt),ρ[i]? = some (.own ds)→∃ a xs,σ[i]? = some (some (.ref a))∧W.h a=some (.lst xs)∧W.g a=none∧F a=none∧AllIs K W.g ds xs
 ne:∀ (i j:Nat) (ds es:List Dt),i ≠ j→ρ[i]? = some (.own ds)→ρ[j]? = some (.own es)→σ[i]? ≠ σ[j]?
 fr:Same F W.h
 z:Same Z F
 ar:∀ (i:Nat) (a:Addr) (ds:List Dt),ρ[i]? = some (.arg a ds)→(∃ xs,σ[i]? = some (some (.ref a))∧W.h a=some (.lst xs)∧W.g a=none∧F a=none∧AllIs K W.g ds xs)∧(∀ (j:Nat) (es:List Dt),ρ[j]? = some (.own es)→σ[j]? ≠ some (some (.ref a)))∧∀ (j:Nat) (b:Addr) (es:List Dt),ρ[j]? = some (.arg b es)→j=i
variable {F:Hp} {W W':Vw}
theorem Rl.mono {ρ:DS} {σ:St} (r:Rl K Z F W ρ σ) (s:Le W W'):Rl K Z F W' ρ σ:=
 ⟨r.len,fun i d e=>let ⟨v,h1,h2⟩:=r.at_ i d e; ⟨v,h1,h2.mono s⟩,
  fun i ds e=>let ⟨a,xs,h1,h2,h3,h4,h5⟩:=r.ow i ds e; ⟨a,xs,h1,s.h _ _ h2,s.n a (by rw [h2]; intro z; cases z) h3,h4,h5.mono s⟩,r.ne,r.fr.trans s.h,r.z,
  fun i a ds e=>let ⟨⟨xs,h1,h2,h3,h4,h5⟩,k1,k2⟩:=r.ar i a ds e; ⟨⟨xs,h1,s.h _ _ h2,s.n a (by rw [h2]; intro z; cases z) h3,h4,h5.mono s⟩,k1,k2⟩⟩
theorem zm {α:Type} {l:List α} {i j:Nat} {x y:α} (q:(l.set i x)[j]? = some y):(i=j∧i < l.length∧x=y)∨(i ≠ j∧l[j]? = some y):=by
 by_cases hij:i=j
 ·subst hij
  by_cases hl:i < l.length
  ·rw [List.getElem?_set_self hl] at q
   exact .inl ⟨rfl,hl,Option.some.inj q⟩
  ·rw [List.getElem?_eq_none (by rw [List.length_set]; omega)] at q
   cases q
 ·rw [List.getElem?_set_ne hij] at q
  exact .inr ⟨hij,q⟩
theorem Rl.set {ρ:DS} {σ:St} (r:Rl K Z F W ρ σ) {d:Dt} {v:V} (i:Nat) (h:Is K W.g d v):Rl K Z F W (ρ.set i (.some d)) (σ.set i (some v)):=by
 refine ⟨by rw [List.length_set,List.length_set]; exact r.len,fun j e q=>?_,fun j ds q=>?_,fun j k ds es hjk q1 q2=>?_,r.fr,r.z,fun j a ds q=>?_⟩
 ·rcases zm q with ⟨rfl,hl,e1⟩ | ⟨hij,q⟩
  ·cases e1
   exact ⟨v,by rw [List.getElem?_set_self (by rw [← r.len]; exact hl)],h⟩
  ·rw [List.getElem?_set_ne hij]
   exact r.at_ j e q
 ·rcases zm q with ⟨_,_,e1⟩ | ⟨hij,q⟩
  ·cases e1
  ·rw [List.getElem?_set_ne hij]
   exact r.ow j ds q
 ·rcases zm q1 with ⟨_,_,e1⟩ | ⟨hij,q1⟩
  ·cases e1
  rcases zm q2 with ⟨_,_,e1⟩ | ⟨hik,q2⟩
  ·cases e1
  rw [List.getElem?_set_ne hij,List.getElem?_set_ne hik]
  exact r.ne j k ds es hjk q1 q2
 ·rcases zm q with ⟨_,_,e1⟩ | ⟨hij,q⟩
  ·cases e1
  obtain ⟨⟨xs,h1,h2⟩,k1,k2⟩:=r.ar j a ds q
  refine ⟨⟨xs,by rw [List.getElem?_set_ne hij]; exact h1,h2⟩,fun k es q'=>?_,fun k c es q'=>?_⟩
  ·rcases zm q' with ⟨_,_,e1⟩ | ⟨hik,q'⟩
   ·cases e1
   rw [List.getElem?_set_ne hik]
   exact k1 k es q'
  ·rcases zm q' with ⟨_,_,e1⟩ | ⟨hik,q'⟩
   ·cases e1
   exact k2 k c es q'
theorem Rl.own {ρ:DS} {σ:St} (r:Rl K Z F W ρ σ) (s:Le W W') {p:Addr} {xs:List V} {ds:List Dt} (i:Nat) (h0:W.h p=none) (h1:W'.h p=some (.lst xs)) (h2:W'.g p=none) (h3:AllIs K W'.g ds xs):
  Rl K Z F W' (ρ.set i (.own ds)) (σ.set i (some (.ref p))):=by
 have r':=r.mono s
 have nep:∀ (j:Nat) (es:List Dt),ρ[j]? = some (Sl.own es)→σ[j]? ≠ some (some (V.ref p)):=fun j es q z=>by
  obtain ⟨a,ys,e1,e2,_⟩:=r.ow j es q
  rw [z] at e1
  cases e1
  rw [h0] at e2
  cases e2
 refine ⟨by rw [List.length_set,List.length_set]; exact r.len,fun j e q=>?_,fun j es q=>?_,fun j k es es' hjk q1 q2=>?_,r'.fr,r.z,fun j a fs q=>?_⟩
 ·rcases zm q with ⟨_,_,e1⟩ | ⟨hij,q⟩
  ·cases e1
  ·rw [List.getElem?_set_ne hij]
   exact r'.at_ j e q
 ·rcases zm q with ⟨rfl,hl,e1⟩ | ⟨hij,q⟩
  ·cases e1
   exact ⟨p,xs,by rw [List.getElem?_set_self (by rw [← r.len]; exact hl)],h1,h2,r.fr.free h0,h3⟩
  ·rw [List.getElem?_set_ne hij]
   exact r'.ow j es q
 ·rcases zm q1 with ⟨rfl,hl,e1⟩ | ⟨hij,q1⟩
  ·rcases zm q2 with ⟨rfl,_,_⟩ | ⟨hik,q2⟩
   ·exact absurd rfl hjk
   ·rw [List.getElem?_set_self (by rw [← r.len]; exact hl),List.getElem?_set_ne hik]
    exact fun z=>nep k es' q2 z.symm
  ·rcases zm q2 with ⟨rfl,hl,_⟩ | ⟨hik,q2⟩
   ·rw [List.getElem?_set_self (by rw [← r.len]; exact hl),List.getElem?_set_ne hij]
    exact nep j es q1
   ·rw [List.getElem?_set_ne hij,List.getElem?_set_ne hik]
    exact r.ne j k es es' hjk q1 q2
 ·rcases zm q with ⟨_,_,e1⟩ | ⟨hij,q⟩
  ·cases e1
  obtain ⟨⟨ys,g1,g2⟩,k1,k2⟩:=r'.ar j a fs q
  obtain ⟨⟨_,_,g3,_⟩,_,_⟩:=r.ar j a fs q
  refine ⟨⟨ys,by rw [List.getElem?_set_ne hij]; exact g1,g2⟩,fun k es q'=>?_,fun k c es q'=>?_⟩
  ·rcases zm q' with ⟨rfl,hl,e1⟩ | ⟨hik,q'⟩
   ·rw [List.getElem?_set_self (by rw [← r.len]; exact hl)]
    intro z
    cases z
    rw [h0] at g3
    cases g3
   ·rw [List.getElem?_set_ne hik]
    exact k1 k es q'
  ·rcases zm q' with ⟨_,_,e1⟩ | ⟨hik,q'⟩
   ·cases e1
   exact k2 k c es q'
theorem Rl.put {ρ:DS} {σ:St} (r:Rl K Z F W ρ σ) {i:Nat} {ds es:List Dt} {a:Addr} {ys:List V} (hi:ρ[i]? = some (.own ds)) (ha:σ[i]? = some (some (.ref a))) (hg:W.g a=none) (hF:F a=none) (h3:AllIs K W.g es ys):
  Rl K Z F (W.mine a (.lst ys) hg) (ρ.set i (.own es)) σ:=by
 have hl:i < ρ.length:=by
  rcases Nat.lt_or_ge i ρ.length with h | h
  ·exact h
  ·rw [List.getElem?_eq_none h] at hi; cases hi
 have other:∀ j fs,j ≠ i→ρ[j]? = some (.own fs)→σ[j]? ≠ some (some (.ref a)):=fun j fs hj q z=>r.ne j i fs ds hj q hi (z.trans ha.symm)
 refine ⟨by rw [List.length_set]; exact r.len,fun j e q=>?_,fun j fs q=>?_,fun j k fs fs' hjk q1 q2=>?_,fun p o q=>?_,r.z,fun j c fs q=>?_⟩
 ·rcases zm q with ⟨_,_,e1⟩ | ⟨hij,q⟩
  ·cases e1
  ·exact r.at_ j e q
 ·rcases zm q with ⟨rfl,_,e1⟩ | ⟨hij,q⟩
  ·cases e1
   exact ⟨a,ys,ha,zu,hg,hF,h3⟩
  ·obtain ⟨b,xs,e1,e2,e3,e4,e5⟩:=r.ow j fs q
   have hb:b ≠ a:=fun z=>other j fs (fun z=>hij z.symm) q (z ▸ e1)
   exact ⟨b,xs,e1,(zr hb).trans e2,e3,e4,e5⟩
 ·have k1:∃ gs,ρ[j]? = some (.own gs):=by
   rcases zm q1 with ⟨rfl,_,_⟩ | ⟨_,q⟩
   ·exact ⟨_,hi⟩
   ·exact ⟨_,q⟩
  have k2:∃ gs,ρ[k]? = some (.own gs):=by
   rcases zm q2 with ⟨rfl,_,_⟩ | ⟨_,q⟩
   ·exact ⟨_,hi⟩
   ·exact ⟨_,q⟩
  obtain ⟨_,k1⟩:=k1
  obtain ⟨_,k2⟩:=k2
  exact r.ne j k _ _ hjk k1 k2
 ·have e:p ≠ a:=fun e=>by rw [e,hF] at q; cases q
  exact (zr (H:=W.h) (o:=.lst ys) e).trans (r.fr p o q)
 ·rcases zm q with ⟨_,_,e1⟩ | ⟨hij,q⟩
  ·cases e1
  obtain ⟨⟨ys',g1,g2,g3,g4,g5⟩,k1,k2⟩:=r.ar j c fs q
  have hc:c ≠ a:=fun z=>k1 i ds hi (by rw [z]; exact ha)
  refine ⟨⟨ys',g1,(zr hc).trans g2,g3,g4,g5⟩,fun k es' q'=>?_,fun k c' es' q'=>?_⟩
  ·rcases zm q' with ⟨rfl,_,_⟩ | ⟨_,q'⟩
   ·exact k1 i ds hi
   ·exact k1 k es' q'
  ·rcases zm q' with ⟨_,_,e1⟩ | ⟨hik,q'⟩
   ·cases e1
   exact k2 k c' es' q'
theorem Rl.frz {ρ:DS} {σ:St} (r:Rl K Z F W ρ σ) {i:Nat} {ds:List Dt} {a:Addr} {xs:List V} (hi:ρ[i]? = some (.own ds)) (ha:σ[i]? = some (some (.ref a))) (hh:W.h a=some (.lst xs)) (hg:W.g a=none) (h3:AllIs K W.g ds xs):
  Rl K Z F (W.frz a _ hh) (ρ.set i (.some (.lst ds))) σ:=by
 have sg:Same W.g (upd W.g a (.lst xs)):=zF hg _
 have other:∀ j fs,j ≠ i→ρ[j]? = some (.own fs)→σ[j]? ≠ some (some (.ref a)):=fun j fs hj q z=>r.ne j i fs ds hj q hi (z.trans ha.symm)
 refine ⟨by rw [List.length_set]; exact r.len,fun j e q=>?_,fun j fs q=>?_,fun j k fs fs' hjk q1 q2=>?_,r.fr,r.z,fun j c fs q=>?_⟩
 ·rcases zm q with ⟨rfl,_,e1⟩ | ⟨hij,q⟩
  ·cases e1
   exact ⟨_,ha,is_lst.mpr ⟨a,xs,rfl,zu,AllIs.mono0 sg h3⟩⟩
  ·obtain ⟨v,e1,e2⟩:=r.at_ j e q
   exact ⟨v,e1,Is.mono0 sg e2⟩
 ·rcases zm q with ⟨_,_,e1⟩ | ⟨hij,q⟩
  ·cases e1
  ·obtain ⟨b,ys,e1,e2,e3,e4,e5⟩:=r.ow j fs q
   have hb:b ≠ a:=fun z=>other j fs (fun z=>hij z.symm) q (z ▸ e1)
   exact ⟨b,ys,e1,e2,(zr hb).trans e3,e4,AllIs.mono0 sg e5⟩
 ·rcases zm q1 with ⟨_,_,e1⟩ | ⟨_,q1⟩
  ·cases e1
  rcases zm q2 with ⟨_,_,e1⟩ | ⟨_,q2⟩
  ·cases e1
  exact r.ne j k _ _ hjk q1 q2
 ·rcases zm q with ⟨_,_,e1⟩ | ⟨hij,q⟩
  ·cases e1
  obtain ⟨⟨ys',g1,g2,g3,g4,g5⟩,k1,k2⟩:=r.ar j c fs q
  have hc:c ≠ a:=fun z=>k1 i ds hi (by rw [z]; exact ha)
  refine ⟨⟨ys',g1,g2,(zr hc).trans g3,g4,AllIs.mono0 sg g5⟩,fun k es' q'=>?_,fun k c' es' q'=>?_⟩
  ·rcases zm q' with ⟨_,_,e1⟩ | ⟨_,q'⟩
   ·cases e1
   ·exact k1 k es' q'
  ·rcases zm q' with ⟨_,_,e1⟩ | ⟨hik,q'⟩
   ·cases e1
   exact k2 k c' es' q'
def yi (n:Nat) (ds:List Dt):DS:=ds.map Sl.some ++ List.replicate (n - ds.length) Sl.none
theorem Rl.start {N:List Str} {ds:List Dt} {vs:List V} (h:AllIs K W.g ds vs) (hz:Same Z W.h):Rl K Z W.h W (yi N.length ds) (L2.start N vs):=by
 have hl:=h.length
 have cls:∀ (i:Nat) (y:Sl),(yi N.length ds)[i]? = some y→(∃ d,ds[i]? = some d∧y=.some d)∨y=.none:=fun i y e=>by
  unfold yi at e
  by_cases hi:i < ds.length
  ·rw [List.getElem?_append_left (by rw [List.length_map]; exact hi),List.getElem?_map] at e
   cases q:ds[i]? with
   | none=>rw [q] at e; cases e
   | some d'=>
    rw [q] at e
    exact .inl ⟨d',rfl,(Option.some.inj e).symm⟩
  ·rw [List.getElem?_append_right (by rw [List.length_map]; omega),List.getElem?_replicate] at e
   split at e
   ·exact .inr (Option.some.inj e).symm
   ·cases e
 refine ⟨by unfold L2.start yi; rw [List.length_append,List.length_append,List.length_map,List.length_map,List.length_replicate,List.length_replicate,hl],fun i d e=>?_,fun i es e=>?_,fun i j es fs _ e _=>?_,Same.refl _,hz,fun i a es e=>?_⟩
 ·rcases cls i _ e with ⟨d',q,e1⟩ | e1
  ·cases e1
   obtain ⟨v,h1,h2⟩:=h.get q
   refine ⟨v,?_,h2⟩
   have hi:i < ds.length:=by
    rcases Nat.lt_or_ge i ds.length with h | h
    ·exact h
    ·rw [List.getElem?_eq_none h] at q; cases q
   unfold L2.start
   rw [List.getElem?_append_left (by rw [List.length_map,← hl]; exact hi),List.getElem?_map,h1]
   rfl
  ·cases e1
 ·rcases cls i _ e with ⟨d',q,e1⟩ | e1
  ·cases e1
  ·cases e1
 ·rcases cls i _ e with ⟨d',q,e1⟩ | e1
  ·cases e1
  ·cases e1
 ·rcases cls i _ e with ⟨d',q,e1⟩ | e1
  ·cases e1
  ·cases e1
abbrev DTE:=DS→(Dt→Prop)→Prop
abbrev DTT:=DS→(Bool→Prop)→Prop
abbrev DTA:=DS→(List Dt→Prop)→Prop
def LiE (K:PySem.W.Frag) (Z:Hp) (te:TE) (t:DTE):Prop:=
 ∀ {F:Hp} (ρ:DS) (σ:St) (H:Vw) (Q:Dt→Prop),Rl K Z F H ρ σ→t ρ Q→∀ R:VK,(∀ d v H',Le H H'→Is K H'.g d v→Q d→R v H'.h)→te σ H.h R
def LiT (K:PySem.W.Frag) (Z:Hp) (te:TT) (t:DTT):Prop:=
 ∀ {F:Hp} (ρ:DS) (σ:St) (H:Vw) (Q:Bool→Prop),Rl K Z F H ρ σ→t ρ Q→∀ R:Bool→Hp→Prop,(∀ d H',Le H H'→Q d→R d H'.h)→te σ H.h R
def LiA (K:PySem.W.Frag) (Z:Hp) (te:TA) (t:DTA):Prop:=
 ∀ {F:Hp} (ρ:DS) (σ:St) (H:Vw) (Q:List Dt→Prop),Rl K Z F H ρ σ→t ρ Q→∀ R:List V→Hp→Prop,(∀ d v H',Le H H'→AllIs K H'.g d v→Q d→R v H'.h)→te σ H.h R
def DE (X:Cx) (e:Expr) (t:DTE):Prop:=∃ te,PE X e te∧LiE X.K (Zx X) te t
def DT (X:Cx) (e:Expr) (t:DTT):Prop:=∃ te,PT X e te∧LiT X.K (Zx X) te t
def DW (X:Cx) (e:Expr) (t:DTT):Prop:=∃ te,PW X e te∧LiT X.K (Zx X) te t
def DA (X:Cx) (es:List Expr) (t:DTA):Prop:=∃ te,PA X es te∧LiA X.K (Zx X) te t
theorem DW.dt {X:Cx} {e:Expr} {t:DTT} (h:DW X e t):DT X e t:=let ⟨te,h1,h2⟩:=h; ⟨te,h1.pt,h2⟩
def wK (i:Nat):DTE:=fun ρ Q=>∃ d,ρ[i]? = some (.some d)∧Q d
def dC (d:Dt):DTE:=fun _ Q=>Q d
section
variable {X:Cx} {a b c:Expr} {ta tb tc:DTE} {pos:Pos}
theorem dv (i:Nat) {x:Str} {pos:Pos} (hN:X.N[i]? = some x:=by rfl) (hv:Vis X.env.scope x:=by first | exact Or.inl rfl | exact Or.inr (Or.inl rfl) | exact Or.inr (Or.inr rfl)) (hd:(x == ("__debug__":Str))=false:=by decide)
  (hcd:(x == ("__classdict__":Str))=false:=by decide):DE X (.Name x pos) (wK i):=
 ⟨kI i,y3 hN hv hd hcd,fun ρ σ H Q r h R k=>by
  obtain ⟨d,e,q⟩:=h
  obtain ⟨v,h1,h2⟩:=r.at_ i d e
  exact ⟨v,h1,k d v H (Le.refl H) h2 q⟩⟩
theorem lic {v:V} {d:Dt} (h:∀ H:Vw,Is K H.g d v):LiE K Z (tC v) (dC d):=fun ρ σ H Q r q R k=>k d v H (Le.refl H) (h H) q
theorem zc {i j pos}:DE X (.Constant (.int i) j pos) (dC (.int i)):=⟨_,h_,lic fun _=>is_int.mpr rfl⟩
theorem xq {b j pos}:DE X (.Constant (.bool b) j pos) (dC (.bl b)):=⟨_,fQ,lic fun _=>is_bl.mpr rfl⟩
theorem oi {j pos}:DE X (.Constant .none j pos) (dC .non):=⟨_,h8,lic fun _=>is_non.mpr rfl⟩
theorem zt {x j pos}:DE X (.Constant (.str x) j pos) (dC (.str x)):=⟨_,hV,lic fun _=>is_str.mpr rfl⟩
def DOp (X:Cx) (f:Value→Value→Sem Value) (g:Dt→Dt→(Dt→Prop)→Prop):Prop:=
 ∃ r,OpR X f r∧∀ (H:Vw) (x y:V) (d e:Dt) (Q:Dt→Prop),Is X.K H.g d x→Is X.K H.g e y→g d e Q→∀ R:VK,(∀ d v H',Le H H'→Is X.K H'.g d v→Q d→R v H'.h)→r x y H.h R
def dOp (g:Dt→Dt→(Dt→Prop)→Prop) (ta tb:DTE):DTE:=fun ρ Q=>ta ρ fun d=>tb ρ fun e=>g d e Q
theorem gu {te tf:TE} {r:R2} {g:Dt→Dt→(Dt→Prop)→Prop} (ha:LiE K Z te ta) (hb:LiE K Z tf tb)
  (hg:∀ (H:Vw) (x y:V) (d e:Dt) (Q:Dt→Prop),Is K H.g d x→Is K H.g e y→g d e Q→∀ R:VK,(∀ d v H',Le H H'→Is K H'.g d v→Q d→R v H'.h)→r x y H.h R):LiE K Z (tOp r te tf) (dOp g ta tb):=
 fun ρ σ H Q rl h R k=>ha ρ σ H _ rl h _ fun d v H1 s1 i1 q1=>hb ρ σ H1 _ (rl.mono s1) q1 _ fun e u H2 s2 i2 q2=>
  hg H2 v u d e Q (i1.mono s2) i2 q2 R fun d' v' H3 s3 i3 q3=>k d' v' H3 ((s1.trans s2).trans s3) i3 q3
theorem zg {op:Operator} {g:Dt→Dt→(Dt→Prop)→Prop} (ho:DOp X (binaryOp op) g) (ha:DE X a ta) (hb:DE X b tb):DE X (.BinOp a op b pos) (dOp g ta tb):=by
 obtain ⟨r,h1,h2⟩:=ho
 obtain ⟨te,p1,l1⟩:=ha
 obtain ⟨tf,p2,l2⟩:=hb
 exact ⟨_,j8 h1 p1 p2,gu l1 l2 h2⟩
theorem wJ {op:CmpOp} {g:Dt→Dt→(Dt→Prop)→Prop} (ho:DOp X (compareOp op) g) (ha:DE X a ta) (hb:DE X b tb) (hm:behindInMarks op b=false):DE X (.Compare a [op] [b] pos) (dOp g ta tb):=by
 obtain ⟨r,h1,h2⟩:=ho
 obtain ⟨te,p1,l1⟩:=ha
 obtain ⟨tf,p2,l2⟩:=hb
 exact ⟨_,jc h1 p1 p2 hm,gu l1 l2 h2⟩
def xM (t:DTE):DTT:=fun ρ Q=>t ρ fun d=>∃ k,d=.bl k∧Q k
theorem rK {te:TE} {t:DTE} (h:LiE K Z te t):LiT K Z (mt te) (xM t):=fun ρ σ H Q r q R k=>
 h ρ σ H _ r q _ fun d v H1 s1 i1 ⟨b,e,qb⟩=>by
  subst e
  exact ⟨b,is_bl.mp i1,k b H1 s1 qb⟩
theorem zq {op:CmpOp} {g:Dt→Dt→(Dt→Prop)→Prop} (ho:DOp X (compareOp op) g) (ha:DE X a ta) (hb:DE X b tb) (hm:behindInMarks op b=false):DT X (.Compare a [op] [b] pos) (xM (dOp g ta tb)):=by
 obtain ⟨r,h1,h2⟩:=ho
 obtain ⟨te,p1,l1⟩:=ha
 obtain ⟨tf,p2,l2⟩:=hb
 exact ⟨_,kU h1 p1 p2 hm,rK (gu l1 l2 h2)⟩
theorem zR {e:Expr} {t:DTE} (h:DE X e t) (he:∀ yw,isTrue e X.env yw=(do let v ← yw; standAt e.pos; holding [v] (truthy v)):=by intro _; rfl):DT X e (xM t):=by
 obtain ⟨te,p,l⟩:=h
 exact ⟨_,i6 p he,rK l⟩
def l6 (g g':Dt→Dt→(Dt→Prop)→Prop) (ta tb tc:DTE):DTE:=fun ρ Q=>ta ρ fun d=>tb ρ fun e=>g d e fun z=>∃ k,z=.bl k∧(if k=true then tc ρ fun w=>g' e w Q else Q (.bl false))
theorem jp {te tf tg:TE} {r r':R2} {g g':Dt→Dt→(Dt→Prop)→Prop} (ha:LiE K Z te ta) (hb:LiE K Z tf tb) (hc:LiE K Z tg tc)
  (hg:∀ (H:Vw) (x y:V) (d e:Dt) (Q:Dt→Prop),Is K H.g d x→Is K H.g e y→g d e Q→∀ R:VK,(∀ d v H',Le H H'→Is K H'.g d v→Q d→R v H'.h)→r x y H.h R)
  (hg':∀ (H:Vw) (x y:V) (d e:Dt) (Q:Dt→Prop),Is K H.g d x→Is K H.g e y→g' d e Q→∀ R:VK,(∀ d v H',Le H H'→Is K H'.g d v→Q d→R v H'.h)→r' x y H.h R):LiE K Z (mx r r' te tf tg) (l6 g g' ta tb tc):=
 fun ρ σ H Q rl h R k=>ha ρ σ H _ rl h _ fun d v H1 s1 i1 q1=>hb ρ σ H1 _ (rl.mono s1) q1 _ fun e u H2 s2 i2 q2=>
  hg H2 v u d e _ (i1.mono s2) i2 q2 _ fun d' v' H3 s3 i3 ⟨z,ez,q3⟩=>by
   subst ez
   refine ⟨z,is_bl.mp i3,?_⟩
   cases z with
   | false=>exact k _ _ H3 ((s1.trans s2).trans s3) (is_bl.mpr rfl) q3
   | true=>exact hc ρ σ H3 _ (rl.mono ((s1.trans s2).trans s3)) q3 _ fun w x H4 s4 i4 q4=>hg' H4 u x e w Q (i2.mono (s3.trans s4)) i4 q4 R fun d5 v5 H5 s5 i5 q5=>k d5 v5 H5 (((s1.trans s2).trans (s3.trans s4)).trans s5) i5 q5
theorem lN {op op':CmpOp} {g g':Dt→Dt→(Dt→Prop)→Prop} (ho:DOp X (compareOp op) g) (ho':DOp X (compareOp op') g') (ha:DE X a ta) (hb:DE X b tb) (hc:DE X c tc)
  (hm:lastMarks [op,op'] [b,c]=false:=by with_unfolding_all rfl):DT X (.Compare a [op,op'] [b,c] pos) (xM (l6 g g' ta tb tc)):=by
 obtain ⟨r,h1,h2⟩:=ho
 obtain ⟨r',h3,h4⟩:=ho'
 obtain ⟨te,p1,l1⟩:=ha
 obtain ⟨tf,p2,l2⟩:=hb
 obtain ⟨tg,p3,l3⟩:=hc
 exact ⟨_,mO h1 h3 p1 p2 p3 hm,rK (jp l1 l2 l3 h2 h4)⟩
variable {tA tB:DTT} {yq:List Expr}
def jL (t u:DTT):DTT:=fun ρ Q=>t ρ fun c=>if c=true then u ρ Q else Q false
def dOr (t u:DTT):DTT:=fun ρ Q=>t ρ fun c=>if c=true then Q true else u ρ Q
def cF (t:DTT):DTT:=fun ρ Q=>t ρ fun c=>Q (!c)
theorem zW (ha:DT X a tA):DW X (.BoolOp .And [a] pos) tA:=let ⟨_,p,l⟩:=ha; ⟨_,kT p,l⟩
theorem vO (ha:DT X a tA):DW X (.BoolOp .Or [a] pos) tA:=let ⟨_,p,l⟩:=ha; ⟨_,iZ p,l⟩
theorem yd (ha:DT X a tA) (hb:DW X (.BoolOp .And (b :: yq) pos) tB):DW X (.BoolOp .And (a :: b :: yq) pos) (jL tA tB):=by
 obtain ⟨te,p1,l1⟩:=ha
 obtain ⟨tf,p2,l2⟩:=hb
 refine ⟨_,i0 p1 p2,fun ρ σ H Q r h R k=>l1 ρ σ H _ r h _ fun c H1 s1 q1=>?_⟩
 cases c with
 | true=>exact l2 ρ σ H1 Q (r.mono s1) q1 R fun d H2 s2 q2=>k d H2 (s1.trans s2) q2
 | false=>exact k _ H1 s1 q1
theorem tx (ha:DT X a tA) (hb:DW X (.BoolOp .Or (b :: yq) pos) tB):DW X (.BoolOp .Or (a :: b :: yq) pos) (dOr tA tB):=by
 obtain ⟨te,p1,l1⟩:=ha
 obtain ⟨tf,p2,l2⟩:=hb
 refine ⟨_,fL p1 p2,fun ρ σ H Q r h R k=>l1 ρ σ H _ r h _ fun c H1 s1 q1=>?_⟩
 cases c with
 | false=>exact l2 ρ σ H1 Q (r.mono s1) q1 R fun d H2 s2 q2=>k d H2 (s1.trans s2) q2
 | true=>exact k _ H1 s1 q1
theorem xJ (ha:DT X a tA):DT X (.UnaryOp .Not a pos) (cF tA):=by
 obtain ⟨te,p1,l1⟩:=ha
 exact ⟨_,i7 p1,fun ρ σ H Q r h R k=>l1 ρ σ H _ r h _ fun c H1 s1 q1=>k _ H1 s1 q1⟩
def iI (ta tb:DTE):DTE:=fun ρ Q=>ta ρ fun d=>∃ c,d=.bl c∧if c=true then tb ρ Q else Q (.bl false)
def cE (ta tb:DTE):DTE:=fun ρ Q=>ta ρ fun d=>∃ c,d=.bl c∧if c=true then Q (.bl true) else tb ρ Q
def dj (ta:DTE):DTE:=fun ρ Q=>ta ρ fun d=>∃ c,d=.bl c∧Q (.bl (!c))
theorem tG {op} {t:DTE} (h:DE X a t):DE X (.BoolOp op [a] pos) t:=let ⟨_,p,l⟩:=h; ⟨_,hW p,l⟩
theorem vS (ha:DE X a ta) (hb:DE X (.BoolOp .And (b :: yq) pos) tb):DE X (.BoolOp .And (a :: b :: yq) pos) (iI ta tb):=by
 obtain ⟨te,p1,l1⟩:=ha
 obtain ⟨tf,p2,l2⟩:=hb
 refine ⟨_,gc p1 p2,fun ρ σ H Q r h R k=>l1 ρ σ H _ r h _ fun d v H1 s1 i1 ⟨c,e,q1⟩=>?_⟩
 subst e
 refine ⟨c,is_bl.mp i1,?_⟩
 cases c with
 | true=>exact l2 ρ σ H1 Q (r.mono s1) q1 R fun d v H2 s2 i2 q2=>k d v H2 (s1.trans s2) i2 q2
 | false=>exact k _ _ H1 s1 (is_bl.mpr rfl) q1
theorem eW (ha:DE X a ta) (hb:DE X (.BoolOp .Or (b :: yq) pos) tb):DE X (.BoolOp .Or (a :: b :: yq) pos) (cE ta tb):=by
 obtain ⟨te,p1,l1⟩:=ha
 obtain ⟨tf,p2,l2⟩:=hb
 refine ⟨_,fO p1 p2,fun ρ σ H Q r h R k=>l1 ρ σ H _ r h _ fun d v H1 s1 i1 ⟨c,e,q1⟩=>?_⟩
 subst e
 refine ⟨c,is_bl.mp i1,?_⟩
 cases c with
 | false=>exact l2 ρ σ H1 Q (r.mono s1) q1 R fun d v H2 s2 i2 q2=>k d v H2 (s1.trans s2) i2 q2
 | true=>exact k _ _ H1 s1 (is_bl.mpr rfl) q1
theorem lW (ha:DE X a ta):DE X (.UnaryOp .Not a pos) (dj ta):=by
 obtain ⟨te,p1,l1⟩:=ha
 refine ⟨_,hZ p1,fun ρ σ H Q r h R k=>l1 ρ σ H _ r h _ fun d v H1 s1 i1 ⟨c,e,q1⟩=>?_⟩
 subst e
 exact ⟨c,is_bl.mp i1,k _ _ H1 s1 (is_bl.mpr rfl) q1⟩
end
section
variable {X:Cx} {a b c:Expr} {ta tb tc:DTE} {pos:Pos}
def gI (g:Int→Int→Dt):Dt→Dt→(Dt→Prop)→Prop:=fun d e Q=>∃ i j,d=.int i∧e=.int j∧Q (g i j)
def gIC (C:Int→Int→Prop) (g:Int→Int→Dt):Dt→Dt→(Dt→Prop)→Prop:=fun d e Q=>∃ i j,d=.int i∧e=.int j∧C i j∧Q (g i j)
theorem lS {f:Value→Value→Sem Value} {g:Int→Int→Int} (h:OpR X f (rI0 fun i j=>.int (g i j))):DOp X f (gI fun i j=>.int (g i j)):=by
 refine ⟨_,h,fun H x y d e Q i1 i2 q R k=>?_⟩
 obtain ⟨i,j,rfl,rfl,q⟩:=q
 exact ⟨i,j,is_int.mp i1,is_int.mp i2,k _ _ H (Le.refl H) (is_int.mpr rfl) q⟩
theorem rP {f:Value→Value→Sem Value} {g:Int→Int→Bool} (h:OpR X f (rI0 fun i j=>.bl (g i j))):DOp X f (gI fun i j=>.bl (g i j)):=by
 refine ⟨_,h,fun H x y d e Q i1 i2 q R k=>?_⟩
 obtain ⟨i,j,rfl,rfl,q⟩:=q
 exact ⟨i,j,is_int.mp i1,is_int.mp i2,k _ _ H (Le.refl H) (is_bl.mpr rfl) q⟩
theorem tE {f:Value→Value→Sem Value} {C:Int→Int→Prop} {g:Int→Int→Int} (h:OpR X f (rI C fun i j=>.int (g i j))):DOp X f (gIC C fun i j=>.int (g i j)):=by
 refine ⟨_,h,fun H x y d e Q i1 i2 q R k=>?_⟩
 obtain ⟨i,j,rfl,rfl,hc,q⟩:=q
 exact ⟨i,j,is_int.mp i1,is_int.mp i2,hc,k _ _ H (Le.refl H) (is_int.mpr rfl) q⟩
theorem jf:OpR X (binaryOp .Mult) (rI IntMulOk fun i j=>.int (i * j)):=opI fun _ _ _ _ _ _ _ hc q=>mul_int q hc
theorem zP:DOp X (binaryOp .Add) (gI fun i j=>.int (i + j)):=lS gj
theorem yb:DOp X (binaryOp .Sub) (gI fun i j=>.int (i - j)):=lS gf
theorem z4:DOp X (binaryOp .Mult) (gIC IntMulOk fun i j=>.int (i * j)):=tE jf
theorem xj:DOp X (binaryOp .FloorDiv) (gIC nq fun i j=>.int (i.fdiv j)):=tE mZ
def nl (_ j:Int):Prop:=j ≠ 0
theorem yC:DOp X (binaryOp .Mod) (gIC nl fun i j=>.int (i.fmod j)):=tE (C:=nl) jg
theorem kf {c n:Int} (h:(n != 0 && decide (n.natAbs < 1073741824))=true):nq c n:=by
 rw [Bool.and_eq_true,bne_iff_ne,decide_eq_true_iff] at h
 exact h
theorem sR {c n:Int} (h:(n != 0)=true):nl c n:=bne_iff_ne.mp h
theorem dH {c n:Int} (h:(decide (0 ≤ n) && (decide (n ≤ 1000000) && decide (c.natAbs < 18446744073709551616)))=true):ff c n:=by
 rw [Bool.and_eq_true,Bool.and_eq_true,decide_eq_true_iff,decide_eq_true_iff,decide_eq_true_iff] at h
 exact h
theorem gq {c n:Int} (h:decide (n.natAbs < 9223372036854775808)=true):IntMulOk c n:=by
 rw [decide_eq_true_iff] at h
 exact .of_right (intBits_le_64 (by omega) (by omega))
theorem jl {c n:Int} (h:decide (n.natAbs < 9223372036854775808)=true):IntMulOk n c:=by
 rw [decide_eq_true_iff] at h
 exact .of_left (intBits_le_64 (by omega) (by omega))
theorem ic:DOp X (binaryOp .Pow) (gIC ff fun i j=>.int (i ^ j.toNat)):=tE gh
theorem nO:DOp X (compareOp .Lt) (gI fun i j=>.bl (decide (i < j))):=rP fS
theorem eA:DOp X (compareOp .LtE) (gI fun i j=>.bl (decide (i ≤ j))):=rP fU
theorem jj:DOp X (compareOp .Gt) (gI fun i j=>.bl (decide (j < i))):=rP fV
theorem eB:DOp X (compareOp .GtE) (gI fun i j=>.bl (decide (j ≤ i))):=rP fW
def gU (ta:DTE):DTE:=fun ρ Q=>ta ρ fun d=>∃ i,d=.int i∧Q (.int (-i))
theorem xn (ha:DE X a ta):DE X (.UnaryOp .USub a pos) (gU ta):=by
 obtain ⟨te,p1,l1⟩:=ha
 refine ⟨_,fN iP p1,fun ρ σ H Q r h R k=>l1 ρ σ H _ r h _ fun d v H1 s1 i1 ⟨i,e,q1⟩=>?_⟩
 subst e
 exact ⟨i,is_int.mp i1,k _ _ H1 s1 (is_int.mpr rfl) q1⟩
theorem wY:DOp X (binaryOp .Add) (fun d e Q=>∃ ds es,d=.lst ds∧e=.lst es∧ds.length + es.length ≤ 100000∧Q (.lst (ds ++ es))):=by
 refine ⟨_,gi,fun H x y d e Q i1 i2 q R k=>?_⟩
 obtain ⟨ds,es,rfl,rfl,hl,q⟩:=q
 obtain ⟨l,xs,rfl,h1,a1⟩:=is_lst.mp i1
 obtain ⟨m,ys,rfl,h2,a2⟩:=is_lst.mp i2
 refine ⟨l,m,xs,ys,rfl,rfl,H.sub _ _ h1,H.sub _ _ h2,by rw [← a1.length,← a2.length]; exact Nat.le_trans hl (by decide),fun p hp=>?_⟩
 have s:=x6 hp (.lst (xs ++ ys))
 exact k _ _ _ s (is_lst.mpr ⟨p,_,rfl,zu,(a1.mono s).append (a2.mono s)⟩) q
def jJ:DTA:=fun _ Q=>Q []
def qS (te:DTE) (t:DTA):DTA:=fun ρ Q=>te ρ fun d=>t ρ fun ds=>Q (d :: ds)
variable {es:List Expr} {t:DTA}
theorem zd:DA X [] jJ:=⟨_,yF,fun ρ σ H Q r h R k=>k [] [] H (Le.refl H) (allIs_nil.mpr rfl) h⟩
theorem za (ha:DE X a ta) (hr:DA X es t) (hs:starEach (a :: es) X.env=(false,eval a X.env) :: starEach es X.env:=by rfl):DA X (a :: es) (qS ta t):=by
 obtain ⟨te,p1,l1⟩:=ha
 obtain ⟨tf,p2,l2⟩:=hr
 exact ⟨_,zL p1 p2 hs,fun ρ σ H Q r h R k=>l1 ρ σ H _ r h _ fun d v H1 s1 i1 q1=>l2 ρ σ H1 _ (r.mono s1) q1 _ fun ds vs H2 s2 i2 q2=>
  k (d :: ds) (v :: vs) H2 (s1.trans s2) (allIs_cons.mpr ⟨v,vs,rfl,i1.mono s2,i2⟩) q2⟩
def cz (t:DTA):DTE:=fun ρ Q=>t ρ fun ds=>Nat.ble ds.length 1000=true∧Q (.tup ds)
def jK (t:DTA):DTE:=fun ρ Q=>t ρ fun ds=>Nat.ble ds.length 1000=true∧Q (.lst ds)
theorem zw {x1} (h:DA X es t):DE X (.Tuple es x1 pos) (cz t):=by
 obtain ⟨te,p1,l1⟩:=h
 refine ⟨_,mU p1,fun ρ σ H Q r h R k=>l1 ρ σ H _ r h _ fun ds vs H1 s1 i1 ⟨hl,q1⟩=>⟨?_,fun p hp=>?_⟩⟩
 ·rw [← i1.length]; exact Nat.le_trans (Nat.le_of_ble_eq_true hl) (by decide)
 ·have s:=x6 hp (.tup vs)
  exact k _ _ _ (s1.trans s) (is_tup.mpr ⟨p,vs,rfl,zu,i1.mono s⟩) q1
theorem zI (h:DA X es t):DE X (.List es pos) (jK t):=by
 obtain ⟨te,p1,l1⟩:=h
 refine ⟨_,mW p1,fun ρ σ H Q r h R k=>l1 ρ σ H _ r h _ fun ds vs H1 s1 i1 ⟨hl,q1⟩=>⟨?_,fun p hp=>?_⟩⟩
 ·rw [← i1.length]; exact Nat.le_trans (Nat.le_of_ble_eq_true hl) (by decide)
 ·have s:=x6 hp (.lst vs)
  exact k _ _ _ (s1.trans s) (is_lst.mpr ⟨p,vs,rfl,zu,i1.mono s⟩) q1
def qm:Dt→Option (List Dt)
 | .tup ds=>some ds
 | .lst ds=>some ds
 | .scr ns=>some (ns.map .int)
 | _=>none
theorem rc {H:Vw} {d:Dt} {v:V} {ds:List Dt} (h:Is K H.g d v) (e:qm d=some ds):∃ a xs,v=.ref a∧(SqL K H.h a xs∨SqT K H.h a xs)∧AllIs K H.g ds xs:=by
 cases d with
 | tup es=>
  obtain rfl:es=ds:=Option.some.inj e
  obtain ⟨a,xs,rfl,h1,h2⟩:=is_tup.mp h
  exact ⟨a,xs,rfl,.inr (.of (H.sub _ _ h1)),h2⟩
 | lst es=>
  obtain rfl:es=ds:=Option.some.inj e
  obtain ⟨a,xs,rfl,h1,h2⟩:=is_lst.mp h
  exact ⟨a,xs,rfl,.inl (.of (H.sub _ _ h1)),h2⟩
 | scr ns=>
  obtain rfl:ns.map Dt.int=ds:=Option.some.inj e
  obtain ⟨a,rfl,h1⟩:=is_scr.mp h
  exact ⟨a,_,rfl,.inl (H.sub.seq h1),AllIs.ints⟩
 | _=>cases e
def dIx (ta tb:DTE):DTE:=fun ρ Q=>ta ρ fun d=>tb ρ fun e=>∃ ds i d',qm d=some ds∧e=.int i∧atI ds i=some d'∧Q d'
theorem zv (ha:DE X a ta) (hb:DE X b tb) (hs:qa b):DE X (.Subscript a b pos) (dIx ta tb):=by
 obtain ⟨te,p1,l1⟩:=ha
 obtain ⟨tf,p2,l2⟩:=hb
 refine ⟨_,j9 gC p1 p2 hs,fun ρ σ H Q r h R k=>l1 ρ σ H _ r h _ fun d v H1 s1 i1 q1=>l2 ρ σ H1 _ (r.mono s1) q1 _ fun e u H2 s2 i2 q2=>?_⟩
 obtain ⟨ds,i,d',e1,e2,e3,q⟩:=q2
 subst e2
 obtain ⟨p,xs,e4,h1,h2⟩:=rc (i1.mono s2) e1
 obtain ⟨w,e5,h3⟩:=h2.atI e3
 rcases h1 with h1 | h1
 ·exact .inl ⟨p,xs,i,w,e4,is_int.mp i2,h1,e5,k d' w H2 (s1.trans s2) h3 q⟩
 ·exact .inr (.inl ⟨p,xs,i,w,e4,is_int.mp i2,h1,e5,k d' w H2 (s1.trans s2) h3 q⟩)
def cG (t:DTE):DTE:=fun ρ Q=>t ρ fun d=>∃ ds,qm d=some ds∧Q (.int ds.length)
theorem yG {p:Pos} (hg:Gl X "len") (hm:X.mg "len"=none) (ha:DE X a ta) (hs:starEach [a] X.env=(false,eval a X.env) :: starEach [] X.env:=by rfl) (hpl:(backTo pos (starEach [] X.env)).any (·.1)=false:=by rfl):
  DE X (.Call (.Name "len" p) [a] [] pos) (cG ta):=by
 obtain ⟨te,p1,l1⟩:=ha
 refine ⟨_,xo vi hg hm PySem.boot_len (zL p1 yF hs) (by decide) (by decide) hs hpl,fun ρ σ H Q r h R k=>l1 ρ σ H _ r h _ fun d v H1 s1 i1 ⟨ds,e,q⟩=>?_⟩
 obtain ⟨a,xs,rfl,h1,h2⟩:=rc i1 e
 exact ⟨a,xs,rfl,h1,by rw [← h2.length]; exact k _ _ H1 s1 (is_int.mpr rfl) q⟩
def uu (xs:List Dt) (lo hi:Option Int):List Dt:=(xs.drop (HT.sIx xs.length 0 lo)).take (HT.sIx xs.length xs.length hi - HT.sIx xs.length 0 lo)
theorem AllIs.cut {G:Hp} {ds:List Dt} {xs:List V} (h:AllIs K G ds xs) (lo hi:Option Int):AllIs K G (uu ds lo hi) (ot xs lo hi):=by
 unfold uu ot
 rw [← h.length]
 exact (h.drop _).take _
abbrev DTO:=DS→(Option Int→Prop)→Prop
def DO (X:Cx) (e:Option Expr) (t:DTO):Prop:=∃ te,PO X e te∧∀ {F:Hp} (ρ:DS) (σ:St) (H:Vw) (Q:Option Int→Prop),Rl X.K (Zx X) F H ρ σ→t ρ Q→∀ R:Option Int→Hp→Prop,(∀ o H',Le H H'→Q o→R o H'.h)→te σ H.h R
def jI:DTO:=fun _ Q=>Q none
def e9 (t:DTE):DTO:=fun ρ Q=>t ρ fun d=>∃ i,d=.int i∧Q (some i)
theorem oY:DO X none jI:=⟨_,kZ,fun ρ σ H Q r h R k=>k none H (Le.refl H) h⟩
theorem uC (ha:DE X a ta):DO X (some a) (e9 ta):=by
 obtain ⟨te,p1,l1⟩:=ha
 refine ⟨_,kY p1,fun ρ σ H Q r h R k=>l1 ρ σ H _ r h _ fun d v H1 s1 i1 ⟨i,e,q⟩=>?_⟩
 subst e
 exact ⟨i,is_int.mp i1,k _ H1 s1 q⟩
def xk:Dt→Option (List Dt)
 | .lst ds=>some ds
 | .scr ns=>some (ns.map .int)
 | _=>none
theorem oK {H:Vw} {d:Dt} {v:V} {ds:List Dt} (h:Is K H.g d v) (e:xk d=some ds):∃ a xs,v=.ref a∧SqL K H.h a xs∧AllIs K H.g ds xs:=by
 cases d with
 | lst es=>
  obtain rfl:es=ds:=Option.some.inj e
  obtain ⟨a,xs,rfl,h1,h2⟩:=is_lst.mp h
  exact ⟨a,xs,rfl,.of (H.sub _ _ h1),h2⟩
 | scr ns=>
  obtain rfl:ns.map Dt.int=ds:=Option.some.inj e
  obtain ⟨a,rfl,h1⟩:=is_scr.mp h
  exact ⟨a,_,rfl,H.sub.seq h1,AllIs.ints⟩
 | _=>cases e
def dSl (te:DTE) (tl th:DTO):DTE:=fun ρ Q=>te ρ fun d=>tl ρ fun l=>th ρ fun u=>∃ ds,xk d=some ds∧Q (.lst (uu ds l u))
theorem tF {lo hi:Option Expr} {tl th:DTO} {p2:Pos} (ha:DE X a ta) (hl:DO X lo tl) (hu:DO X hi th):DE X (.Subscript a (.Slice lo hi none p2) pos) (dSl ta tl th):=by
 obtain ⟨te,p1,l1⟩:=ha
 obtain ⟨tf,p2,l2⟩:=hl
 obtain ⟨tg,p3,l3⟩:=hu
 refine ⟨_,mV kK p1 p2 p3,fun ρ σ H Q r h R k=>l1 ρ σ H _ r h _ fun d v H1 s1 i1 q1=>l2 ρ σ H1 _ (r.mono s1) q1 _ fun l H2 s2 q2=>l3 ρ σ H2 _ (r.mono (s1.trans s2)) q2 _ fun u H3 s3 ⟨ds,e,q⟩=>?_⟩
 obtain ⟨a,xs,rfl,h1,h2⟩:=oK (i1.mono (s2.trans s3)) e
 refine ⟨a,xs,rfl,h1,fun p hp=>?_⟩
 have s:=x6 hp (.lst (ot xs l u))
 exact k _ _ _ (((s1.trans s2).trans s3).trans s) (is_lst.mpr ⟨p,_,rfl,zu,(h2.cut l u).mono s⟩) q
end
def LiF (K:PySem.W.Frag) (Z:Hp) (te:TE) (t:DTE):Prop:=
 ∀ {F:Hp} (ρ:DS) (σ:St) (H:Vw) (Q:Dt→Prop),Rl K Z F H ρ σ→t ρ Q→∀ R:VK,
  (∀ es p xs H',Le H H'→H.h p=none→H'.h p=some (.lst xs)→H'.g p=none→AllIs K H'.g es xs→Q (.lst es)→R (.ref p) H'.h)→te σ H.h R
def DF (X:Cx) (e:Expr) (t:DTE):Prop:=∃ te,PE X e te∧LiF X.K (Zx X) te t
theorem vK {H H':Vw} {p:Addr} {o:HO} (s:Le H H') (h0:H.h p=none) (h1:H'.h p=some o) (h2:H'.g p=none):Le H (H'.frz p o h1):=
 ⟨s.g.trans (zF h2 o),s.h,fun a z1 z2=>by
  have:a ≠ p:=fun e=>z1 (e ▸ h0)
  show upd H'.g p o a=none
  rw [zr this]; exact s.n a z1 z2⟩
section
variable {X:Cx} {a b c e:Expr} {ta tb tc:DTE} {t:DTA} {pos p0 p1 p2:Pos} {es:List Expr}
theorem DF.de {t:DTE} (h:DF X e t):DE X e t:=by
 obtain ⟨te,p,l⟩:=h
 exact ⟨te,p,fun ρ σ H Q r h R k=>l ρ σ H Q r h R fun es q xs H' s h0 h1 h2 i z=>k (.lst es) (.ref q) (H'.frz q _ h1) (vK s h0 h1 h2) (is_lst.mpr ⟨q,xs,rfl,zu,AllIs.mono0 (zF h2 _) i⟩) z⟩
theorem vQ (h:DA X es t):DF X (.List es pos) (jK t):=by
 obtain ⟨te,p1,l1⟩:=h
 refine ⟨_,mW p1,fun ρ σ H Q r h R k=>l1 ρ σ H _ r h _ fun ds vs H1 s1 i1 ⟨hl,q1⟩=>⟨?_,fun p hp=>?_⟩⟩
 ·rw [← i1.length]; exact Nat.le_trans (Nat.le_of_ble_eq_true hl) (by decide)
 ·exact k ds p vs (H1.mine p (.lst vs) (H1.sub.free hp)) (s1.trans (rM hp _)) (s1.h.free hp) zu (H1.sub.free hp) i1 q1
theorem AllIs.rep {G:Hp} {ds:List Dt} {xs:List V} (h:AllIs K G ds xs):∀ k:Nat,AllIs K G (List.replicate k ds).flatten (List.replicate k xs).flatten
 | 0=>allIs_nil.mpr rfl
 | k + 1=>by
  rw [List.replicate_succ,List.replicate_succ,List.flatten_cons,List.flatten_cons]
  exact h.append (h.rep k)
def cw:Dt→Dt→(Dt→Prop)→Prop:=fun d e Q=>∃ ds k,d=.lst ds∧e=.int k∧-16000000 ≤ k∧k ≤ 16000000∧ds.length * k.toNat ≤ 16000000∧Q (.lst (List.replicate k.toNat ds).flatten)
theorem gN (ha:DE X a ta) (hb:DE X b tb):DF X (.BinOp a .Mult b pos) (dOp cw ta tb):=by
 obtain ⟨te,p1,l1⟩:=ha
 obtain ⟨tf,p2,l2⟩:=hb
 refine ⟨_,j8 gg p1 p2,fun ρ σ H Q r h R k=>l1 ρ σ H _ r h _ fun d v H1 s1 i1 q1=>l2 ρ σ H1 _ (r.mono s1) q1 _ fun e u H2 s2 i2 q2=>?_⟩
 obtain ⟨ds,n,rfl,rfl,hn1,hn2,hl,q⟩:=q2
 obtain ⟨l,xs,rfl,h1,a1⟩:=is_lst.mp (i1.mono s2)
 refine ⟨l,n,xs,rfl,is_int.mp i2,H2.sub _ _ h1,by omega,by omega,by rw [← a1.length]; exact Nat.le_trans hl (by decide),fun p hp=>?_⟩
 exact k _ p _ (H2.mine p _ (H2.sub.free hp)) ((s1.trans s2).trans (rM hp _)) ((s1.trans s2).h.free hp) zu (H2.sub.free hp) (a1.rep _) q
def dq (ta:DTE):DTE:=fun ρ Q=>ta ρ fun d=>∃ ds,qm d=some ds∧Q (.lst ds)
theorem o0 (hg:Gl X "list") (hm:X.mg "list"=none) (ha:DE X a ta) (hs:starEach [a] X.env=(false,eval a X.env) :: starEach [] X.env:=by rfl) (hpl:(backTo pos (starEach [] X.env)).any (·.1)=false:=by rfl):
  DF X (.Call (.Name "list" p0) [a] [] pos) (dq ta):=by
 obtain ⟨te,p1,l1⟩:=ha
 refine ⟨_,nL rR hg hm PyProof.Rows.boot_list (zL p1 yF hs) (by decide) (by decide) hs hpl,fun ρ σ H Q r h R k=>l1 ρ σ H _ r h _ fun d v H1 s1 i1 ⟨ds,e,q⟩=>?_⟩
 obtain ⟨a,xs,rfl,h1,h2⟩:=rc i1 e
 exact ⟨a,xs,rfl,h1,fun p hp=>k _ p _ (H1.mine p _ (H1.sub.free hp)) (s1.trans (rM hp _)) (s1.h.free hp) zu (H1.sub.free hp) h2 q⟩
variable {i:Nat} {x:Str}
def iE (i:Nat):DTE:=fun ρ Q=>∃ ds,ρ[i]? = some (.own ds)∧Q (.int ds.length)
theorem uE (i:Nat) (hg:Gl X "len") (hm:X.mg "len"=none) (hN:X.N[i]? = some x:=by rfl) (hv:Vis X.env.scope x:=by first | exact Or.inl rfl | exact Or.inr (Or.inl rfl) | exact Or.inr (Or.inr rfl)) (hd:(x == ("__debug__":Str))=false:=by decide)
  (hcd:(x == ("__classdict__":Str))=false:=by decide) (hs:starEach [.Name x p1] X.env=(false,eval (.Name x p1) X.env) :: starEach [] X.env:=by rfl) (hpl:(backTo pos (starEach [] X.env)).any (·.1)=false:=by rfl):
  DE X (.Call (.Name "len" p0) [.Name x p1] [] pos) (iE i):=by
 refine ⟨_,xo vi hg hm PySem.boot_len (zL (y3 hN hv hd hcd) yF hs) (by decide) (by decide) hs hpl,fun ρ σ H Q r h R k=>?_⟩
 obtain ⟨ds,e,q⟩:=h
 obtain ⟨a,xs,e1,e2,e3,e4,e5⟩:=r.ow i ds e
 exact ⟨.ref a,e1,a,xs,rfl,.inl (.of e2),by rw [← e5.length]; exact k _ _ H (Le.refl H) (is_int.mpr rfl) q⟩
def gY (i:Nat) (tb:DTE):DTE:=fun ρ Q=>∃ ds,ρ[i]? = some (.own ds)∧tb ρ fun e=>∃ k d,e=.int k∧atI ds k=some d∧Q d
theorem oj (i:Nat) (hb:DE X b tb) (hs:qa b) (hN:X.N[i]? = some x:=by rfl) (hv:Vis X.env.scope x:=by first | exact Or.inl rfl | exact Or.inr (Or.inl rfl) | exact Or.inr (Or.inr rfl)) (hd:(x == ("__debug__":Str))=false:=by decide)
  (hcd:(x == ("__classdict__":Str))=false:=by decide):DE X (.Subscript (.Name x p1) b pos) (gY i tb):=by
 obtain ⟨tf,p2,l2⟩:=hb
 refine ⟨_,j9 ix_list (y3 hN hv hd hcd) p2 hs,fun ρ σ H Q r h R k=>?_⟩
 obtain ⟨ds,e,h⟩:=h
 obtain ⟨a,xs,e1,e2,e3,e4,e5⟩:=r.ow i ds e
 refine ⟨.ref a,e1,l2 ρ σ H _ r h _ fun e u H2 s2 i2 ⟨n,d,en,ed,q⟩=>?_⟩
 subst en
 obtain ⟨v,ev,iv⟩:=e5.atI ed
 exact ⟨a,xs,n,v,rfl,is_int.mp i2,.of (s2.h _ _ e2),ev,k d v H2 s2 (iv.mono s2) q⟩
def iC (i:Nat):DTT:=fun ρ Q=>∃ ds,ρ[i]? = some (.own ds)∧Q (!ds.isEmpty)
theorem vZ {G:Hp} {ds:List Dt} {xs:List V} (h:AllIs K G ds xs):(!xs.isEmpty)=!ds.isEmpty:=by
 cases ds with
 | nil=>rw [allIs_nil.mp h]; rfl
 | cons d ds=>obtain ⟨x,r,rfl,_⟩:=allIs_cons.mp h; rfl
theorem jC (i:Nat) (hN:X.N[i]? = some x:=by rfl) (hv:Vis X.env.scope x:=by first | exact Or.inl rfl | exact Or.inr (Or.inl rfl) | exact Or.inr (Or.inr rfl)) (hd:(x == ("__debug__":Str))=false:=by decide)
  (hcd:(x == ("__classdict__":Str))=false:=by decide) (he:∀ yw,isTrue (.Name x p1) X.env yw=(do let v ← yw; standAt (Expr.Name x p1).pos; holding [v] (truthy v)):=by intro _; rfl):DT X (.Name x p1) (iC i):=by
 refine ⟨_,qu (y3 hN hv hd hcd) he,fun ρ σ H Q r h R k=>?_⟩
 obtain ⟨ds,e,q⟩:=h
 obtain ⟨a,xs,e1,e2,e3,e4,e5⟩:=r.ow i ds e
 exact ⟨.ref a,e1,!ds.isEmpty,.inl ⟨xs,.of e2,(vZ e5).symm⟩,k _ H (Le.refl H) q⟩
def cA (ta:DTE):DTT:=fun ρ Q=>ta ρ fun d=>∃ ds,xk d=some ds∧Q (!ds.isEmpty)
theorem gH (ha:DE X a ta) (he:∀ yw,isTrue a X.env yw=(do let v ← yw; standAt a.pos; holding [v] (truthy v)):=by intro _; rfl):DT X a (cA ta):=by
 obtain ⟨te,p1,l1⟩:=ha
 refine ⟨_,qu p1 he,fun ρ σ H Q r h R k=>l1 ρ σ H _ r h _ fun d v H1 s1 i1 ⟨ds,e,q⟩=>?_⟩
 obtain ⟨a,xs,rfl,h1,h2⟩:=oK i1 e
 exact ⟨!ds.isEmpty,.inl ⟨xs,h1,(vZ h2).symm⟩,k _ H1 s1 q⟩
def fz:Sl→Sl
 | .own ds=>.some (.lst ds)
 | .arg _ ds=>.some (.lst ds)
 | s=>s
open Classical in
theorem Rl.bor {ρ:DS} {σ:St} (r:Rl K Z F W ρ σ):∃ W':Vw,W'.h=W.h∧Same W.g W'.g∧Rl K Z F W' (ρ.map fz) σ∧∀ a o,W'.g a=some o→W.g a=some o∨∃ xs,o=.lst xs:=by
 let ow:Addr→Prop:=fun a=>∃ (i:Nat) (ds:List Dt),(ρ[i]? = some (Sl.own ds)∧σ[i]? = some (some (V.ref a)))∨ρ[i]? = some (Sl.arg a ds)
 have own_at:∀ a,ow a→W.g a=none:=fun a ⟨i,ds,h⟩=>by
  rcases h with ⟨e,ea⟩ | e
  ·obtain ⟨b,xs,e1,_,e3,_⟩:=r.ow i ds e
   rw [ea] at e1
   cases e1
   exact e3
  ·exact (r.ar i a ds e).1.choose_spec.2.2.1
 let g:Hp:=fun a=>if ow a then W.h a else W.g a
 have gs:Same W.g g:=fun b o q=>by
  show (if ow b then W.h b else W.g b)=some o
  by_cases hb:ow b
  ·rw [own_at b hb] at q; cases q
  ·rw [if_neg hb]; exact q
 have sub:Same g W.h:=fun b o q=>by
  have q':(if ow b then W.h b else W.g b)=some o:=q
  by_cases hb:ow b
  ·rw [if_pos hb] at q'; exact q'
  ·rw [if_neg hb] at q'; exact W.sub _ _ q'
 have cls:∀ (i:Nat) (y:Sl),(ρ.map fz)[i]? = some y→(∃ d,ρ[i]? = some (.some d)∧y=.some d)∨(∃ ds,(ρ[i]? = some (.own ds)∨∃ a,ρ[i]? = some (.arg a ds))∧y=.some (.lst ds))∨y=.none:=fun i y e=>by
  rw [List.getElem?_map] at e
  cases q:ρ[i]? with
  | none=>rw [q] at e; cases e
  | some z=>
   rw [q] at e
   have e':=(Option.some.inj e).symm
   cases z with
   | none=>exact .inr (.inr e')
   | some d=>exact .inl ⟨d,rfl,e'⟩
   | own ds=>exact .inr (.inl ⟨ds,.inl rfl,e'⟩)
   | arg a ds=>exact .inr (.inl ⟨ds,.inr ⟨a,rfl⟩,e'⟩)
 have gl:∀ a o,g a=some o→W.g a=some o∨∃ xs,o=HO.lst xs:=fun a o q=>by
  have q':(if ow a then W.h a else W.g a)=some o:=q
  by_cases hb:ow a
  ·rw [if_pos hb] at q'
   obtain ⟨i,ds,h⟩:=hb
   rcases h with ⟨e,ea⟩ | e
   ·obtain ⟨b,xs,e1,e2,_⟩:=r.ow i ds e
    rw [ea] at e1
    cases e1
    rw [e2] at q'
    exact .inr ⟨xs,(Option.some.inj q').symm⟩
   ·obtain ⟨⟨xs,_,e2,_⟩,_,_⟩:=r.ar i a ds e
    rw [e2] at q'
    exact .inr ⟨xs,(Option.some.inj q').symm⟩
  ·rw [if_neg hb] at q'
   exact .inl q'
 refine ⟨⟨g,W.h,sub⟩,rfl,gs,⟨by rw [List.length_map]; exact r.len,fun i d e=>?_,fun i ds e=>?_,fun i j ds es _ e _=>?_,r.fr,r.z,fun i a ds e=>?_⟩,gl⟩
 ·rcases cls i _ e with ⟨d',q,e1⟩ | ⟨ds,q,e1⟩ | e1
  ·cases e1
   obtain ⟨v,h1,h2⟩:=r.at_ i d q
   exact ⟨v,h1,Is.mono0 gs h2⟩
  ·cases e1
   rcases q with q | ⟨b,q⟩
   ·obtain ⟨b,xs,e1,e2,e3,e4,e5⟩:=r.ow i ds q
    have hb:ow b:=⟨i,ds,.inl ⟨q,e1⟩⟩
    exact ⟨_,e1,is_lst.mpr ⟨b,xs,rfl,(if_pos hb).trans e2,AllIs.mono0 gs e5⟩⟩
   ·obtain ⟨⟨xs,e1,e2,e3,e4,e5⟩,_,_⟩:=r.ar i b ds q
    have hb:ow b:=⟨i,ds,.inr q⟩
    exact ⟨_,e1,is_lst.mpr ⟨b,xs,rfl,(if_pos hb).trans e2,AllIs.mono0 gs e5⟩⟩
  ·cases e1
 ·rcases cls i _ e with ⟨d',q,e1⟩ | ⟨ds,q,e1⟩ | e1 <;> cases e1
 ·rcases cls i _ e with ⟨d',q,e1⟩ | ⟨ds,q,e1⟩ | e1 <;> cases e1
 ·rcases cls i _ e with ⟨d',q,e1⟩ | ⟨ds,q,e1⟩ | e1 <;> cases e1
theorem ki {H W' H1:Vw} (e:W'.h=H.h) (s1:Le W' H1) (sg:Same H.g W'.g):∃ H2:Vw,H2.h=H1.h∧H2.g=H.g∧Le H H2:=
 ⟨⟨H.g,H1.h,(sg.trans s1.g).trans H1.sub⟩,rfl,rfl,Same.refl _,e ▸ s1.h,fun _ _ h=>h⟩
def iH (t:DTT):DTT:=fun ρ Q=>t (ρ.map fz) Q
theorem lO {t:DTT} (h:DT X e t):DT X e (iH t):=by
 obtain ⟨te,p,l⟩:=h
 refine ⟨te,p,fun ρ σ H Q r hq R k=>?_⟩
 obtain ⟨W',e,sg,r',_⟩:=r.bor
 have:=l (ρ.map fz) σ W' Q r' hq R fun b H1 s1 q1=>by
  obtain ⟨H2,e2,_,s2⟩:=ki e s1 sg
  rw [← e2]
  exact k b H2 s2 q1
 rw [e] at this
 exact this
def mD:Dt→Bool
 | .non=>true | .bl _=>true | .int _=>true | .str _=>true | _=>false
end
abbrev DSp:=List Dt→(Dt→Prop)→Prop
def zp (K:PySem.W.Frag) (S:DSp):Sp:=fun vs H Q _=>∃ (W:Vw) (ds:List Dt) (Qd:Dt→Prop),W.h=H∧AllIs K W.g ds vs∧S ds Qd∧∀ d v W',Le W W'→Is K W'.g d v→Qd d→Q v W'.h
def yT (K:PySem.W.Frag) (S:DSp):Sp:=fun vs H Q _=>∃ (W:Vw) (ds:List Dt) (Qd:Dt→Prop),W.h=H∧AllIs K W.g ds vs∧S ds Qd∧
 ∀ es p xs W',Le W W'→W.h p=none→W'.h p=some (.lst xs)→W'.g p=none→AllIs K W'.g es xs→Qd (.lst es)→Q (.ref p) W'.h
structure DOk (P:Program) (w:World) (K:PySem.W.Frag) (mg:Str→Option Value) (base:Heap) (n:Nat) (x:Str) (S:DSp):Prop where
 ex:∃ f fd ps,mg x=some (.ref f)∧PySem.W.keepIn K (.ref f)=true∧Binds K fd ps []∧FnOk P w K mg base CX0 n f fd ps (zp K S)
structure FOk (P:Program) (w:World) (K:PySem.W.Frag) (mg:Str→Option Value) (base:Heap) (n:Nat) (x:Str) (S:DSp):Prop where
 ex:∃ f fd ps,mg x=some (.ref f)∧PySem.W.keepIn K (.ref f)=true∧Binds K fd ps []∧FnOk P w K mg base CX0 n f fd ps (yT K S)
structure MOk (P:Program) (w:World) (K:PySem.W.Frag) (mg:Str→Option Value) (base:Heap) (n:Nat) (C:Addr) (m:Str) (S:DSp):Prop where
 cl:Cls K C
 ex:∃ f fd ps,jV K C m f∧Binds K fd ps []∧FnOk P w K mg base CX0 n f fd ps (zp K S)
structure FMOk (P:Program) (w:World) (K:PySem.W.Frag) (mg:Str→Option Value) (base:Heap) (n:Nat) (C:Addr) (m:Str) (S:DSp):Prop where
 cl:Cls K C
 ex:∃ f fd ps,jV K C m f∧Binds K fd ps []∧FnOk P w K mg base CX0 n f fd ps (yT K S)
section
variable {X:Cx} {a b c e o:Expr} {ta tb tc:DTE} {pos p apos:Pos} {es:List Expr} {t:DTA} {n:Nat} {x m:Str} {S:DSp}
def o6 (S:DSp) (t:DTA):DTE:=fun ρ Q=>t ρ fun ds=>S ds Q
theorem zi (G:DOk X.prog X.w X.K X.mg X.base n x S) (hr:Room n X.A) (hg:Gl X x) (ha:DA X (e :: es) t) (hdb:(x == ("__debug__":Str))=false:=by decide)
  (he:starEach (e :: es) X.env=(false,eval e X.env) :: starEach es X.env:=by rfl) (hpl:(backTo pos (starEach es X.env)).any (·.1)=false:=by rfl):DE X (.Call (.Name x p) (e :: es) [] pos) (o6 S t):=by
 obtain ⟨f,fd,ps,hm,hk,hb,F⟩:=G.ex
 obtain ⟨te,p1,l1⟩:=ha
 refine ⟨_,wV F hr hg hm hk hb .nil sE p1 hdb he hpl,fun ρ σ H Q r h R k=>l1 ρ σ H _ r h _ fun ds vs H1 s1 i1 q1=>?_⟩
 rw [List.append_nil]
 exact ⟨H1,ds,Q,rfl,i1,q1,fun d v H2 s2 i2 q2=>k d v H2 (s1.trans s2) i2 q2⟩
theorem uD (G:FOk X.prog X.w X.K X.mg X.base n x S) (hr:Room n X.A) (hg:Gl X x) (ha:DA X (e :: es) t) (hdb:(x == ("__debug__":Str))=false:=by decide)
  (he:starEach (e :: es) X.env=(false,eval e X.env) :: starEach es X.env:=by rfl) (hpl:(backTo pos (starEach es X.env)).any (·.1)=false:=by rfl):DF X (.Call (.Name x p) (e :: es) [] pos) (o6 S t):=by
 obtain ⟨f,fd,ps,hm,hk,hb,F⟩:=G.ex
 obtain ⟨te,p1,l1⟩:=ha
 refine ⟨_,wV F hr hg hm hk hb .nil sE p1 hdb he hpl,fun ρ σ H Q r h R k=>l1 ρ σ H _ r h _ fun ds vs H1 s1 i1 q1=>?_⟩
 rw [List.append_nil]
 exact ⟨H1,ds,Q,rfl,i1,q1,fun es p xs H2 s2 h0 h1 h2 i2 q2=>k es p xs H2 (s1.trans s2) (s1.h.free h0) h1 h2 i2 q2⟩
def mv (X:Cx) (n:Nat) (m:Str) (ta:TE) (t:TA):TE:=fun σ H Q=>ta σ H fun x H1=>∃ a dx fs C f fd ps sp,x=.ref a∧H1 a=some (.ins C dx fs)∧fs.lookup m=none∧Cls X.K C∧jV X.K C m f∧Binds X.K fd ps []∧
 FnOk X.prog X.w X.K X.mg X.base CX0 n f fd ps sp∧t σ H1 fun vs H2=>sp (x :: vs) H2 Q E0
theorem qy {pl:Sem Bool} {te:TE} {tt:TA} (he:PE X o te) (hr:Room n X.A) (ha:PA X (e :: es) tt)
  (hst:starEach (e :: es) X.env=(false,eval e X.env) :: starEach es X.env:=by rfl) (hpl:(backTo pos (starEach es X.env)).any (·.1)=false:=by rfl)
  (ht:eval (.Call (.Attribute o m apos) (e :: es) [] pos) X.env=(do
   let ov ← eval o X.env
   standAt apos.atName
   let (f,first) ← holding [ov] (getMethod ov m pl)
   callWith pos f first (backTo pos (starEach (e :: es) X.env)) (backToKw pos (keywordEach [] X.env))):=by rfl):
  PE X (.Call (.Attribute o m apos) (e :: es) [] pos) (mv X n m te tt):=by
 intro pins s σ H Q I h
 refine PySem.W.methodCall_KW (pl:=pl) (thn (he pins s σ H _ I h) fun u s1 ⟨x,H1,I1,rx,a,dx,fs,C,f,fd,ps,sp,ex,ea,l,c,hm,hb,F,q⟩=>?_) ht
 subst ex
 obtain rfl:u=Value.ref a:=rx
 refine tq I1 ea c hm l ?_
 refine PySem.W.callWith_K (first:=[.ref a]) (h₀:=X.base) I.ok.mod.kin hm.kp (thn (ha pos pins s1 σ H1 _ I1 q) fun us s2 ⟨vs,H2,I2,r,q2⟩=>⟨I2.kIn,?_⟩) hst hpl
 exact pJ (us:=.ref a :: us) (vs:=.ref a :: vs) (dvs:=[]) (E:=E0) F hr hb .nil sE I2 (.cons rfl r) (by rw [List.append_nil]; exact q2)
theorem nK {pl:Sem Bool} {te:TE} (he:PE X o te) (hr:Room n X.A)
  (ht:eval (.Call (.Attribute o m apos) [] [] pos) X.env=(do
   let ov ← eval o X.env
   standAt apos.atName
   let (f,first) ← holding [ov] (getMethod ov m pl)
   callWith pos f first (backTo pos (starEach [] X.env)) (backToKw pos (keywordEach [] X.env))):=by rfl):
  PE X (.Call (.Attribute o m apos) [] [] pos) (mv X n m te ft):=by
 intro pins s σ H Q I h
 refine PySem.W.methodCall_KW (pl:=pl) (thn (he pins s σ H _ I h) fun u s1 ⟨x,H1,I1,rx,a,dx,fs,C,f,fd,ps,sp,ex,ea,l,c,hm,hb,F,q⟩=>?_) ht
 subst ex
 obtain rfl:u=Value.ref a:=rx
 refine tq I1 ea c hm l ?_
 exact PySem.W.callWith_K0 (first:=[.ref a]) I1.kIn hm.kp (pJ (us:=[.ref a]) (vs:=[.ref a]) (dvs:=[]) (E:=E0) F hr hb .nil sE I1 (.cons rfl .nil) q)
def dk (X:Cx) (n:Nat) (m:Str) (ta:DTE) (t:DTA):DTE:=fun ρ Q=>ta ρ fun d=>∃ C f k S,d=.way C f k∧(m == f)=false∧MOk X.prog X.w X.K X.mg X.base n C m S∧t ρ fun ds=>S (d :: ds) Q
theorem yR {pl:Sem Bool} (hr:Room n X.A) (he:DE X o ta) (ha:DA X (e :: es) t)
  (hst:starEach (e :: es) X.env=(false,eval e X.env) :: starEach es X.env:=by rfl) (hpl:(backTo pos (starEach es X.env)).any (·.1)=false:=by rfl)
  (ht:eval (.Call (.Attribute o m apos) (e :: es) [] pos) X.env=(do
   let ov ← eval o X.env
   standAt apos.atName
   let (f,first) ← holding [ov] (getMethod ov m pl)
   callWith pos f first (backTo pos (starEach (e :: es) X.env)) (backToKw pos (keywordEach [] X.env))):=by rfl):
  DE X (.Call (.Attribute o m apos) (e :: es) [] pos) (dk X n m ta t):=by
 obtain ⟨te,p0,l0⟩:=he
 obtain ⟨tt,p1,l1⟩:=ha
 refine ⟨_,qy (pl:=pl) p0 hr p1 hst hpl ht,fun ρ σ H Q r h R k=>l0 ρ σ H _ r h _ fun d v H1 s1 i1 ⟨C,f,z,S,ed,hne,M,q1⟩=>?_⟩
 subst ed
 obtain ⟨a,dx,rfl,ha⟩:=is_way.mp i1
 obtain ⟨g,fd,ps,hm,hb,F⟩:=M.ex
 refine ⟨a,dx,_,C,g,fd,ps,_,rfl,H1.sub _ _ ha,by simp [List.lookup,hne],M.cl,hm,hb,F,l1 ρ σ H1 _ (r.mono s1) q1 _ fun ds vs H2 s2 i2 q2=>?_⟩
 exact ⟨H2,_,Q,rfl,allIs_cons.mpr ⟨_,_,rfl,i1.mono s2,i2⟩,q2,fun d v H3 s3 i3 q3=>k d v H3 ((s1.trans s2).trans s3) i3 q3⟩
def gX (X:Cx) (n:Nat) (m:Str) (ta:DTE):DTE:=fun ρ Q=>ta ρ fun d=>∃ C f k S,d=.way C f k∧(m == f)=false∧MOk X.prog X.w X.K X.mg X.base n C m S∧S [d] Q
theorem vh {pl:Sem Bool} (hr:Room n X.A) (he:DE X o ta)
  (ht:eval (.Call (.Attribute o m apos) [] [] pos) X.env=(do
   let ov ← eval o X.env
   standAt apos.atName
   let (f,first) ← holding [ov] (getMethod ov m pl)
   callWith pos f first (backTo pos (starEach [] X.env)) (backToKw pos (keywordEach [] X.env))):=by rfl):
  DE X (.Call (.Attribute o m apos) [] [] pos) (gX X n m ta):=by
 obtain ⟨te,p0,l0⟩:=he
 refine ⟨_,nK (pl:=pl) p0 hr ht,fun ρ σ H Q r h R k=>l0 ρ σ H _ r h _ fun d v H1 s1 i1 ⟨C,f,z,S,ed,hne,M,q1⟩=>?_⟩
 subst ed
 obtain ⟨a,dx,rfl,ha⟩:=is_way.mp i1
 obtain ⟨g,fd,ps,hm,hb,F⟩:=M.ex
 refine ⟨a,dx,_,C,g,fd,ps,_,rfl,H1.sub _ _ ha,by simp [List.lookup,hne],M.cl,hm,hb,F,?_⟩
 exact ⟨H1,_,Q,rfl,allIs_cons.mpr ⟨_,_,rfl,i1,allIs_nil.mpr rfl⟩,q1,fun d v H3 s3 i3 q3=>k d v H3 (s1.trans s3) i3 q3⟩
def gW (X:Cx) (n:Nat) (m:Str) (ta:DTE) (t:DTA):DTE:=fun ρ Q=>ta ρ fun d=>∃ C f k S,d=.way C f k∧(m == f)=false∧FMOk X.prog X.w X.K X.mg X.base n C m S∧t ρ fun ds=>S (d :: ds) Q
theorem oZ {pl:Sem Bool} (hr:Room n X.A) (he:DE X o ta) (ha:DA X (e :: es) t)
  (hst:starEach (e :: es) X.env=(false,eval e X.env) :: starEach es X.env:=by rfl) (hpl:(backTo pos (starEach es X.env)).any (·.1)=false:=by rfl)
  (ht:eval (.Call (.Attribute o m apos) (e :: es) [] pos) X.env=(do
   let ov ← eval o X.env
   standAt apos.atName
   let (f,first) ← holding [ov] (getMethod ov m pl)
   callWith pos f first (backTo pos (starEach (e :: es) X.env)) (backToKw pos (keywordEach [] X.env))):=by rfl):
  DF X (.Call (.Attribute o m apos) (e :: es) [] pos) (gW X n m ta t):=by
 obtain ⟨te,p0,l0⟩:=he
 obtain ⟨tt,p1,l1⟩:=ha
 refine ⟨_,qy (pl:=pl) p0 hr p1 hst hpl ht,fun ρ σ H Q r h R k=>l0 ρ σ H _ r h _ fun d v H1 s1 i1 ⟨C,f,z,S,ed,hne,M,q1⟩=>?_⟩
 subst ed
 obtain ⟨a,dx,rfl,ha⟩:=is_way.mp i1
 obtain ⟨g,fd,ps,hm,hb,F⟩:=M.ex
 refine ⟨a,dx,_,C,g,fd,ps,_,rfl,H1.sub _ _ ha,by simp [List.lookup,hne],M.cl,hm,hb,F,l1 ρ σ H1 _ (r.mono s1) q1 _ fun ds vs H2 s2 i2 q2=>?_⟩
 have s:=s1.trans s2
 exact ⟨H2,_,Q,rfl,allIs_cons.mpr ⟨_,_,rfl,i1.mono s2,i2⟩,q2,fun es p xs H3 s3 h0 h1 h2 i3 q3=>k es p xs H3 (s.trans s3) (s.h.free h0) h1 h2 i3 q3⟩
def cJ (K:PySem.W.Frag) (f:Str) (ta:DTE):DTE:=fun ρ Q=>ta ρ fun d=>∃ C g k,d=.way C g k∧(f == g)=true∧Cls K C∧NoAttr K C f∧Q (.int k)
theorem zT {f:Str} (ha:DE X a ta) (hb:attributeBase a f X.env (eval a X.env)=eval a X.env:=by rfl):DE X (.Attribute a f pos) (cJ X.K f ta):=by
 obtain ⟨te,p1,l1⟩:=ha
 refine ⟨_,gb p1 hb,fun ρ σ H Q r h R k=>l1 ρ σ H _ r h _ fun d v H1 s1 i1 ⟨C,g,z,ed,hfg,hc,hn,q1⟩=>?_⟩
 subst ed
 obtain ⟨p,dx,rfl,hp⟩:=is_way.mp i1
 exact ⟨p,C,dx,_,.int z,rfl,H1.sub _ _ hp,hc,hn,by simp [List.lookup,hfg],k _ _ H1 s1 (is_int.mpr rfl) q1⟩
def y8 (C:Addr) (f:Str) (ok:Int→Prop):Sp:=fun vs H Q _=>∃ p dx i,vs=[.ref p,.int i]∧H p=some (.ins C dx [])∧ok i∧∀ H':Hp,H' p=some (.ins C dx [(f,.int i)])→(∀ b o,H b=some o→b ≠ p→H' b=some o)→Q .non H'
structure KOk (P:Program) (w:World) (K:PySem.W.Frag) (mg:Str→Option Value) (base:Heap) (n:Nat) (x:Str) (C:Addr) (f:Str) (ok:Int→Prop):Prop where
 ex:∃ g fd ps,mg x=some (.ref C)∧Mk K C g∧Binds K fd ps []∧FnOk P w K mg base CX0 n g fd ps (y8 C f ok)
def dm (C:Addr) (f:Str) (ok:Int→Prop) (t:DTA):DTE:=fun ρ Q=>t ρ fun ds=>∃ i,ds=[.int i]∧ok i∧Q (.way C f i)
theorem ww {C:Addr} {f:Str} {ok:Int→Prop} (G:KOk X.prog X.w X.K X.mg X.base n x C f ok) (hr:Room (n + 1) X.A) (hg:Gl X x) (ha:DA X (e :: es) t) (hdb:(x == ("__debug__":Str))=false:=by decide)
  (he:starEach (e :: es) X.env=(false,eval e X.env) :: starEach es X.env:=by rfl) (hpl:(backTo pos (starEach es X.env)).any (·.1)=false:=by rfl):DE X (.Call (.Name x p) (e :: es) [] pos) (dm C f ok t):=by
 obtain ⟨g,fd,ps,hm,M,hb,F⟩:=G.ex
 obtain ⟨te,p1,l1⟩:=ha
 refine ⟨_,jb M F hr hg hm hb .nil sE p1 hdb he hpl,fun ρ σ H Q r h R k=>l1 ρ σ H _ r h _ fun ds vs H1 s1 i1 ⟨i,ed,hok,q1⟩ y dy ny ndy ne=>?_⟩
 subst ed
 obtain ⟨v,rfl,hv⟩:=i1.one
 obtain rfl:=is_int.mp hv
 refine ⟨y,dy,i,rfl,zu,hok,fun H' e1 e2=>⟨rfl,?_⟩⟩
 have keep:Same H1.h H':=fun b o hb=>e2 b o (by rw [zr (zO hb ny),zr (zO hb ndy)]; exact hb) (zO hb ny)
 have gy:H1.g y=none:=H1.sub.free ny
 exact k _ _ ⟨upd H1.g y (.ins C dy [(f,.int i)]),H',fun b u q=>by
   by_cases e:b=y
   ·subst e; rw [zu] at q; rw [e1]; exact q
   ·rw [zr e] at q; exact keep _ _ (H1.sub _ _ q)⟩
  (s1.trans ⟨zF gy _,keep,fun a z1 z2=>by
   have:a ≠ y:=fun e=>z1 (e ▸ ny)
   show upd H1.g y _ a=none
   rw [zr this]; exact z2⟩) (is_way.mpr ⟨y,dy,rfl,zu⟩) q1
structure jW (K:PySem.W.Frag):Prop where
 ib:PySem.W.kitOne K (.type "int") (.type "bool")=some false
 it:PySem.W.kitOne K (.type "int") (.type "tuple")=some false
 il:PySem.W.kitOne K (.type "int") (.type "list")=some false
 bi:PySem.W.kitOne K (.type "bool") (.type "int")=some true
 bt:PySem.W.kitOne K (.type "bool") (.type "tuple")=some false
 bl:PySem.W.kitOne K (.type "bool") (.type "list")=some false
 ti:PySem.W.kitOne K (.type "tuple") (.type "int")=some false
 tb:PySem.W.kitOne K (.type "tuple") (.type "bool")=some false
 tl:PySem.W.kitOne K (.type "tuple") (.type "list")=some false
 li:PySem.W.kitOne K (.type "list") (.type "int")=some false
 lb:PySem.W.kitOne K (.type "list") (.type "bool")=some false
 lt:PySem.W.kitOne K (.type "list") (.type "tuple")=some false
theorem w4 {K:PySem.W.Frag} {t:Value}:PySem.W.kitOne K t t=some true:=by
 unfold PySem.W.kitOne
 rw [if_pos (beq_self_eq_true t)]
theorem gv {K:PySem.W.Frag} {t c:String} {b:Bool} (h1:(Value.type t == Value.type c)=false) (h2:PySem.W.kitMeta c=true) (h3:(fastBuiltinMro t).map (·.contains (Value.type c))=some b):PySem.W.kitOne K (.type t) (.type c)=some b:=by
 unfold PySem.W.kitOne PySem.W.kitCls
 rw [if_neg (by rw [h1]; decide)]
 show (if PySem.W.kitMeta c=true then PySem.W.subIn K (.type t) (.type c) else none)=some b
 rw [if_pos h2]
 exact h3
theorem cm (K:PySem.W.Frag):jW K:=by
 constructor <;> exact gv (by decide +kernel) (by decide +kernel) (by decide +kernel)
inductive TyN where | int | bool | tuple | list
def TyN.str:TyN→String
 | .int=>"int" | .bool=>"bool" | .tuple=>"tuple" | .list=>"list"
def eI:Dt→TyN→Option Bool
 | .int _,.int=>some true | .int _,.bool=>some false | .int _,.tuple=>some false | .int _,.list=>some false
 | .bl _,.int=>some true | .bl _,.bool=>some true | .bl _,.tuple=>some false | .bl _,.list=>some false
 | .tup _,.int=>some false | .tup _,.bool=>some false | .tup _,.tuple=>some true | .tup _,.list=>some false
 | .lst _,.int=>some false | .lst _,.bool=>some false | .lst _,.tuple=>some false | .lst _,.list=>some true
 | _,_=>none
theorem gE {H:Vw} {d:Dt} {v:V} {T:TyN} {b:Bool} (kt:jW K) (h:Is K H.g d v) (e:eI d T=some b):∃ tv,wO K H.h v tv∧PySem.W.kitOne K tv (.type T.str)=some b:=by
 cases d with
 | int i=>
  obtain rfl:=is_int.mp h
  refine ⟨_,.int i,?_⟩
  cases T <;> (obtain rfl:=Option.some.inj e; first | exact w4 | exact kt.ib | exact kt.it | exact kt.il)
 | bl i=>
  obtain rfl:=is_bl.mp h
  refine ⟨_,.bl i,?_⟩
  cases T <;> (obtain rfl:=Option.some.inj e; first | exact w4 | exact kt.bi | exact kt.bt | exact kt.bl)
 | tup ds=>
  obtain ⟨a,xs,rfl,h1,_⟩:=is_tup.mp h
  refine ⟨_,.tup (H.sub _ _ h1),?_⟩
  cases T <;> (obtain rfl:=Option.some.inj e; first | exact w4 | exact kt.ti | exact kt.tb | exact kt.tl)
 | lst ds=>
  obtain ⟨a,xs,rfl,h1,_⟩:=is_lst.mp h
  refine ⟨_,.lst (H.sub _ _ h1),?_⟩
  cases T <;> (obtain rfl:=Option.some.inj e; first | exact w4 | exact kt.li | exact kt.lb | exact kt.lt)
 | _=>cases T <;> cases e
theorem kh:CallR X (.builtin "isinstance") (fun xs H Q=>∃ v T tv b,xs=[v,.ty T]∧wO X.K H v tv∧PySem.W.kitOne X.K tv (.type T)=some b∧Q (.bl b) H):=by
 intro pins s σ H xs us Q I r h
 obtain ⟨v,T,tv,b,rfl,hty,hk,q⟩:=h
 cases r with
 | cons r1 r2=>
  cases r2 with
  | cons r3 r4=>
   cases r4
   cases r3
   exact sI I r1 hty hk fun tk=>⟨.bl b,H,I.tok _,rfl,q⟩
def cH (T:TyN) (ta:DTE):DTE:=fun ρ Q=>ta ρ fun d=>∃ b,eI d T=some b∧Q (.bl b)
theorem vR {T:TyN} {y:Str} {p':Pos} (kt:jW X.K) (hm:X.mg "isinstance"=none) (hmc:X.mg y=none) (hv:bootBuiltins y=some (.type T.str)) (ha:DE X a ta)
  (hg:Gl X "isinstance":=by rfl) (hgc:Gl X y:=by rfl) (hny:y ≠ "__name__":=by decide) (hdy:(y == ("__debug__":Str))=false:=by decide)
  (hs:starEach [a,.Name y p'] X.env=(false,eval a X.env) :: starEach [.Name y p'] X.env:=by rfl) (hs2:starEach [.Name y p'] X.env=(false,eval (.Name y p') X.env) :: starEach [] X.env:=by rfl)
  (hpl:(backTo pos (starEach [.Name y p'] X.env)).any (·.1)=false:=by rfl):
  DE X (.Call (.Name "isinstance" p) [a,.Name y p'] [] pos) (cH T ta):=by
 obtain ⟨te,p1,l1⟩:=ha
 have pc:PE X (.Name y p') (tC (.ty T.str)):=jd hgc hmc hv rfl hny hdy
 refine ⟨_,xo kh hg hm boot_isinstance (zL p1 (zL pc yF hs2) hs) (by decide) (by decide) hs hpl,fun ρ σ H Q r h R k=>l1 ρ σ H _ r h _ fun d v H1 s1 i1 ⟨b,e,q⟩=>?_⟩
 obtain ⟨tv,h1,h2⟩:=gE kt i1 e
 exact ⟨v,T.str,tv,b,rfl,h1,h2,k _ _ H1 s1 (is_bl.mpr rfl) q⟩
end
structure DEnds where
 nx:DS→Prop
 rt:Dt→Prop
 bk:DS→Prop:=fun _=>False
 ct:DS→Prop:=fun _=>False
abbrev DTS:=DEnds→DS→Prop
structure At (K:PySem.W.Frag) (Z:Hp) (W0:Vw) (G:Hp) (W:Vw) (ρ:DS) (σ:St):Prop where
 le:Le W0 W
 gs:Same G W.g
 rl:Rl K Z W0.h W ρ σ
inductive Fr where | d | l | t (a b:Bool)
def NewL (K:PySem.W.Frag) (F:Hp) (W:Vw) (d:Dt) (v:V):Prop:=∃ es p xs,d=.lst es∧v=.ref p∧F p=none∧W.h p=some (.lst xs)∧W.g p=none∧AllIs K W.g es xs
def Prt (K:PySem.W.Frag) (F:Hp) (W:Vw) (b:Bool) (d:Dt) (v:V):Prop:=match b with
 | false=>Is K W.g d v
 | true=>NewL K F W d v∨mD d=true∧Is K W.g d v
def Tld (K:PySem.W.Frag) (F:Hp) (W:Vw):Fr→Dt→V→Prop
 | .d,d,v=>Is K W.g d v
 | .l,d,v=>NewL K F W d v
 | .t a b,d,v=>∃ d1 d2 q u1 u2,d=.tup [d1,d2]∧v=.ref q∧W.g q=some (.tup [u1,u2])∧Prt K F W a d1 u1∧Prt K F W b d2 u2∧(∀ es fs,a=true→b=true→d1=.lst es→d2=.lst fs→u1 ≠ u2)
structure Sim (K:PySem.W.Frag) (Z:Hp) (fr:Fr) (W0:Vw) (G:Hp) (D:DEnds) (D':Ends):Prop where
 nx:∀ ρ σ W',At K Z W0 G W' ρ σ→D.nx ρ→D'.nx σ W'.h
 tl:∀ d v W',Le W0 W'→Tld K W0.h W' fr d v→D.rt d→D'.rt v W'.h
 bk:∀ ρ σ W',At K Z W0 G W' ρ σ→D.bk ρ→D'.bk σ W'.h
 ct:∀ ρ σ W',At K Z W0 G W' ρ σ→D.ct ρ→D'.ct σ W'.h
theorem NewL.le {F G:Hp} {W:Vw} {d:Dt} {v:V} (h:NewL K F W d v) (z:∀ p,F p=none→G p=none):NewL K G W d v:=
 let ⟨es,p,xs,h1,h2,h3,h4⟩:=h; ⟨es,p,xs,h1,h2,z p h3,h4⟩
theorem Sim.rf {Z:Hp} {fr:Fr} {W0:Vw} {G:Hp} {D:DEnds} {D':Ends} (s:Sim K Z fr W0 G D D') (hf:fr=.d∨fr=.l) (es:List Dt) (p:Addr) (xs:List V) (W':Vw) (le:Le W0 W') (h0:W0.h p=none) (h1:W'.h p=some (.lst xs)) (h2:W'.g p=none) (h3:AllIs K W'.g es xs) (q:D.rt (.lst es)):D'.rt (.ref p) W'.h:=by
 rcases hf with rfl | rfl
 ·exact s.tl (.lst es) (.ref p) (W'.frz p _ h1) (vK le h0 h1 h2) (is_lst.mpr ⟨p,xs,rfl,zu,AllIs.mono0 (zF h2 _) h3⟩) q
 ·exact s.tl (.lst es) (.ref p) W' le ⟨es,p,xs,rfl,rfl,h0,h1,h2,h3⟩ q
section
variable {W0:Vw} {G G':Hp} {ρ:DS} {σ:St} {fr:Fr}
theorem At.step (a:At K Z W0 G W ρ σ) (s:Le W W'):At K Z W0 G W' ρ σ:=⟨a.le.trans s,a.gs.trans s.g,a.rl.mono s⟩
theorem At.set (a:At K Z W0 G W ρ σ) {d:Dt} {v:V} (i:Nat) (h:Is K W.g d v):At K Z W0 G W (ρ.set i (.some d)) (σ.set i (some v)):=⟨a.le,a.gs,a.rl.set i h⟩
theorem At.weak (a:At K Z W0 G W ρ σ) (s:Same G' G):At K Z W0 G' W ρ σ:=⟨a.le,s.trans a.gs,a.rl⟩
theorem At.own (a:At K Z W0 G W ρ σ) (s:Le W W') {p:Addr} {xs:List V} {ds:List Dt} (i:Nat) (h0:W.h p=none) (h1:W'.h p=some (.lst xs)) (h2:W'.g p=none) (h3:AllIs K W'.g ds xs):
  At K Z W0 G W' (ρ.set i (.own ds)) (σ.set i (some (.ref p))):=⟨a.le.trans s,a.gs.trans s.g,a.rl.own s i h0 h1 h2 h3⟩
theorem At.put (at_:At K Z W0 G W ρ σ) {i:Nat} {ds es:List Dt} {a:Addr} {ys:List V} (hi:ρ[i]? = some (.own ds)) (ha:σ[i]? = some (some (.ref a))) (hg:W.g a=none) (hF:W0.h a=none) (h3:AllIs K W.g es ys):
  At K Z W0 G (W.mine a (.lst ys) hg) (ρ.set i (.own es)) σ:=
 ⟨⟨at_.le.g,fun b o q=>by
   have:b ≠ a:=fun e=>by rw [e,hF] at q; cases q
   show upd W.h a _ b=some o
   rw [zr this]; exact at_.le.h _ _ q,at_.le.n⟩,at_.gs,at_.rl.put hi ha hg hF h3⟩
theorem At.frz (at_:At K Z W0 G W ρ σ) {i:Nat} {ds:List Dt} {a:Addr} {xs:List V} (hi:ρ[i]? = some (.own ds)) (ha:σ[i]? = some (some (.ref a))) (hh:W.h a=some (.lst xs)) (hg:W.g a=none) (hF:W0.h a=none) (h3:AllIs K W.g ds xs):
  At K Z W0 G (W.frz a _ hh) (ρ.set i (.some (.lst ds))) σ:=
 ⟨vK at_.le hF hh hg,at_.gs.trans (zF hg _),at_.rl.frz hi ha hh hg h3⟩
theorem Sim.weak {D:DEnds} {D':Ends} (h:Sim K Z fr W0 G' D D') (s:Same G' G):Sim K Z fr W0 G D D':=
 ⟨fun ρ σ W' a=>h.nx ρ σ W' (a.weak s),h.tl,fun ρ σ W' a=>h.bk ρ σ W' (a.weak s),fun ρ σ W' a=>h.ct ρ σ W' (a.weak s)⟩
end
def LiS (K:PySem.W.Frag) (Z:Hp) (fr:Fr) (ts:TS) (t:DTS):Prop:=∀ (W0:Vw) (G:Hp) (ρ:DS) (σ:St) (W:Vw) (D:DEnds) (D':Ends),At K Z W0 G W ρ σ→Sim K Z fr W0 G D D'→t D ρ→ts D' σ W.h
def DSt (X:Cx) (fr:Fr) (st:Stmt) (t:DTS):Prop:=∃ ts,PS X st ts∧LiS X.K (Zx X) fr ts t
def DSs (X:Cx) (fr:Fr) (sts:List Stmt) (t:DTS):Prop:=∃ ts,PSs X sts ts∧LiS X.K (Zx X) fr ts t
def l5:DTS:=fun D ρ=>D.nx ρ
def jH (t u:DTS):DTS:=fun D ρ=>t { D with nx:=u D } ρ
def l4 (te:DTE):DTS:=fun D ρ=>te ρ D.rt
def e8 (i:Nat):DTS:=fun D ρ=>∃ ds,ρ[i]? = some (.own ds)∧D.rt (.lst ds)
def cB (i:Nat) (te:DTE):DTS:=fun D ρ=>te ρ fun d=>D.nx (ρ.set i (.some d))
def eY (i:Nat) (te:DTE):DTS:=fun D ρ=>te ρ fun d=>∃ ds,d=.lst ds∧D.nx (ρ.set i (.own ds))
def gZ (c:DTT) (t u:DTS):DTS:=fun D ρ=>c ρ fun b=>if b=true then t D ρ else u D ρ
def dE (te:DTE):DTS:=fun D ρ=>te ρ fun _=>D.nx ρ
def gT:DTS:=fun _ _=>False
def cy (i j:Nat) (te:DTE):DTS:=fun D ρ=>te ρ fun d=>∃ a b,d=.tup [a,b]∧D.nx ((ρ.set i (.some a)).set j (.some b))
def dA (j:Nat) (te:DTE) (tb:DTS):DTS:=fun D ρ=>te ρ fun d=>∃ (ds:List Dt) (Pv:Nat→DS→Prop),xk d=some ds∧Pv 0 ρ∧
 (∀ i e ρ',ds[i]? = some e→Pv i ρ'→tb { D with nx:=Pv (i + 1),ct:=Pv (i + 1),bk:=D.nx } (ρ'.set j (.some e)))∧∀ ρ',Pv ds.length ρ'→D.nx ρ'
def dz (j:Nat) (te:DTE) (tb:DTS):DTS:=fun D ρ=>te ρ fun d=>∃ (n:Int) (Pv:Nat→DS→Prop),d=.int n∧-(2 ^ 62) ≤ n∧n < 2 ^ 62∧Pv 0 ρ∧
 (∀ (i:Nat) ρ',i < n.toNat→Pv i ρ'→tb { D with nx:=Pv (i + 1),ct:=Pv (i + 1),bk:=D.nx } (ρ'.set j (.some (.int i))))∧∀ ρ',Pv n.toNat ρ'→D.nx ρ'
def g6 (j:Nat) (ta:DTA) (tb:DTS):DTS:=fun D ρ=>ta ρ fun ds=>∃ (m n:Int) (Pv:Nat→DS→Prop),ds=[.int m,.int n]∧-(2 ^ 62) ≤ m∧m < 2 ^ 62∧-(2 ^ 62) ≤ n∧n < 2 ^ 62∧Pv 0 ρ∧
 (∀ (i:Nat) ρ',i < (n - m).toNat→Pv i ρ'→tb { D with nx:=Pv (i + 1),ct:=Pv (i + 1),bk:=D.nx } (ρ'.set j (.some (.int (m + i)))))∧∀ ρ',Pv (n - m).toNat ρ'→D.nx ρ'
def ol (c:DTT) (tb:DTS):DTS:=fun D ρ=>∃ Pv:Nat→DS→Prop,(∃ m,Pv m ρ)∧∀ m ρ',Pv m ρ'→
 c ρ' fun b=>if b=true then tb { D with nx:=fun ρ2=>∃ m',m' < m∧Pv m' ρ2,ct:=fun ρ2=>∃ m',m' < m∧Pv m' ρ2,bk:=D.nx } ρ' else D.nx ρ'
section
variable {X:Cx} {fr:Fr} {st:Stmt} {yq:List Stmt} {t u:DTS} {e:Expr} {te:DTE} {pos p0 p1 p2:Pos}
theorem zk:DSs X fr [] l5:=⟨_,kW,fun W0 G ρ σ W D D' a s h=>s.nx ρ σ W a h⟩
theorem zb (h1:DSt X fr st t) (h2:DSs X fr yq u):DSs X fr (st :: yq) (jH t u):=by
 obtain ⟨ts,p1,l1⟩:=h1
 obtain ⟨us,p2,l2⟩:=h2
 exact ⟨_,qv p1 p2,fun W0 G ρ σ W D D' a s h=>l1 W0 G ρ σ W { D with nx:=u D } { D' with nx:=us D' } a ⟨fun ρ' σ' W' a' q=>l2 W0 G ρ' σ' W' D D' a' s q,s.tl,s.bk,s.ct⟩ h⟩
theorem ze (h:DSt X fr st t):DSs X fr [st] t:=let ⟨_,p,l⟩:=h; ⟨_,xE p,l⟩
def cI (i:Nat) (t:DTS):DTS:=fun D ρ=>∃ ds,ρ[i]? = some (.own ds)∧t D (ρ.set i (.some (.lst ds)))
theorem rO (i:Nat) (h:DSs X fr yq t):DSs X fr yq (cI i t):=by
 obtain ⟨ts,p,l⟩:=h
 refine ⟨ts,p,fun W0 G ρ σ W D D' a s h=>?_⟩
 obtain ⟨ds,e,q⟩:=h
 obtain ⟨b,xs,e1,e2,e3,e4,e5⟩:=a.rl.ow i ds e
 exact l W0 G _ σ (W.frz b _ e2) D D' (a.frz e e1 e2 e3 e4 e5) s q
theorem zh (h:DE X e te):DSt X .d (.Return (some e) pos) (l4 te):=by
 obtain ⟨tt,p,l⟩:=h
 exact ⟨_,rp p,fun W0 G ρ σ W D D' a s h=>l ρ σ W _ a.rl h _ fun d v W1 s1 i1 q1=>s.tl d v W1 (a.le.trans s1) i1 q1⟩
theorem vf (h:DF X e te) (hf:fr=.d∨fr=.l:=by first | exact .inl rfl | exact .inr rfl):DSt X fr (.Return (some e) pos) (l4 te):=by
 obtain ⟨tt,p,l⟩:=h
 exact ⟨_,rp p,fun W0 G ρ σ W D D' a s h=>l ρ σ W _ a.rl h _ fun es q xs W1 s1 h0 h1 h2 i1 q1=>s.rf hf es q xs W1 (a.le.trans s1) (a.le.h.free h0) h1 h2 i1 q1⟩
theorem uB (i:Nat) {x:Str} (hN:X.N[i]? = some x:=by rfl) (hv:Vis X.env.scope x:=by first | exact Or.inl rfl | exact Or.inr (Or.inl rfl) | exact Or.inr (Or.inr rfl)) (hd:(x == ("__debug__":Str))=false:=by decide)
  (hcd:(x == ("__classdict__":Str))=false:=by decide) (hf:fr=.d∨fr=.l:=by first | exact .inl rfl | exact .inr rfl):DSt X fr (.Return (some (.Name x p0)) pos) (e8 i):=by
 refine ⟨_,rp (y3 hN hv hd hcd),fun W0 G ρ σ W D D' a s h=>?_⟩
 obtain ⟨ds,e,q⟩:=h
 obtain ⟨b,xs,e1,e2,e3,e4,e5⟩:=a.rl.ow i ds e
 exact ⟨.ref b,e1,s.rf hf ds b xs W a.le e4 e2 e3 e5 q⟩
theorem jE (h:DE X e te) (hs:swapsWith e none pos.line X.env=pure false:=by rfl):DSt X fr (.Expr e pos) (dE te):=by
 obtain ⟨tt,p,l⟩:=h
 exact ⟨_,ux p hs,fun W0 G ρ σ W D D' a s h=>l ρ σ W _ a.rl h _ fun d v W1 s1 i1 q1=>s.nx ρ σ W1 (a.step s1) q1⟩
theorem zl {i:Nat} {x:Str} {pos':Pos} (hN:X.N.Nodup) (hi:X.N[i]? = some x) (hx:Loc X.env.scope x) (h:DE X e te) (hs:swapsWith e (some (.Name x pos')) pos.line X.env=pure false:=by rfl) (hf:X.fn x=true∨X.env.scope.names.lookup x=some .local:=by first | exact .inl rfl | exact .inr rfl | assumption):
  DSt X fr (.Assign [.Name x pos'] e pos) (cB i te):=by
 obtain ⟨tt,p,l⟩:=h
 exact ⟨_,mQ hN hi hx p hs hf,fun W0 G ρ σ W D D' a s h=>l ρ σ W _ a.rl h _ fun d v W1 s1 i1 q1=>s.nx _ _ W1 ((a.step s1).set i i1) q1⟩
theorem xK {i:Nat} {x:Str} {pos':Pos} (hN:X.N.Nodup) (hi:X.N[i]? = some x) (hx:Loc X.env.scope x) (h:DF X e te) (hs:swapsWith e (some (.Name x pos')) pos.line X.env=pure false:=by rfl) (hf:X.fn x=true∨X.env.scope.names.lookup x=some .local:=by first | exact .inl rfl | exact .inr rfl | assumption):
  DSt X fr (.Assign [.Name x pos'] e pos) (eY i te):=by
 obtain ⟨tt,p,l⟩:=h
 refine ⟨_,mQ hN hi hx p hs hf,fun W0 G ρ σ W D D' a s h=>l ρ σ W _ a.rl h _ fun es q xs W1 s1 h0 h1 h2 i1 ⟨ds,ed,q1⟩=>?_⟩
 cases ed
 exact s.nx _ _ W1 (a.own s1 i h0 h1 h2 i1) q1
theorem zx {c:Expr} {a b:List Stmt} {tc:DTT} (hc:DT X c tc) (ha:DSs X fr a t) (hb:DSs X fr b u):DSt X fr (.If c a b pos) (gZ tc t u):=by
 obtain ⟨t0,p0,l0⟩:=hc
 obtain ⟨t1,p1,l1⟩:=ha
 obtain ⟨t2,p2,l2⟩:=hb
 refine ⟨_,fM p0 p1 p2,fun W0 G ρ σ W D D' a s h=>l0 ρ σ W _ a.rl h _ fun k W1 s1 q1=>?_⟩
 cases k with
 | true=>exact l1 W0 G ρ σ W1 D D' (a.step s1) s q1
 | false=>exact l2 W0 G ρ σ W1 D D' (a.step s1) s q1
theorem tD:DSt X fr st gT:=⟨_,mS,fun _ _ _ _ _ _ _ _ _ h=>h.elim⟩
theorem lP {i j:Nat} {x y:Str} {px py pt:Pos} {kt:Nat} (hc:X.calm=true) (hN:X.N.Nodup) (hi:X.N[i]? = some x) (hj:X.N[j]? = some y) (hx:Loc X.env.scope x) (hy:Loc X.env.scope y) (h:DE X e te)
  (hf:X.fn x=true∨X.env.scope.names.lookup x=some .local:=by first | exact .inl rfl | exact .inr rfl | assumption) (hf2:X.fn y=true∨X.env.scope.names.lookup y=some .local:=by first | exact .inl rfl | exact .inr rfl | assumption)
  (hs:swapsWithSole [.Tuple [.Name x px,.Name y py] kt pt] e pos.line X.env=pure false:=by rfl) (hw:swappedStores [.Tuple [.Name x px,.Name y py] kt pt] e X.env=pure none:=by rfl):
  DSt X fr (.Assign [.Tuple [.Name x px,.Name y py] kt pt] e pos) (cy i j te):=by
 obtain ⟨tt,p,l⟩:=h
 refine ⟨_,pL p (uV hc (ye (zS hN hi hx hf) (ye (zS hN hj hy hf2) wU))) hs hw,fun W0 G ρ σ W D D' at_ s h=>l ρ σ W _ at_.rl h _ fun d v W1 s1 i1 ⟨a,b,ed,q1⟩=>?_⟩
 subst ed
 obtain ⟨q,xs,rfl,hq,ha⟩:=is_tup.mp i1
 obtain ⟨v1,v2,rfl,h1,h2⟩:=ha.two
 refine ⟨q,_,rfl,.of (W1.sub _ _ hq),rfl,v1,[v2],rfl,v2,[],rfl,rfl,?_⟩
 exact s.nx _ _ W1 (((at_.step s1).set i h1).set j h2) q1
def InL (K:PySem.W.Frag) (Z:Hp) (W0 W1:Vw) (Pv:DS→Prop) (σ:St) (H:Hp):Prop:=∃ (ρ:DS) (W:Vw),W.h=H∧At K Z W0 W1.g W ρ σ∧Pv ρ
theorem yB {K:PySem.W.Frag} {W0 W1:Vw} {G:Hp} {D:DEnds} {D':Ends} {Pv:DS→Prop} (s:Sim K Z fr W0 G D D') (hg:Same G W1.g):
  Sim K Z fr W0 W1.g { D with nx:=Pv,ct:=Pv,bk:=D.nx } { D' with nx:=InL K Z W0 W1 Pv,ct:=InL K Z W0 W1 Pv,bk:=D'.nx }:=
 ⟨fun ρ3 σ3 W3 a3 q3=>⟨ρ3,W3,rfl,a3,q3⟩,s.tl,fun ρ3 σ3 W3 a3 q3=>s.nx ρ3 σ3 W3 (a3.weak hg) q3,fun ρ3 σ3 W3 a3 q3=>⟨ρ3,W3,rfl,a3,q3⟩⟩
theorem At.now {K:PySem.W.Frag} {W0:Vw} {G:Hp} {W:Vw} {ρ:DS} {σ:St} (a:At K Z W0 G W ρ σ):At K Z W0 W.g W ρ σ:=⟨a.le,Same.refl _,a.rl⟩
theorem gM {j:Nat} {x:Str} {iter:Expr} {body:List Stmt} {tb:DTS} {px:Pos} (hc:X.calm=true) (hN:X.N.Nodup) (hi:X.N[j]? = some x) (hx:Loc X.env.scope x) (hp:PassesOwn (model X.prog X.w) X.A X.env X.xe)
  (h:DE X iter te) (hb:DSs X fr body tb) (hs:∀ x,foldedSetIterable iter X.env x=pure x:=by intro _; rfl)
  (hf:X.fn x=true∨X.env.scope.names.lookup x=some .local:=by first | exact .inl rfl | exact .inr rfl | assumption):DSt X fr (.For (.Name x px) iter body [] pos) (dA j te tb):=by
 obtain ⟨tt,p,l⟩:=h
 obtain ⟨tbs,p2,l2⟩:=hb
 refine ⟨_,wD hp hc (oH p) (zS hN hi hx hf) p2 hs,fun W0 G ρ σ W D D' at_ s h=>l ρ σ W _ at_.rl h _ fun d v W1 s1 i1 ⟨ds,Pv,el,h0,ht,hd⟩=>?_⟩
 have hg:Same G W1.g:=at_.gs.trans s1.g
 have hq:∃ a xs,v=.ref a∧(∀ W2:Vw,Same W1.g W2.g→SqL X.K W2.h a xs)∧AllIs X.K W1.g ds xs:=by
  cases d with
  | lst es=>
   obtain rfl:es=ds:=Option.some.inj el
   obtain ⟨a,xs,rfl,h1,h2⟩:=is_lst.mp i1
   exact ⟨a,xs,rfl,fun W2 s2=>.of (W2.sub _ _ (s2 _ _ h1)),h2⟩
  | scr ns=>
   obtain rfl:ns.map Dt.int=ds:=Option.some.inj el
   obtain ⟨a,rfl,h1⟩:=is_scr.mp i1
   exact ⟨a,_,rfl,fun W2 s2=>W2.sub.seq (s2.seq h1),AllIs.ints⟩
  | _=>cases el
 obtain ⟨a,xs,rfl,hq,ha⟩:=hq
 refine ⟨a,rfl,⟨xs,hq W1 (Same.refl _)⟩,lE (K:=X.K) (a:=a) (xs:=xs) (fun i=>InL X.K (Zx X) W0 W1 (Pv i)) ⟨ρ,W1,rfl,(at_.step s1).now,h0⟩ (fun i σ' H' _ ⟨_,W2,e2,a2,_⟩=>e2 ▸ hq W2 a2.gs) ?_ ?_⟩
 ·rintro i x σ' _ hi ⟨ρ',W2,rfl,a2,hp2⟩
  obtain ⟨e,he,ie⟩:=ha.get' hi
  exact l2 W0 W1.g _ _ W2 { D with nx:=Pv (i + 1),ct:=Pv (i + 1),bk:=D.nx } _ (a2.set j (Is.mono0 a2.gs ie)) (yB s hg) (ht i e ρ' he hp2)
 ·rintro σ' _ ⟨ρ',W2,rfl,a2,hp2⟩
  exact s.nx ρ' σ' W2 (a2.weak hg) (hd ρ' (by rw [ha.length]; exact hp2))
theorem vg {j:Nat} {x:Str} {a:Expr} {body:List Stmt} {tb:DTS} {px p0 pos1:Pos} (hc:X.calm=true) (hN:X.N.Nodup) (hi:X.N[j]? = some x) (hx:Loc X.env.scope x) (hp:PassesOwn (model X.prog X.w) X.A X.env X.xe)
  (hg:Gl X "range") (hm:X.mg "range"=none) (h:DE X a te) (hb:DSs X fr body tb) (hs:∀ x,foldedSetIterable (.Call (.Name "range" p0) [a] [] pos1) X.env x=pure x:=by intro _; rfl)
  (hst:starEach [a] X.env=[(false,eval a X.env)]:=by rfl) (hst2:starEach [a] X.env=(false,eval a X.env) :: starEach [] X.env:=by rfl)
  (hf:X.fn x=true∨X.env.scope.names.lookup x=some .local:=by first | exact .inl rfl | exact .inr rfl | assumption):DSt X fr (.For (.Name x px) (.Call (.Name "range" p0) [a] [] pos1) body [] pos) (dz j te tb):=by
 obtain ⟨tt,p,l⟩:=h
 obtain ⟨tbs,p2,l2⟩:=hb
 refine ⟨_,wD hp hc (nJ hg hm (zL p yF hst2) hst) (zS hN hi hx hf) p2 hs,fun W0 G ρ σ W D D' at_ s h=>l ρ σ W _ at_.rl h _ fun d v W1 s1 i1 ⟨n,Pv,ed,n1,n2,h0,ht,hd⟩=>?_⟩
 subst ed
 have hg:Same G W1.g:=at_.gs.trans s1.g
 refine ⟨n,by rw [is_int.mp i1],n1,n2,sJ (lo:=0) (n:=n.toNat) (fun i=>InL X.K (Zx X) W0 W1 (Pv i)) ⟨ρ,W1,rfl,(at_.step s1).now,h0⟩ ?_ ?_⟩
 ·rintro i σ' _ hi ⟨ρ',W2,rfl,a2,hp2⟩
  have ez:(0:Int) + (i:Int)=(i:Int):=Int.zero_add _
  rw [ez]
  exact l2 W0 W1.g _ _ W2 { D with nx:=Pv (i + 1),ct:=Pv (i + 1),bk:=D.nx } _ (a2.set j (is_int.mpr rfl)) (yB s hg) (ht i ρ' hi hp2)
 ·rintro σ' _ ⟨ρ',W2,rfl,a2,hp2⟩
  exact s.nx ρ' σ' W2 (a2.weak hg) (hd ρ' hp2)
theorem tz {c:Expr} {body:List Stmt} {tc:DTT} {tb:DTS} (hp:PassesOwn (model X.prog X.w) X.A X.env X.xe) (hc:DT X c tc) (hb:DSs X fr body tb):DSt X fr (.While c body [] pos) (ol tc tb):=by
 obtain ⟨t0,p0,l0⟩:=hc
 obtain ⟨tbs,p2,l2⟩:=hb
 refine ⟨_,mP hp p0 p2,fun W0 G ρ σ W D D' at_ s h=>?_⟩
 obtain ⟨Pv,⟨m0,h0⟩,ht⟩:=h
 refine ⟨fun m=>InL X.K (Zx X) W0 W (Pv m),⟨m0,ρ,W,rfl,at_.now,h0⟩,?_⟩
 rintro m σ' _ ⟨ρ',W2,rfl,a2,hp2⟩
 refine l0 ρ' σ' W2 _ a2.rl (ht m ρ' hp2) _ fun b W3 s3 q3=>?_
 have a3:=a2.step s3
 cases b with
 | true=>
  refine ⟨InL X.K (Zx X) W0 W (fun ρ2=>∃ m',m' < m∧Pv m' ρ2),fun σ4 H4 ⟨ρ4,W4,e4,a4,m',hm,p4⟩=>⟨m',hm,ρ4,W4,e4,a4,p4⟩,?_⟩
  exact l2 W0 W.g _ _ W3 { D with nx:=fun ρ2=>∃ m',m' < m∧Pv m' ρ2,ct:=fun ρ2=>∃ m',m' < m∧Pv m' ρ2,bk:=D.nx } _ a3 (yB s at_.gs) q3
 | false=>exact s.nx ρ' σ' W3 (a3.weak at_.gs) q3
variable {i:Nat} {x:Str}
def dG (i:Nat) (te:DTE):DTS:=fun D ρ=>∃ ds,ρ[i]? = some (.own ds)∧te ρ fun d=>ds.length ≤ 100000∧D.nx (ρ.set i (.own (ds ++ [d])))
theorem wI (i:Nat) (h:DE X e te) (hN:X.N[i]? = some x:=by rfl) (hv:Vis X.env.scope x:=by first | exact Or.inl rfl | exact Or.inr (Or.inl rfl) | exact Or.inr (Or.inr rfl)) (hd:(x == ("__debug__":Str))=false:=by decide)
  (hcd:(x == ("__classdict__":Str))=false:=by decide) (hst:starEach [e] X.env=(false,eval e X.env) :: starEach [] X.env:=by rfl) (hpl:(backTo p2 (starEach [] X.env)).any (·.1)=false:=by rfl)
  (hfew:((backTo p2 (starEach [e] X.env)).all (fun x=>!x.1) && (backToKw p2 (keywordEach [] X.env)).all (fun x=>x.1.isSome)
   && decide ([e].length + ([]:List Keyword).length + (if ([]:List Keyword).isEmpty then 0 else 1) < 30))=true:=by rfl)
  (hbase:attributeBase (.Name x p0) "append" X.env (eval (.Name x p0) X.env)=eval (.Name x p0) X.env:=by rfl) (hline:(p1.endLine == p2.line)=true:=by rfl)
  (hs:swapsWith (.Call (.Attribute (.Name x p0) "append" p1) [e] [] p2) none pos.line X.env=pure false:=by rfl):
  DSt X fr (.Expr (.Call (.Attribute (.Name x p0) "append" p1) [e] [] p2) pos) (dG i te):=by
 obtain ⟨tt,p,l⟩:=h
 refine ⟨_,ux (fP PySem.F.plainAttrs_list PySem.F.slot_list_append PySem.F.type_list_append sH (y3 hN hv hd hcd) (zL p yF hst) hbase hfew hline hst hpl) hs,fun W0 G ρ σ W D D' at_ s h=>?_⟩
 obtain ⟨ds,ei,h⟩:=h
 obtain ⟨b,xs,e1,e2,e3,e4,e5⟩:=at_.rl.ow i ds ei
 refine ⟨.ref b,e1,.inl ⟨rfl,xs,.of e2⟩,l ρ σ W _ at_.rl h _ fun d v W1 s1 i1 ⟨hl,q1⟩=>?_⟩
 have a1:=at_.step s1
 have hg1:W1.g b=none:=s1.n b (by rw [e2]; intro z; cases z) e3
 refine ⟨b,xs,v,rfl,rfl,s1.h _ _ e2,by rw [← e5.length]; exact Nat.lt_of_le_of_lt hl (by decide),?_⟩
 exact s.nx _ _ _ (a1.put ei e1 hg1 e4 ((e5.mono s1).append (allIs_cons.mpr ⟨v,[],rfl,i1,allIs_nil.mpr rfl⟩))) q1
theorem AllIs.dropLast {G:Hp} {ds:List Dt} {xs:List V} (h:AllIs K G ds xs):AllIs K G ds.dropLast xs.dropLast:=by
 rw [List.dropLast_eq_take,List.dropLast_eq_take,h.length]
 exact h.take _
theorem AllIs.reverse {G:Hp}:∀ {ds:List Dt} {xs:List V},AllIs K G ds xs→AllIs K G ds.reverse xs.reverse
 | [],_,h=>by rw [allIs_nil.mp h]; exact allIs_nil.mpr rfl
 | d :: ds,_,h=>by
  obtain ⟨x,r,rfl,h1,h2⟩:=allIs_cons.mp h
  rw [List.reverse_cons,List.reverse_cons]
  exact (AllIs.reverse h2).append (allIs_cons.mpr ⟨x,[],rfl,h1,allIs_nil.mpr rfl⟩)
theorem AllIs.set {G:Hp}:∀ {ds:List Dt} {xs:List V} {d:Dt} {v:V} (j:Nat),AllIs K G ds xs→Is K G d v→AllIs K G (ds.set j d) (xs.set j v)
 | [],_,_,_,_,h,_=>by rw [allIs_nil.mp h]; exact allIs_nil.mpr rfl
 | d :: ds,_,_,_,0,h,i=>by
  obtain ⟨x,r,rfl,h1,h2⟩:=allIs_cons.mp h
  exact allIs_cons.mpr ⟨_,_,rfl,i,h2⟩
 | d :: ds,_,_,_,j + 1,h,i=>by
  obtain ⟨x,r,rfl,h1,h2⟩:=allIs_cons.mp h
  exact allIs_cons.mpr ⟨_,_,rfl,h1,AllIs.set j h2 i⟩
def gR (i:Nat):DTS:=fun D ρ=>∃ ds,ρ[i]? = some (.own ds)∧ds.isEmpty=false∧D.nx (ρ.set i (.own ds.dropLast))
theorem lQ (i:Nat) (hN:X.N[i]? = some x:=by rfl) (hv:Vis X.env.scope x:=by first | exact Or.inl rfl | exact Or.inr (Or.inl rfl) | exact Or.inr (Or.inr rfl)) (hd:(x == ("__debug__":Str))=false:=by decide)
  (hcd:(x == ("__classdict__":Str))=false:=by decide)
  (hbase:attributeBase (.Name x p0) "pop" X.env (eval (.Name x p0) X.env)=eval (.Name x p0) X.env:=by rfl) (hline:(p1.endLine == p2.line)=true:=by rfl)
  (hs:swapsWith (.Call (.Attribute (.Name x p0) "pop" p1) [] [] p2) none pos.line X.env=pure false:=by rfl):
  DSt X fr (.Expr (.Call (.Attribute (.Name x p0) "pop" p1) [] [] p2) pos) (gR i):=by
 refine ⟨_,ux (pM PySem.F.plainAttrs_list PySem.F.slot_list_pop PySem.F.type_list_pop gr (y3 hN hv hd hcd) hbase hline) hs,fun W0 G ρ σ W D D' at_ s h=>?_⟩
 obtain ⟨ds,ei,hne,q1⟩:=h
 obtain ⟨b,xs,e1,e2,e3,e4,e5⟩:=at_.rl.ow i ds ei
 have hx:xs ≠ []:=fun z=>by
  have:=e5.length
  rw [z] at this
  rw [List.length_eq_zero_iff.mp this] at hne
  cases hne
 have hlt:xs.length - 1 < xs.length:=by
  have:=List.length_pos_iff.mpr hx
  omega
 exact ⟨.ref b,e1,.inl ⟨rfl,xs,.of e2⟩,b,xs,xs[xs.length - 1],rfl,rfl,e2,List.getElem?_eq_getElem hlt,s.nx _ _ _ (at_.put ei e1 e3 e4 e5.dropLast) q1⟩
def cC (i:Nat):DTS:=fun D ρ=>∃ ds,ρ[i]? = some (.own ds)∧D.nx (ρ.set i (.own ds.reverse))
theorem gK (i:Nat) (hN:X.N[i]? = some x:=by rfl) (hv:Vis X.env.scope x:=by first | exact Or.inl rfl | exact Or.inr (Or.inl rfl) | exact Or.inr (Or.inr rfl)) (hd:(x == ("__debug__":Str))=false:=by decide)
  (hcd:(x == ("__classdict__":Str))=false:=by decide)
  (hbase:attributeBase (.Name x p0) "reverse" X.env (eval (.Name x p0) X.env)=eval (.Name x p0) X.env:=by rfl) (hline:(p1.endLine == p2.line)=true:=by rfl)
  (hs:swapsWith (.Call (.Attribute (.Name x p0) "reverse" p1) [] [] p2) none pos.line X.env=pure false:=by rfl):
  DSt X fr (.Expr (.Call (.Attribute (.Name x p0) "reverse" p1) [] [] p2) pos) (cC i):=by
 refine ⟨_,ux (pM PySem.F.plainAttrs_list PySem.F.slot_list_reverse PySem.F.type_list_reverse pV (y3 hN hv hd hcd) hbase hline) hs,fun W0 G ρ σ W D D' at_ s h=>?_⟩
 obtain ⟨ds,ei,q1⟩:=h
 obtain ⟨b,xs,e1,e2,e3,e4,e5⟩:=at_.rl.ow i ds ei
 exact ⟨.ref b,e1,.inl ⟨rfl,xs,.of e2⟩,b,xs,rfl,rfl,e2,s.nx _ _ _ (at_.put ei e1 e3 e4 e5.reverse) q1⟩
def cD (i:Nat) (ti te:DTE):DTS:=fun D ρ=>∃ ds,ρ[i]? = some (.own ds)∧te ρ fun d=>ti ρ fun z=>∃ n j,z=.int n∧ixN ds.length n=some j∧D.nx (ρ.set i (.own (ds.set j d)))
theorem gL (i:Nat) {k:Expr} {ti:DTE} (hk:DE X k ti) (h:DE X e te) (hN:X.N[i]? = some x:=by rfl) (hv:Vis X.env.scope x:=by first | exact Or.inl rfl | exact Or.inr (Or.inl rfl) | exact Or.inr (Or.inr rfl)) (hd:(x == ("__debug__":Str))=false:=by decide)
  (hcd:(x == ("__classdict__":Str))=false:=by decide)
  (ha:∀ v,assign (.Subscript (.Name x p0) k p1) X.env v=(do
   let ov ← holding [v] (eval (.Name x p0) X.env)
   let iv ← holding [v,ov] (eval k X.env)
   standAt p1
   holding [v,ov,iv] (setItem ov iv v)
   release [v,ov,iv] []):=by intro _; rfl)
  (hs:swapsWithSole [.Subscript (.Name x p0) k p1] e pos.line X.env=pure false:=by rfl) (hw:swappedStores [.Subscript (.Name x p0) k p1] e X.env=pure none:=by rfl)
  (h1:(assignEach [.Subscript (.Name x p0) k p1] X.env).map (·.2)=[assign (.Subscript (.Name x p0) k p1) X.env]:=by rfl):
  DSt X fr (.Assign [.Subscript (.Name x p0) k p1] e pos) (cD i ti te):=by
 obtain ⟨tt,p,l⟩:=h
 obtain ⟨tk,pk,lk⟩:=hk
 refine ⟨_,pL p (hU (y3 hN hv hd hcd) pk mB ha) hs hw h1,fun W0 G ρ σ W D D' at_ s h=>?_⟩
 obtain ⟨ds,ei,h⟩:=h
 refine l ρ σ W _ at_.rl h _ fun d v W1 s1 i1 q1=>?_
 have a1:=at_.step s1
 obtain ⟨b,xs,e1,e2,e3,e4,e5⟩:=a1.rl.ow i ds ei
 refine ⟨.ref b,e1,lk ρ σ W1 _ a1.rl q1 _ fun z u W2 s2 i2 ⟨n,j,ez,ej,q2⟩=>?_⟩
 subst ez
 have a2:=a1.step s2
 have hg2:W2.g b=none:=s2.n b (by rw [e2]; intro z; cases z) e3
 refine ⟨b,xs,n,j,rfl,is_int.mp i2,s2.h _ _ e2,by rw [← e5.length]; exact ej,?_⟩
 exact s.nx _ _ _ (a2.put ei e1 hg2 e4 ((e5.mono s2).set j (i1.mono s2))) q2
end
section
variable {P:Program} {w:World} {K:PySem.W.Frag} {mg:Str→Option Value} {base:Heap}
theorem wj {W:Vw} {N:List Str} {ds:List Dt} {vs:List V} (ia:AllIs K W.g ds vs) (hz:Z=W.h):At K Z W W.g W (yi N.length ds) (start N vs):=⟨Le.refl W,Same.refl _,Rl.start ia (hz ▸ Same.refl _)⟩
theorem okD {x qual:Str} {st:Stmt} {f:Addr} {fd:FuncData} {N ps:List Str} {k:Nat} {S:DSp} (F:Fun K x qual st f fd) (sc:zf N ps (defScope st)) (len:∀ ds Q,S ds Q→ds.length=ps.length)
  (hbody:∀ (cdv:Value) (A:Around) (outer:List Env) (s:Shared) (H:Hp) (E:XK),Room k (A.deeper (envOfC qual (defScope st) s.heap.objs.size f cdv))→∀ (ds:List Dt) (Q:Dt→Prop),S ds Q→
   ∃ t,DSs (yu CX0 P w K mg base N qual (defScope st) f cdv A outer s H E).nox .d (defBody st) t∧t { nx:=fun _=>Q .non,rt:=Q } (yi N.length ds)):FnOk P w K mg base CX0 (k + 1) f fd ps (zp K S):=by
 refine F.ok sc (fun vs H Q E h=>?_) (fun cdv A outer s H vs Q E hr h=>?_)
 ·obtain ⟨W,ds,Qd,_,ia,hS,_⟩:=h
  rw [← ia.length]
  exact len ds Qd hS
 obtain ⟨W,ds,Qd,rfl,ia,hS,kk⟩:=h
 obtain ⟨t,⟨ts,p,l⟩,ht⟩:=hbody cdv A outer s W.h E hr ds Qd hS
 refine ⟨ts,p,l W W.g (yi N.length ds) (start N vs) W { nx:=fun _=>Qd .non,rt:=Qd } _ (wj ia (uL (Nat.succ_ne_self _))) ⟨fun ρ σ W' a q=>kk .non .non W' a.le (is_non.mpr rfl) q,fun d v W' s' i' q=>kk d v W' s' i' q,fun _ _ _ _ q=>q.elim,fun _ _ _ _ q=>q.elim⟩ ht⟩
theorem okF {x qual:Str} {st:Stmt} {f:Addr} {fd:FuncData} {N ps:List Str} {k:Nat} {S:DSp} (F:Fun K x qual st f fd) (sc:zf N ps (defScope st)) (len:∀ ds Q,S ds Q→ds.length=ps.length)
  (hbody:∀ (cdv:Value) (A:Around) (outer:List Env) (s:Shared) (H:Hp) (E:XK),Room k (A.deeper (envOfC qual (defScope st) s.heap.objs.size f cdv))→∀ (ds:List Dt) (Q:Dt→Prop),S ds Q→
   ∃ t,DSs (yu CX0 P w K mg base N qual (defScope st) f cdv A outer s H E).nox .l (defBody st) t∧t { nx:=fun _=>False,rt:=Q } (yi N.length ds)):FnOk P w K mg base CX0 (k + 1) f fd ps (yT K S):=by
 refine F.ok sc (fun vs H Q E h=>?_) (fun cdv A outer s H vs Q E hr h=>?_)
 ·obtain ⟨W,ds,Qd,_,ia,hS,_⟩:=h
  rw [← ia.length]
  exact len ds Qd hS
 obtain ⟨W,ds,Qd,rfl,ia,hS,kk⟩:=h
 obtain ⟨t,⟨ts,p,l⟩,ht⟩:=hbody cdv A outer s W.h E hr ds Qd hS
 exact ⟨ts,p,l W W.g (yi N.length ds) (start N vs) W { nx:=fun _=>False,rt:=Qd } _ (wj ia (uL (Nat.succ_ne_self _))) ⟨fun ρ σ W' a q=>q.elim,fun d v W' s' ⟨es,p,xs,e1,e2,e3,e4,e5,e6⟩ q=>by subst e1; subst e2; exact kk es p xs W' s' e3 e4 e5 e6 q,fun _ _ _ _ q=>q.elim,fun _ _ _ _ q=>q.elim⟩ ht⟩
theorem DOk.mk' {x qual:Str} {st:Stmt} {f:Addr} {fd:FuncData} {ps:List Str} {n:Nat} {S:DSp} (F:Fun K x qual st f fd) (hm:mg x=some (.ref f)) (hb:Binds K fd ps []) (h:FnOk P w K mg base CX0 n f fd ps (zp K S)):DOk P w K mg base n x S:=
 ⟨f,fd,ps,hm,F.kp,hb,h⟩
theorem FOk.mk' {x qual:Str} {st:Stmt} {f:Addr} {fd:FuncData} {ps:List Str} {n:Nat} {S:DSp} (F:Fun K x qual st f fd) (hm:mg x=some (.ref f)) (hb:Binds K fd ps []) (h:FnOk P w K mg base CX0 n f fd ps (yT K S)):FOk P w K mg base n x S:=
 ⟨f,fd,ps,hm,F.kp,hb,h⟩
theorem DOk.mono {x:Str} {m n:Nat} {S:DSp} (h:DOk P w K mg base m x S) (hl:m ≤ n):DOk P w K mg base n x S:=
 let ⟨f,fd,ps,h1,h2,h3,h4⟩:=h.ex; ⟨f,fd,ps,h1,h2,h3,h4.mono hl⟩
theorem FOk.mono {x:Str} {m n:Nat} {S:DSp} (h:FOk P w K mg base m x S) (hl:m ≤ n):FOk P w K mg base n x S:=
 let ⟨f,fd,ps,h1,h2,h3,h4⟩:=h.ex; ⟨f,fd,ps,h1,h2,h3,h4.mono hl⟩
theorem MOk.mono {C:Addr} {x:Str} {m n:Nat} {S:DSp} (h:MOk P w K mg base m C x S) (hl:m ≤ n):MOk P w K mg base n C x S:=
 ⟨h.cl,let ⟨f,fd,ps,h1,h3,h4⟩:=h.ex; ⟨f,fd,ps,h1,h3,h4.mono hl⟩⟩
theorem FMOk.mono {C:Addr} {x:Str} {m n:Nat} {S:DSp} (h:FMOk P w K mg base m C x S) (hl:m ≤ n):FMOk P w K mg base n C x S:=
 ⟨h.cl,let ⟨f,fd,ps,h1,h3,h4⟩:=h.ex; ⟨f,fd,ps,h1,h3,h4.mono hl⟩⟩
theorem MOk.imp {C:Addr} {x:Str} {n:Nat} {S S':DSp} (h:MOk P w K mg base n C x S) (hi:∀ ds Q,S' ds Q→S ds Q):MOk P w K mg base n C x S':=
 ⟨h.cl,let ⟨f,fd,ps,h1,h3,h4⟩:=h.ex; ⟨f,fd,ps,h1,h3,h4.imp fun vs H Q E ⟨W,ds,Qd,a,b,c,d⟩=>⟨W,ds,Qd,a,b,hi _ _ c,d⟩⟩⟩
theorem FMOk.imp {C:Addr} {x:Str} {n:Nat} {S S':DSp} (h:FMOk P w K mg base n C x S) (hi:∀ ds Q,S' ds Q→S ds Q):FMOk P w K mg base n C x S':=
 ⟨h.cl,let ⟨f,fd,ps,h1,h3,h4⟩:=h.ex; ⟨f,fd,ps,h1,h3,h4.imp fun vs H Q E ⟨W,ds,Qd,a,b,c,d⟩=>⟨W,ds,Qd,a,b,hi _ _ c,d⟩⟩⟩
theorem DOk.imp {x:Str} {n:Nat} {S S':DSp} (h:DOk P w K mg base n x S) (hi:∀ ds Q,S' ds Q→S ds Q):DOk P w K mg base n x S':=
 let ⟨f,fd,ps,h1,h2,h3,h4⟩:=h.ex; ⟨f,fd,ps,h1,h2,h3,h4.imp fun vs H Q E ⟨W,ds,Qd,a,b,c,d⟩=>⟨W,ds,Qd,a,b,hi _ _ c,d⟩⟩
theorem wq {qual:Str} {st:Stmt} {g C:Addr} {fd:FuncData} {y f:Str} {k:Nat} {ok:Int→Prop} (F:Fun K "__init__" qual st g fd) (sc:zf ["self",y] ["self",y] (defScope st)) (cl:Cls K C) (na:NoAttr K C f)
  (hbody:∀ (cdv:Value) (A:Around) (outer:List Env) (s:Shared) (H:Hp) (E:XK),Room k (A.deeper (envOfC qual (defScope st) s.heap.objs.size g cdv))→
   ∃ te t,PSs (yu CX0 P w K mg base ["self",y] qual (defScope st) g cdv A outer s H E).nox (defBody st) (fG K (kI 0) te f)∧LiE K (Zx (yu CX0 P w K mg base ["self",y] qual (defScope st) g cdv A outer s H E)) te t∧∀ i,ok i→t [.none,.some (.int i)] fun d=>d=.int i):
  FnOk P w K mg base CX0 (k + 1) g fd ["self",y] (y8 C f ok):=by
 refine F.ok sc (fun vs H Q E h=>?_) (fun cdv A outer s H vs Q E hr h=>?_)
 ·obtain ⟨p,dx,i,rfl,_⟩:=h
  rfl
 obtain ⟨p,dx,i,rfl,hp,hok,q⟩:=h
 obtain ⟨te,t,ps,l,ht⟩:=hbody cdv A outer s H E hr
 rw [n9] at l
 refine ⟨_,ps,l (F:=H) [.none,.some (.int i)] _ ⟨H,H,Same.refl H⟩ _ ⟨rfl,fun j d e=>?_,fun j ds e=>?_,fun j j' ds es _ e _=>?_,Same.refl H,Same.refl H,fun j a ds e=>?_⟩ (ht i hok) _ fun d v W1 s1 i1 ed=>?_⟩
 ·match j,e with
  | 0,e=>cases e
  | 1,e=>
   have e':Dt.int i=d:=by cases e; rfl
   subst e'
   exact ⟨.int i,rfl,is_int.mpr rfl⟩
  | j + 2,e=>cases e
 ·match j,e with
  | 0,e=>cases e
  | 1,e=>cases e
  | j + 2,e=>cases e
 ·match j,e with
  | 0,e=>cases e
  | 1,e=>cases e
  | j + 2,e=>cases e
 ·match j,e with
  | 0,e=>cases e
  | 1,e=>cases e
  | j + 2,e=>cases e
 ·subst ed
  obtain rfl:=is_int.mp i1
  refine ⟨.ref p,rfl,p,C,dx,[],rfl,s1.h _ _ hp,cl,na,(by show 0 < 1000; decide),?_⟩
  refine q _ zu fun b o hb hbp=>?_
  rw [zr hbp]
  exact s1.h _ _ hb
end
end OD
namespace OD
open PySem PySem.Spec PyProof.Rows L2
mutual
def eqD:Dt→Dt→Bool
 | .non,.non=>true
 | .bl a,.bl b=>a == b
 | .bl a,.int b=>(if a then (1:Int) else 0) == b
 | .int a,.bl b=>a == (if b then (1:Int) else 0)
 | .int a,.int b=>a == b
 | .str a,.str b=>a == b
 | .tup ds,.tup es=>xI ds es
 | .lst ds,.lst es=>xI ds es
 | _,_=>false
def xI:List Dt→List Dt→Bool
 | [],[]=>true
 | d :: ds,e :: es=>eqD d e && xI ds es
 | _,_=>false
end
def okE:Nat→Dt→Bool
 | _,.non=>true
 | _,.bl _=>true
 | _,.int _=>true
 | _,.str _=>true
 | n + 1,.tup ds=>ds.all (okE n)
 | n + 1,.lst ds=>ds.all (okE n)
 | _,_=>false
theorem yQ (a b:Int):eqD (.int a) (.int b)=(a == b):=by unfold eqD; rfl
theorem lL (a b:Bool):eqD (.bl a) (.bl b)=(a == b):=by unfold eqD; rfl
theorem oU (a b:Str):eqD (.str a) (.str b)=(a == b):=by unfold eqD; rfl
theorem va (ds es:List Dt):eqD (.tup ds) (.tup es)=xI ds es:=by rw [eqD]
theorem wv (ds es:List Dt):eqD (.lst ds) (.lst es)=xI ds es:=by rw [eqD]
theorem w_:xI [] []=true:=by unfold xI; rfl
theorem xp (d e:Dt) (ds es:List Dt):xI (d :: ds) (e :: es)=(eqD d e && xI ds es):=by rw [xI]
theorem ss (e:Dt) (es:List Dt):xI [] (e :: es)=false:=by unfold xI; rfl
theorem xm (e:Dt) (es:List Dt):xI (e :: es) []=false:=by unfold xI; rfl
theorem y6:∀ ds es:List Dt,(((List.range (min ds.length es.length)).all fun j=>eqD (ds.getD j .non) (es.getD j .non)) && (ds.length == es.length))=xI ds es
 | [],[]=>by rw [w_]; rfl
 | [],e :: es=>by
  rw [ss]
  have h:((([]:List Dt).length == (e :: es).length))=false:=by simp
  rw [h,Bool.and_false]
 | d :: ds,[]=>by
  rw [xm]
  have h:(((d :: ds).length == ([]:List Dt).length))=false:=by simp
  rw [h,Bool.and_false]
 | d :: ds,e :: es=>by
  have ih:=y6 ds es
  rw [xp,← ih]
  have hm:min (d :: ds).length (e :: es).length=min ds.length es.length + 1:=by
   rw [List.length_cons,List.length_cons]; omega
  rw [hm,List.range_succ_eq_map,List.all_cons,List.all_map,Bool.and_assoc]
  have hl:((d :: ds).length == (e :: es).length)=(ds.length == es.length):=by
   rw [List.length_cons,List.length_cons]
   rw [Bool.eq_iff_iff,beq_iff_eq,beq_iff_eq]
   omega
  rw [hl]
  rfl
theorem sO {ds es:List Dt} (h:ds.length ≠ es.length):xI ds es=false:=by
 rw [← y6 ds es]
 have h:(ds.length == es.length)=false:=beq_eq_false_iff_ne.mpr h
 rw [h,Bool.and_false]
theorem qP {ds es:List Dt} (h:ds.length=es.length):((List.range ds.length).all fun j=>eqD (ds.getD j .non) (es.getD j .non))=xI ds es:=by
 rw [← y6 ds es]
 have h':(ds.length == es.length)=true:=beq_iff_eq.mpr h
 rw [h',Bool.and_true,← h,Nat.min_self]
theorem vN:∀ {ds:List Dt},(∀ d ∈ ds,eqD d d=true)→xI ds ds=true
 | [],_=>w_
 | d :: ds,h=>by
  rw [xp,h d List.mem_cons_self,vN fun e he=>h e (List.mem_cons_of_mem _ he)]
  rfl
theorem vb:∀ (n:Nat) {d:Dt},okE n d=true→eqD d d=true:=by
 intro n
 induction n with
 | zero=>
  intro d h
  cases d with
  | non=>unfold eqD; rfl
  | bl b=>rw [lL]; exact beq_self_eq_true _
  | int b=>rw [yQ]; exact beq_self_eq_true _
  | str b=>rw [oU]; exact beq_self_eq_true _
  | _=>simp [okE] at h
 | succ n ih=>
  intro d h
  cases d with
  | non=>unfold eqD; rfl
  | bl b=>rw [lL]; exact beq_self_eq_true _
  | int b=>rw [yQ]; exact beq_self_eq_true _
  | str b=>rw [oU]; exact beq_self_eq_true _
  | tup ds=>
   rw [va]
   have h':∀ d ∈ ds,okE n d=true:=by simpa [okE] using h
   exact vN fun d hd=>ih (h' d hd)
  | lst ds=>
   rw [wv]
   have h':∀ d ∈ ds,okE n d=true:=by simpa [okE] using h
   exact vN fun d hd=>ih (h' d hd)
  | _=>simp [okE] at h
example:eqD (.int ((2:Nat):Int)) (.int 2)=true:=by rfl
section
variable {X:Cx} {pins:List (Addr × Obj)} {σ:St} {K:PySem.W.Frag} {H:Hp} {s:Shared}
theorem oe:∀ {ds es:List Dt} {xs:List V},(∀ d e v,d ∈ ds→e ∈ es→Is K H d v→Is K H e v→eqD d e=true)→AllIs K H ds xs→AllIs K H es xs→xI ds es=true
 | [],es,xs,ih,i1,i2=>by
  obtain rfl:=allIs_nil.mp i1
  cases es with
  | nil=>exact w_
  | cons e es=>obtain ⟨_,_,z,_⟩:=allIs_cons.mp i2; cases z
 | d :: ds,es,xs,ih,i1,i2=>by
  obtain ⟨x,r,rfl,j1,j2⟩:=allIs_cons.mp i1
  cases es with
  | nil=>cases allIs_nil.mp i2
  | cons e es=>
   obtain ⟨y,r',z,k1,k2⟩:=allIs_cons.mp i2
   cases z
   rw [xp,ih d e x List.mem_cons_self List.mem_cons_self j1 k1,oe (fun d' e' v' hd he=>ih d' e' v' (List.mem_cons_of_mem _ hd) (List.mem_cons_of_mem _ he)) j2 k2]
   rfl
def x_:Dt→Bool
 | .non=>true
 | .bl _=>true
 | .int _=>true
 | .str _=>true
 | _=>false
def vD:Dt→V
 | .bl b=>.bl b
 | .int i=>.int i
 | .str x=>.str x
 | _=>.non
theorem zJ {d:Dt} {v:V} (h:x_ d=true) (i:Is K H d v):v=vD d:=by
 cases d <;> first | exact is_non.mp i | exact is_bl.mp i | exact is_int.mp i | exact is_str.mp i | cases h
theorem vM {d:Dt} (h:x_ d=true):x9 (vD d)=true:=by cases d <;> first | rfl | cases h
theorem w8 {d:Dt} {a:Addr} (h:x_ d=true) (e:vD d=.ref a):False:=by cases d <;> first | cases e | cases h
theorem qO {v:V} (h:x9 v=true):eqV v v=true:=by cases v <;> first | rfl | exact beq_self_eq_true _ | cases h
theorem vd {d e:Dt} (h1:x_ d=true) (h2:x_ e=true):eqD d e=eqV (vD d) (vD e):=by cases d <;> first | exact absurd h1 Bool.false_ne_true | (cases e <;> first | exact absurd h2 Bool.false_ne_true | rfl)
theorem wc {d:Dt} {es:List Dt} (h:x_ d=true):eqD d (.tup es)=false∧eqD (.tup es) d=false∧eqD d (.lst es)=false∧eqD (.lst es) d=false:=by
 cases d <;> first | exact ⟨rfl,rfl,rfl,rfl⟩ | cases h
theorem yX {n:Nat} {d:Dt} (h:okE n d=true):x_ d=true∨∃ m ds,n=m + 1∧(d=.tup ds∨d=.lst ds)∧∀ d ∈ ds,okE m d=true:=by
 cases d with
 | non=>exact .inl rfl
 | bl b=>exact .inl rfl
 | int b=>exact .inl rfl
 | str b=>exact .inl rfl
 | tup ds=>
  cases n with
  | zero=>simp [okE] at h
  | succ m=>exact .inr ⟨m,ds,rfl,.inl rfl,by simpa [okE] using h⟩
 | lst ds=>
  cases n with
  | zero=>simp [okE] at h
  | succ m=>exact .inr ⟨m,ds,rfl,.inr rfl,by simpa [okE] using h⟩
 | _=>cases n <;> simp [okE] at h
theorem oT:∀ (n:Nat) {d e:Dt} {v:V},okE n d=true→okE n e=true→Is K H d v→Is K H e v→eqD d e=true:=by
 intro n
 induction n with
 | zero=>
  intro d e v h1 h2 i1 i2
  rcases yX h1 with f1 | ⟨m,ds,z,_⟩
  ·rcases yX h2 with f2 | ⟨m,ds,z,_⟩
   ·rw [vd f1 f2,← zJ f1 i1,← zJ f2 i2]
    exact qO (by rw [zJ f1 i1]; exact vM f1)
   ·cases z
  ·cases z
 | succ n ih=>
  intro d e v h1 h2 i1 i2
  rcases yX h1 with f1 | ⟨m,ds,z,hk,hd⟩
  ·rcases yX h2 with f2 | ⟨m,es,z,hk,he⟩
   ·rw [vd f1 f2,← zJ f1 i1,← zJ f2 i2]
    exact qO (by rw [zJ f1 i1]; exact vM f1)
   ·obtain rfl:=zJ f1 i1
    rcases hk with rfl | rfl
    ·obtain ⟨_,_,e,_⟩:=is_tup.mp i2; exact (w8 f1 e).elim
    ·obtain ⟨_,_,e,_⟩:=is_lst.mp i2; exact (w8 f1 e).elim
  ·cases z
   rcases yX h2 with f2 | ⟨m,es,z,hk2,he⟩
   ·obtain rfl:=zJ f2 i2
    rcases hk with rfl | rfl
    ·obtain ⟨_,_,e,_⟩:=is_tup.mp i1; exact (w8 f2 e).elim
    ·obtain ⟨_,_,e,_⟩:=is_lst.mp i1; exact (w8 f2 e).elim
   ·cases z
    rcases hk with rfl | rfl
    ·obtain ⟨a,xs,rfl,hx,ha⟩:=is_tup.mp i1
     rcases hk2 with rfl | rfl
     ·obtain ⟨b,ys,eb,hy,hb⟩:=is_tup.mp i2
      cases eb
      rw [hx] at hy
      cases hy
      rw [va]
      exact oe (fun d e v q1 q2=>ih (hd d q1) (he e q2)) ha hb
     ·obtain ⟨b,ys,eb,hy,hb⟩:=is_lst.mp i2
      cases eb
      rw [hx] at hy
      cases hy
    ·obtain ⟨a,xs,rfl,hx,ha⟩:=is_lst.mp i1
     rcases hk2 with rfl | rfl
     ·obtain ⟨b,ys,eb,hy,hb⟩:=is_tup.mp i2
      cases eb
      rw [hx] at hy
      cases hy
     ·obtain ⟨b,ys,eb,hy,hb⟩:=is_lst.mp i2
      cases eb
      rw [hx] at hy
      cases hy
      rw [wv]
      exact oe (fun d e v q1 q2=>ih (hd d q1) (he e q2)) ha hb
section
variable {A:Around}
open SeqAt
theorem wr {d:Dt} {v:Value} {b:Addr} {its:Array Value} (f:x_ d=true) (q:RelV (vD d) v) (t:s.heap.IsTuple b its) (hA:A.units < cLine):
  (EqAt A s v (.ref b) false∧EqAt A s (.ref b) v false)∧(RcAt A s v (.ref b) false∧RcNeAt A s v (.ref b) true)∧RcAt A s (.ref b) v false∧RcNeAt A s (.ref b) v true:=by
 cases d with
 | non=>cases q; exact ⟨⟨.none_tuple t hA,.tuple_none t hA⟩,⟨.none_tuple t hA,.none_tuple t hA⟩,.tuple_none t hA,.tuple_none t hA⟩
 | bl a=>cases q; exact ⟨⟨.bool_tuple a t hA,.tuple_bool a t hA⟩,⟨.bool_tuple a t hA,.bool_tuple a t hA⟩,.tuple_bool a t hA,.tuple_bool a t hA⟩
 | int a=>obtain ⟨u,rfl⟩:=q; exact ⟨⟨.int_tuple a u t hA,.tuple_int a u t hA⟩,⟨.int_tuple a u t hA,.int_tuple a u t hA⟩,.tuple_int a u t hA,.tuple_int a u t hA⟩
 | str a=>obtain ⟨u,rfl⟩:=q; exact ⟨⟨.str_tuple a u t hA,.tuple_str a u t hA⟩,⟨.str_tuple a u t hA,.str_tuple a u t hA⟩,.tuple_str a u t hA,.tuple_str a u t hA⟩
 | _=>cases f
theorem wu {d:Dt} {v:Value} {b:Addr} {its:Array Value} (f:x_ d=true) (q:RelV (vD d) v) (t:s.heap.IsList b its) (hA:A.units < cLine):
  (EqAt A s v (.ref b) false∧EqAt A s (.ref b) v false)∧(RcAt A s v (.ref b) false∧RcNeAt A s v (.ref b) true)∧RcAt A s (.ref b) v false∧RcNeAt A s (.ref b) v true:=by
 cases d with
 | non=>cases q; exact ⟨⟨.none_list t hA,.list_none t hA⟩,⟨.none_list t hA,.none_list t hA⟩,.list_none t hA,.list_none t hA⟩
 | bl a=>cases q; exact ⟨⟨.bool_list a t hA,.list_bool a t hA⟩,⟨.bool_list a t hA,.bool_list a t hA⟩,.list_bool a t hA,.list_bool a t hA⟩
 | int a=>obtain ⟨u,rfl⟩:=q; exact ⟨⟨.int_list a u t hA,.list_int a u t hA⟩,⟨.int_list a u t hA,.int_list a u t hA⟩,.list_int a u t hA,.list_int a u t hA⟩
 | str a=>obtain ⟨u,rfl⟩:=q; exact ⟨⟨.str_list a u t hA,.list_str a u t hA⟩,⟨.str_list a u t hA,.str_list a u t hA⟩,.list_str a u t hA,.list_str a u t hA⟩
 | _=>cases f
theorem jw {d e:Dt} {v u:Value} (f1:x_ d=true) (f2:x_ e=true) (q1:RelV (vD d) v) (q2:RelV (vD e) u):RcAt A s v u (eqD d e)∧RcNeAt A s v u (!eqD d e):=by
 cases d with
 | non=>
  cases q1
  cases e with
  | non=>cases q2; exact ⟨.none_none,.none_none⟩
  | bl b=>cases q2; exact ⟨.none_bool b,.none_bool b⟩
  | int b=>obtain ⟨t,rfl⟩:=q2; exact ⟨.none_int b t,.none_int b t⟩
  | str b=>obtain ⟨t,rfl⟩:=q2; exact ⟨.none_str b t,.none_str b t⟩
  | _=>cases f2
 | bl a=>
  cases q1
  cases e with
  | non=>cases q2; exact ⟨.bool_none a,.bool_none a⟩
  | bl b=>cases q2; exact ⟨.bool_bool a b,.bool_bool a b⟩
  | int b=>obtain ⟨t,rfl⟩:=q2; exact ⟨.bool_int a b t,.bool_int a b t⟩
  | str b=>obtain ⟨t,rfl⟩:=q2; exact ⟨.bool_str a b t,.bool_str a b t⟩
  | _=>cases f2
 | int a=>
  obtain ⟨ta,rfl⟩:=q1
  cases e with
  | non=>cases q2; exact ⟨.int_none a ta,.int_none a ta⟩
  | bl b=>cases q2; exact ⟨.int_bool a ta b,.int_bool a ta b⟩
  | int b=>obtain ⟨t,rfl⟩:=q2; exact ⟨.int_int a ta b t,.int_int a ta b t⟩
  | str b=>obtain ⟨t,rfl⟩:=q2; exact ⟨.int_str a ta b t,.int_str a ta b t⟩
  | _=>cases f2
 | str a=>
  obtain ⟨ta,rfl⟩:=q1
  cases e with
  | non=>cases q2; exact ⟨.str_none a ta,.str_none a ta⟩
  | bl b=>cases q2; exact ⟨.str_bool a ta b,.str_bool a ta b⟩
  | int b=>obtain ⟨t,rfl⟩:=q2; exact ⟨.str_int a ta b t,.str_int a ta b t⟩
  | str b=>obtain ⟨t,rfl⟩:=q2; exact ⟨.str_str a ta b t,.str_str a ta b t⟩
  | _=>cases f2
 | _=>cases f1
end
theorem w6 {n:Nat} {A:Around} {ds es:List Dt} {xs ys:List V} {its its2:List Value}
  (ih:∀ {d e:Dt} {x y:V} {v u:Value},okE n d=true→okE n e=true→Is K H d x→Is K H e y→RelV x v→RelV y u→SeqAt.EqAt A s v u (eqD d e))
  (hd:∀ d ∈ ds,okE n d=true) (he:∀ d ∈ es,okE n d=true) (a1:AllIs K H ds xs) (a2:AllIs K H es ys) (r1:Vals xs its) (r2:Vals ys its2):
  ∀ j (h1:j < its.toArray.size) (h2:j < its2.toArray.size),SeqAt.EqAt A s its.toArray[j] its2.toArray[j] (eqD (ds.getD j .non) (es.getD j .non)):=by
 intro j h1 h2
 have l1:=a1.length.trans r1.length
 have l2:=a2.length.trans r2.length
 rw [List.size_toArray] at h1 h2
 have g1:ds[j]? = some ds[j]:=List.getElem?_eq_getElem (by omega)
 have g2:es[j]? = some es[j]:=List.getElem?_eq_getElem (by omega)
 obtain ⟨x,e1,i1⟩:=a1.get g1
 obtain ⟨y,e2,i2⟩:=a2.get g2
 obtain ⟨v,e3,q1⟩:=r1.get e1
 obtain ⟨u,e4,q2⟩:=r2.get e2
 have f1:ds.getD j .non=ds[j]:=by rw [List.getD_eq_getElem?_getD,g1]; rfl
 have f2:es.getD j .non=es[j]:=by rw [List.getD_eq_getElem?_getD,g2]; rfl
 have f3:its.toArray[j]=v:=by
  have z:its[j]? = some its[j]:=List.getElem?_eq_getElem h1
  rw [z] at e3
  simpa using Option.some.inj e3
 have f4:its2.toArray[j]=u:=by
  have z:its2[j]? = some its2[j]:=List.getElem?_eq_getElem h2
  rw [z] at e4
  simpa using Option.some.inj e4
 rw [f1,f2,f3,f4]
 exact ih (hd _ (List.mem_of_getElem? g1)) (he _ (List.mem_of_getElem? g2)) i1 i2 q1 q2
theorem eQ (I:Inv X pins σ H s):∀ (n:Nat) {A:Around} {d e:Dt} {x y:V} {v u:Value},A.units + n < cLine→okE n d=true→okE n e=true→Is X.K H d x→Is X.K H e y→RelV x v→RelV y u→SeqAt.EqAt A s v u (eqD d e):=by
 intro n
 induction n with
 | zero=>
  intro A d e x y v u hu h1 h2 i1 i2 q1 q2
  rcases yX h1 with f1 | ⟨m,ds,z,_⟩
  ·rcases yX h2 with f2 | ⟨m,ds,z,_⟩
   ·rw [vd f1 f2]
    rw [zJ f1 i1] at q1
    rw [zJ f2 i2] at q2
    exact og q1 q2 (vM f1) (vM f2)
   ·cases z
  ·cases z
 | succ n ih=>
  intro A d e x y v u hu h1 h2 i1 i2 q1 q2
  have hA:A.units < cLine:=by omega
  have hu':A.in1.units + n < cLine:=by show A.units + 1 + n < cLine; omega
  rcases yX h1 with f1 | ⟨m,ds,z,hk,hd⟩
  ·rw [zJ f1 i1] at q1
   rcases yX h2 with f2 | ⟨m,es,z,rfl | rfl,he⟩
   ·rw [vd f1 f2]
    rw [zJ f2 i2] at q2
    exact og q1 q2 (vM f1) (vM f2)
   ·obtain ⟨b,ys,rfl,hy,hb⟩:=is_tup.mp i2
    obtain ⟨its2,r2,t2,_⟩:=I.tuple (.of hy)
    cases q2
    rw [(wc f1).1]
    exact (wr f1 q1 t2 hA).1.1
   ·obtain ⟨b,ys,rfl,hy,hb⟩:=is_lst.mp i2
    obtain ⟨its2,r2,t2,_⟩:=I.list (.of hy)
    cases q2
    rw [(wc f1).2.2.1]
    exact (wu f1 q1 t2.isList hA).1.1
  ·cases z
   rcases hk with rfl | rfl
   ·obtain ⟨a,xs,rfl,hx,ha⟩:=is_tup.mp i1
    obtain ⟨its,r1,t1,_⟩:=I.tuple (.of hx)
    cases q1
    rcases yX h2 with f2 | ⟨m,es,z,rfl | rfl,he⟩
    ·rw [zJ f2 i2] at q2
     rw [(wc f2).2.1]
     exact (wr f2 q2 t1 hA).1.2
    ·cases z
     have i2':=i2
     obtain ⟨b,ys,rfl,hy,hb⟩:=is_tup.mp i2
     obtain ⟨its2,r2,t2,_⟩:=I.tuple (.of hy)
     cases q2
     by_cases hab:a=b
     ·subst hab
      rw [oT _ h1 h2 i1 i2']
      exact SeqAt.EqAt.same _
     ·have q:=SeqAt.RcAt.tuples t1 t2 hA (w6 (fun {d e x y v u}=>ih (A:=A.in1) hu') hd he ha hb r1 r2)
      rw [List.size_toArray,List.size_toArray,← r1.length,← r2.length,← ha.length,← hb.length,y6] at q
      rw [va]
      exact .of_refs hab q
    ·obtain ⟨b,ys,rfl,hy,hb⟩:=is_lst.mp i2
     obtain ⟨its2,r2,t2,_⟩:=I.list (.of hy)
     cases q2
     exact SeqAt.EqAt.tuple_list t1 t2.isList hA
   ·obtain ⟨a,xs,rfl,hx,ha⟩:=is_lst.mp i1
    obtain ⟨its,r1,t1,_⟩:=I.list (.of hx)
    cases q1
    rcases yX h2 with f2 | ⟨m,es,z,rfl | rfl,he⟩
    ·rw [zJ f2 i2] at q2
     rw [(wc f2).2.2.2]
     exact (wu f2 q2 t1.isList hA).1.2
    ·obtain ⟨b,ys,rfl,hy,hb⟩:=is_tup.mp i2
     obtain ⟨its2,r2,t2,_⟩:=I.tuple (.of hy)
     cases q2
     exact SeqAt.EqAt.list_tuple t1.isList t2 hA
    ·cases z
     have i2':=i2
     obtain ⟨b,ys,rfl,hy,hb⟩:=is_lst.mp i2
     obtain ⟨its2,r2,t2,_⟩:=I.list (.of hy)
     cases q2
     by_cases hab:a=b
     ·subst hab
      rw [oT _ h1 h2 i1 i2']
      exact SeqAt.EqAt.same _
     ·rw [wv]
      have l1:=ha.length.trans r1.length
      have l2:=hb.length.trans r2.length
      by_cases hl:ds.length=es.length
      ·have q:=SeqAt.RcAt.lists t1.isList t2.isList (by rw [List.size_toArray,List.size_toArray]; omega) hA (w6 (fun {d e x y v u}=>ih (A:=A.in1) hu') hd he ha hb r1 r2)
       rw [List.size_toArray,← l1,qP hl] at q
       exact .of_refs hab q
      ·have q:=SeqAt.RcAt.lists_lengths t1.isList t2.isList (by rw [List.size_toArray,List.size_toArray,bne_iff_ne]; omega) hA
       rw [sO hl]
       exact .of_refs hab q
theorem j7 (I:Inv X pins σ H s) {n:Nat} {A:Around} {d e:Dt} {x y:V} {v u:Value} (hu:A.units + (n + 1) < cLine) (h1:okE (n + 1) d=true) (h2:okE (n + 1) e=true) (i1:Is X.K H d x) (i2:Is X.K H e y) (q1:RelV x v) (q2:RelV y u):
  SeqAt.RcAt A s v u (eqD d e)∧SeqAt.RcNeAt A s v u (!eqD d e):=by
 have hA:A.units < cLine:=by omega
 have hu':A.in1.units + n < cLine:=by show A.units + 1 + n < cLine; omega
 have ih:=fun {d e:Dt} {x y:V} {v u:Value}=>eQ I n (A:=A.in1) (d:=d) (e:=e) (x:=x) (y:=y) (v:=v) (u:=u) hu'
 rcases yX h1 with f1 | ⟨m,ds,z,hk,hd⟩
 ·rw [zJ f1 i1] at q1
  rcases yX h2 with f2 | ⟨m,es,z,rfl | rfl,he⟩
  ·rw [zJ f2 i2] at q2
   exact jw f1 f2 q1 q2
  ·obtain ⟨b,ys,rfl,hy,hb⟩:=is_tup.mp i2
   obtain ⟨its2,r2,t2,_⟩:=I.tuple (.of hy)
   cases q2
   rw [(wc f1).1]
   exact (wr f1 q1 t2 hA).2.1
  ·obtain ⟨b,ys,rfl,hy,hb⟩:=is_lst.mp i2
   obtain ⟨its2,r2,t2,_⟩:=I.list (.of hy)
   cases q2
   rw [(wc f1).2.2.1]
   exact (wu f1 q1 t2.isList hA).2.1
 ·cases z
  rcases hk with rfl | rfl
  ·obtain ⟨a,xs,rfl,hx,ha⟩:=is_tup.mp i1
   obtain ⟨its,r1,t1,_⟩:=I.tuple (.of hx)
   cases q1
   rcases yX h2 with f2 | ⟨m,es,z,rfl | rfl,he⟩
   ·rw [zJ f2 i2] at q2
    rw [(wc f2).2.1]
    exact (wr f2 q2 t1 hA).2.2
   ·cases z
    obtain ⟨b,ys,rfl,hy,hb⟩:=is_tup.mp i2
    obtain ⟨its2,r2,t2,_⟩:=I.tuple (.of hy)
    cases q2
    have it:=w6 (A:=A.in1) ih hd he ha hb r1 r2
    have q:=SeqAt.RcAt.tuples t1 t2 hA it
    have q':=SeqAt.RcNeAt.tuples t1 t2 hA it
    rw [List.size_toArray,List.size_toArray,← r1.length,← r2.length,← ha.length,← hb.length,y6] at q q'
    rw [va]
    exact ⟨q,q'⟩
   ·obtain ⟨b,ys,rfl,hy,hb⟩:=is_lst.mp i2
    obtain ⟨its2,r2,t2,_⟩:=I.list (.of hy)
    cases q2
    exact ⟨SeqAt.RcAt.tuple_list t1 t2.isList hA,SeqAt.RcNeAt.tuple_list t1 t2.isList hA⟩
  ·obtain ⟨a,xs,rfl,hx,ha⟩:=is_lst.mp i1
   obtain ⟨its,r1,t1,_⟩:=I.list (.of hx)
   cases q1
   rcases yX h2 with f2 | ⟨m,es,z,rfl | rfl,he⟩
   ·rw [zJ f2 i2] at q2
    rw [(wc f2).2.2.2]
    exact (wu f2 q2 t1.isList hA).2.2
   ·obtain ⟨b,ys,rfl,hy,hb⟩:=is_tup.mp i2
    obtain ⟨its2,r2,t2,_⟩:=I.tuple (.of hy)
    cases q2
    exact ⟨SeqAt.RcAt.list_tuple t1.isList t2 hA,SeqAt.RcNeAt.list_tuple t1.isList t2 hA⟩
   ·cases z
    obtain ⟨b,ys,rfl,hy,hb⟩:=is_lst.mp i2
    obtain ⟨its2,r2,t2,_⟩:=I.list (.of hy)
    cases q2
    rw [wv]
    have l1:=ha.length.trans r1.length
    have l2:=hb.length.trans r2.length
    by_cases hl:ds.length=es.length
    ·have it:=w6 (A:=A.in1) ih hd he ha hb r1 r2
     have q:=SeqAt.RcAt.lists t1.isList t2.isList (by rw [List.size_toArray,List.size_toArray]; omega) hA it
     have q':=SeqAt.RcNeAt.lists t1.isList t2.isList (by rw [List.size_toArray,List.size_toArray]; omega) hA it
     rw [List.size_toArray,← l1,qP hl] at q q'
     exact ⟨q,q'⟩
    ·have q:=SeqAt.RcAt.lists_lengths t1.isList t2.isList (by rw [List.size_toArray,List.size_toArray,bne_iff_ne]; omega) hA
     have q':=SeqAt.RcNeAt.lists_lengths t1.isList t2.isList (by rw [List.size_toArray,List.size_toArray,bne_iff_ne]; omega) hA
     rw [sO hl]
     exact ⟨q,q'⟩
def gEq:Dt→Dt→(Dt→Prop)→Prop:=fun d e Q=>okE 40 d=true∧okE 40 e=true∧Q (.bl (eqD d e))
def gNe:Dt→Dt→(Dt→Prop)→Prop:=fun d e Q=>okE 40 d=true∧okE 40 e=true∧Q (.bl (!eqD d e))
theorem x5 {k:Nat} (hr:Room k X.A):DOp X (compareOp .Eq) gEq:=by
 refine ⟨fun x y H Q=>∃ d e,Is X.K H d x∧Is X.K H e y∧okE 40 d=true∧okE 40 e=true∧Q (.bl (eqD d e)) H,fun pins s σ H x y v u Q I rx ry h=>?_,fun H x y d e Q i1 i2 q R k=>⟨d,e,Is.mono0 H.sub i1,Is.mono0 H.sub i2,q.1,q.2.1,k _ _ H (Le.refl H) (is_bl.mpr rfl) q.2.2⟩⟩
 obtain ⟨d,e,i1,i2,h1,h2,q⟩:=h
 have hu:=hr.units
 exact (j7 (n:=39) I (A:=X.A) (by omega) h1 h2 i1 i2 rx ry).1 _ _ _ _ ⟨.bl _,H,I,rfl,q⟩
theorem rG {k:Nat} (hr:Room k X.A):DOp X (compareOp .NotEq) gNe:=by
 refine ⟨fun x y H Q=>∃ d e,Is X.K H d x∧Is X.K H e y∧okE 40 d=true∧okE 40 e=true∧Q (.bl (!eqD d e)) H,fun pins s σ H x y v u Q I rx ry h=>?_,fun H x y d e Q i1 i2 q R k=>⟨d,e,Is.mono0 H.sub i1,Is.mono0 H.sub i2,q.1,q.2.1,k _ _ H (Le.refl H) (is_bl.mpr rfl) q.2.2⟩⟩
 obtain ⟨d,e,i1,i2,h1,h2,q⟩:=h
 have hu:=hr.units
 exact (j7 (n:=39) I (A:=X.A) (by omega) h1 h2 i1 i2 rx ry).2 _ _ _ _ ⟨.bl _,H,I,rfl,q⟩
end
end OD
namespace OD
open PySem PySem.Spec PyProof.Rows L2
section
variable {X:Cx} {pins:List (Addr × Obj)} {σ:St} {H:Hp} {s:Shared} {scope:Scope} {x:Str} {fp:List Addr}
end
end OD
namespace OD
variable {Z:Hp}
open PySem PySem.Spec PyProof.Rows L2
section
variable {X:Cx} {pins:List (Addr × Obj)} {σ:St} {H:Hp} {s:Shared} {h':Heap}
theorem ip {ch:List Addr} (hn:∀ b ∈ ch,wQ X pins H b):∀ b ∈ ch,(b ∈ X.ex∨X.s₀.heap.objs.size ≤ b)∧b ≠ X.env.locals∧(∀ x c,X.env.cells.lookup x=some c→c ≠ b)∧∀ p ∈ X.pn ++ pins,p.1 ≠ b:=fun b hb=>by
 obtain ⟨_,h2,_,h4,h5,h6⟩:=hn b hb
 exact ⟨h4,h2,h5,h6⟩
theorem tm {ch:List Addr} {t':Nat} (I:Inv X pins σ H s) (hn:∀ b ∈ ch,wQ X pins H b) (k:∀ b o,b ∉ ch→s.heap.get? b=some o→h'.get? b=some o):Inv X pins σ H { s with heap:=h',toks:=t' }:=by
 have nit:∀ b u,H b=some u→b ∉ ch:=fun b u e z=>by rw [(hn b z).1] at e; cases e
 refine I.step (g':=s.gens) (d':=s.drawn) (ch:=ch) (ip hn) (fun b o _ _ hc e _=>k b o hc e) (fun b o _ _ hc e _=>⟨o.slots,k b o hc e⟩) (fun _ _ _ _ n=>n)
  (fun b o hc e=>⟨o,k b o hc e⟩) (fun _ _ e=>e) (fun _ _ _ e=>e) (fun b ps e=>⟨#[],by rw [e]; simp⟩) (fun m hm=>?_) (fun b u e=>?_) I.bare
 ·obtain ⟨o,es,ep,ho,r⟩:=hm
  exact ⟨o,es,ep,k _ o (fun z=>(hn _ z).2.1 rfl) ho,r⟩
 ·refine (I.hok b u e).stay (fun c v hc q=>k c v ?_ q) (fun _ q=>q) fun _ _ q=>q
  rcases hc with z | z
  ·rw [z]; exact nit b u e
  ·exact nit c _ z
theorem vY {ch:List Addr} {t':Nat} {T:Addr} {xs:List V} (I:Inv X pins σ H s) (hn:∀ b ∈ ch,wQ X pins H b) (k:∀ b o,b ∉ ch→s.heap.get? b=some o→h'.get? b=some o) (hT:s.heap.objs.size ≤ T)
  (new:ObjOk X.prog X.w (upd H T (.tup xs)) h' T (.tup xs)):Inv X pins σ (upd H T (.tup xs)) { s with heap:=h',toks:=t' }:=by
 have nit:∀ b u,H b=some u→b ∉ ch:=fun b u e z=>by rw [(hn b z).1] at e; cases e
 have fT:H T=none:=I.hok.fresh hT
 have old:∀ b o,s.heap.get? b=some o→b ≠ T:=fun b o e=>Nat.ne_of_lt (Nat.lt_of_lt_of_le (Heap.lt_size e) hT)
 have up:∀ b u,H b=some u→upd H T (.tup xs) b=some u:=fun b u e=>(zr (zO e fT)).trans e
 refine I.step (g':=s.gens) (d':=s.drawn) (ch:=ch) (ip hn) (fun b o _ _ hc e _=>k b o hc e) (fun b o _ _ hc e _=>⟨o.slots,k b o hc e⟩) (fun b o _ e n=>(zr (old b o e)).trans n)
  (fun b o hc e=>⟨o,k b o hc e⟩) (fun b xs e=>up b _ e) (fun b o u e=>up b _ e) (fun b ps e=>⟨#[],by rw [up b _ e]; simp⟩) (fun m hm=>?_) (fun b u e=>?_) I.bare
 ·obtain ⟨o,es,ep,ho,r⟩:=hm
  exact ⟨o,es,ep,k _ o (fun z=>(hn _ z).2.1 rfl) ho,r⟩
 ·by_cases hb:b=T
  ·subst hb
   rw [zu] at e
   cases e
   exact new
  ·rw [zr hb] at e
   refine (I.hok b u e).stay (fun c v hc q=>k c v ?_ q) (fun c q=>up c _ q) fun c ys q=>up c _ q
   rcases hc with z | z
   ·rw [z]; exact nit b u e
   ·exact nit c _ z
end
def Itz (K:PySem.W.Frag) (l1 l2:Addr):It:=
 ⟨fun i H=>∃ xs ys x y,SqL K H l1 xs∧SqL K H l2 ys∧xs[i]? = some x∧ys[i]? = some y,
  fun i H v H'=>∃ T x y,v=.ref T∧H T=none∧H'=upd H T (.tup [x,y])∧(∀ xs,SqL K H l1 xs→xs[i]? = some x)∧∀ ys,SqL K H l2 ys→ys[i]? = some y,
  fun i H=>∃ xs ys,SqL K H l1 xs∧SqL K H l2 ys∧(xs.length ≤ i∨ys.length ≤ i)⟩
def fj (l1 l2 z TI TO i1 i2:Addr) (i:Nat) (h:Heap):Prop:=IsZip h z TI TO .none∧IsPair h TI (.ref i1) (.ref i2)∧(∃ a b,IsPair h TO a b)∧h.IsListIter i1 l1 i∧h.IsListIter i2 l2 i
theorem mq {P:Program} {w:World} {K:PySem.W.Frag} {elts:List Expr} {x1} {tpos:Pos} (l1 l2 z TI TO i1 i2:Addr) (D:ZipApart z TI TO i1 i2 l1 l2):
  rX P w K (.Tuple elts x1 tpos) (Itz K l1 l2) [z,TI,TO,i1,i2] z (fj l1 l2 z TI TO i1 i2) where
 mem:=by simp
 obj:=fun i h ⟨h1,h2,⟨a,b,h3⟩,⟨o4,e4,c4,d4⟩,⟨o5,e5,c5,d5⟩⟩ b hb=>by
  simp only [List.mem_cons,List.not_mem_nil,or_false] at hb
  rcases hb with rfl | rfl | rfl | rfl | rfl
  ·exact ⟨_,h1,fun v z=>by cases z⟩
  ·exact ⟨_,h2,fun v z=>by cases z⟩
  ·exact ⟨_,h3,fun v z=>by cases z⟩
  ·exact ⟨_,e4,fun v z=>by rw [d4] at z; cases z⟩
  ·exact ⟨_,e5,fun v z=>by rw [d5] at z; cases z⟩
 keep:=fun i h h' ⟨h1,h2,⟨a,b,h3⟩,⟨o4,e4,c4⟩,⟨o5,e5,c5⟩⟩ k=>
  ⟨k z (by simp) _ h1,k TI (by simp) _ h2,⟨a,b,k TO (by simp) _ h3⟩,⟨o4,k i1 (by simp) _ e4,c4⟩,⟨o5,k i2 (by simp) _ e5,c5⟩⟩
 item:=fun X hP hw hK hc i pins s σ H E I hfp ⟨h1,h2,⟨a,b,h3⟩,h4,h5⟩ ⟨xs,ys,x,y,q1,q2,e1,e2⟩=>by
  subst hP hw hK
  obtain ⟨its1,r1,p1,z1⟩:=I.list q1
  obtain ⟨its2,r2,p2,z2⟩:=I.list q2
  obtain ⟨u,eu,ru⟩:=r1.get e1
  obtain ⟨v,ev,rv⟩:=r2.get e2
  refine wpAny_pyNext_zip_item D h1 h2 h3 h4 h5 p1.isList p2.isList (x:=u) (y:=v) (by simpa using eu) (by simpa using ev) fun h' a1 a2 a3 a4 a5 a6 a7=>?_
  refine ⟨_,rfl,wpAny_letOwnedTupleGo_zip a1 fun h'' b1 b2=>?_⟩
  have ne:∀ b ∈ [z,TI,TO,i1,i2],b ≠ s.heap.objs.size:=fun b hb=>by
   simp only [List.mem_cons,List.not_mem_nil,or_false] at hb
   obtain ⟨o4,e4,_⟩:=id h4
   obtain ⟨o5,e5,_⟩:=id h5
   rcases hb with rfl | rfl | rfl | rfl | rfl
   ·exact Nat.ne_of_lt (Heap.lt_size h1)
   ·exact Nat.ne_of_lt (Heap.lt_size h2)
   ·exact Nat.ne_of_lt (Heap.lt_size h3)
   ·exact Nat.ne_of_lt (Heap.lt_size e4)
   ·exact Nat.ne_of_lt (Heap.lt_size e5)
  have zn:z ≠ s.heap.objs.size:=ne z (by simp)
  have aT:IsPair h'' s.heap.objs.size u v:=b2.extBut _ _ (Ne.symm zn) a5
  have I':Inv X pins σ (upd H s.heap.objs.size (.tup [x,y])) { s with heap:=h'' }:=vY (ch:=[z,TI,TO,i1,i2]) (t':=s.toks) I hfp (fun b o hb e=>by
    simp only [List.mem_cons,List.not_mem_nil,or_false,not_or] at hb
    exact b2.extBut b o hb.1 (a7 b o hb.1 hb.2.2.1 hb.2.2.2.1 hb.2.2.2.2 e)) (Nat.le_refl _) ⟨by show 2 ≤ sizeLine; rw [sizeLine_eq]; decide,[u,v],.cons ru (.cons rv .nil),_,aT,rfl,_,rfl⟩
  refine ⟨.ref s.heap.objs.size,_,I',rfl,⟨_,x,y,rfl,I.fresh,rfl,fun xs' q=>?_,fun ys' q=>?_⟩,⟨b1,b2.extBut _ _ D.TIz (a7 TI _ D.TIz D.TITO D.TIi1 D.TIi2 h2),⟨u,v,b2.extBut _ _ D.TOz a2⟩,a3.extBut b2.extBut D.i1z,a4.extBut b2.extBut D.i2z⟩,fun b hb=>?_⟩
  ·rw [I.list_inj q q1]; exact e1
  ·rw [I.list_inj q q2]; exact e2
  ·exact (zr (ne b hb)).trans (hfp b hb).1
 done:=fun X hP hw hK hc i pins s σ H E I hfp ⟨h1,h2,⟨a,b,h3⟩,h4,h5⟩ ⟨xs,ys,q1,q2,e⟩=>by
  subst hP hw hK
  obtain ⟨its1,r1,p1,z1⟩:=I.list q1
  obtain ⟨its2,r2,p2,z2⟩:=I.list q2
  refine wpAny_pyNext_zip_end (I.ok.hd hc) D h1 h2 h3 h4 h5 p1.isList p2.isList (e.imp (fun e=>?_) fun e=>?_) fun h' hk=>⟨rfl,?_⟩
  ·have:=r1.length
   simp; omega
  ·have:=r2.length
   simp; omega
  ·exact tm (ch:=[z,TI,TO,i1,i2]) (t':=s.toks) I hfp fun b o hb e=>by
    simp only [List.mem_cons,List.not_mem_nil,or_false,not_or] at hb
    exact hk b o hb.1 hb.2.2.1 hb.2.2.2.1 hb.2.2.2.2 e
 self:=fun A i s Q E ⟨h1,_⟩ q=>wpAny_pyIter_zip h1 q
def cr (K:PySem.W.Frag) (ta:TA):TI:=fun σ H R=>ta σ H fun vs H1=>∃ l1 l2 xs ys,vs=[.ref l1,.ref l2]∧SqL K H1 l1 xs∧SqL K H1 l2 ys∧R (Itz K l1 l2) H1
theorem nr {n l1 l2:Nat} (h1:l1 < n) (h2:l2 < n):ZipApart (n + 4) (n + 2) (n + 3) n (n + 1) l1 l2:=by
 constructor <;> (show (_:Nat) ≠ _; omega)
theorem kj:bootBuiltins "zip"=some (.type "zip"):=by decide +kernel
section
variable {X:Cx}
theorem i_ {a b:Expr} {ta:TA} {p pos:Pos} {elts:List Expr} {x1} {tpos:Pos} (hg:Gl X "zip") (hm:X.mg "zip"=none) (ha:PA X [a,b] ta) (hs:starEach [a,b] X.env=(false,eval a X.env) :: starEach [b] X.env:=by rfl)
  (hpl:(backTo pos (starEach [b] X.env)).any (·.1)=false:=by rfl):PI X (.Tuple elts x1 tpos) (.Call (.Name "zip" p) [a,b] [] pos) (cr X.K ta):=by
 intro pins s σ H R I h
 refine Call_ (xl I hg hm kj (PyProof.Rows.callWith_type1 (thn (ha pos pins s σ H _ I h) fun us s1 ⟨vs,H1,I1,r1,q1⟩=>?_) hs hpl))
 obtain ⟨l1,l2,xs,ys,e,q1,q2,q⟩:=q1
 subst e
 obtain ⟨u,v,rfl,ru,rv⟩:=r1.two
 cases ru
 cases rv
 obtain ⟨its1,r1,p1,z1⟩:=I1.list q1
 obtain ⟨its2,r2,p2,z2⟩:=I1.list q2
 have lt1:l1 < s1.heap.objs.size:=by obtain ⟨o,e,_⟩:=id p1.isList; exact Heap.lt_size e
 have lt2:l2 < s1.heap.objs.size:=by obtain ⟨o,e,_⟩:=id p2.isList; exact Heap.lt_size e
 refine call_zip_2 p1.isList p2.isList fun h' b1 b2 b3 b4 b5 b6 b7=>?_
 have I2:Inv X pins σ H1 { s1 with heap:=h' }:=I1.kept (t':=s1.toks) b7
 refine wpAny_pyIter_zip b1 ⟨s1.heap.objs.size + 4,[s1.heap.objs.size + 4,s1.heap.objs.size + 2,s1.heap.objs.size + 3,s1.heap.objs.size,s1.heap.objs.size + 1],_,_,H1,rfl,I2,
  mq l1 l2 (s1.heap.objs.size + 4) (s1.heap.objs.size + 2) (s1.heap.objs.size + 3) s1.heap.objs.size (s1.heap.objs.size + 1) (nr lt1 lt2),
  ⟨b1,b2,⟨_,_,b3⟩,b4,b5⟩,fun b hb=>?_,q⟩
 have hb':s1.heap.objs.size ≤ b:=by
  simp only [List.mem_cons,List.not_mem_nil,or_false] at hb
  rcases hb with rfl | rfl | rfl | rfl | rfl
  ·exact Nat.le_add_right _ _
  ·exact Nat.le_add_right _ _
  ·exact Nat.le_add_right _ _
  ·exact Nat.le_refl _
  ·exact Nat.le_add_right _ _
 have f:=I1.fpOk hb' (I1.hok.fresh hb')
 exact f
theorem jv {K:PySem.W.Frag} {l1 l2:Addr} {xs ys:List V} {g:TG} {tb:TS} {D:Ends} {σ:St} {H:Hp} (Pv:Nat→St→Hp→Prop) (h0:Pv 0 σ H) (hl:∀ i σ H,Pv i σ H→SqL K H l1 xs∧SqL K H l2 ys)
  (hs:∀ i x y T σ H,xs[i]? = some x→ys[i]? = some y→H T=none→Pv i σ H→g (.ref T) σ (upd H T (.tup [x,y])) fun σ2 H2=>tb { D with nx:=Pv (i + 1),ct:=Pv (i + 1),bk:=D.nx } σ2 H2) (hd:∀ σ H,Pv (min xs.length ys.length) σ H→D.nx σ H):
  ∃ W:Nat→Nat→St→Hp→Prop,(∃ m,W 0 m σ H)∧∀ i m σ H,W i m σ H→
   ((Itz K l1 l2).stop i H∧D.nx σ H)∨((Itz K l1 l2).go i H∧∃ N:St→Hp→Prop,(∀ σ' H',N σ' H'→∃ m',m' < m∧W (i + 1) m' σ' H')∧∀ x H',(Itz K l1 l2).yld i H x H'→g x σ H' fun σ2 H2=>tb { D with nx:=N,ct:=N,bk:=D.nx } σ2 H2):=by
 refine ⟨fun i m σ H=>m=min xs.length ys.length - i∧i ≤ min xs.length ys.length∧Pv i σ H,⟨_,rfl,Nat.zero_le _,h0⟩,?_⟩
 rintro i m σ H ⟨rfl,hi,p⟩
 obtain ⟨q1,q2⟩:=hl i σ H p
 by_cases hlt:i < min xs.length ys.length
 ·have g1:xs[i]? = some xs[i]:=List.getElem?_eq_getElem (by omega)
  have g2:ys[i]? = some ys[i]:=List.getElem?_eq_getElem (by omega)
  refine .inr ⟨⟨xs,ys,xs[i],ys[i],q1,q2,g1,g2⟩,Pv (i + 1),fun σ' H' p'=>⟨min xs.length ys.length - (i + 1),by omega,rfl,hlt,p'⟩,fun v H' y=>?_⟩
  obtain ⟨T,x,y,rfl,hT,rfl,e1,e2⟩:=y
  exact hs i x y T σ H (e1 xs q1) (e2 ys q2) hT p
 ·have e:i=min xs.length ys.length:=by omega
  subst e
  exact .inl ⟨⟨xs,ys,q1,q2,by omega⟩,hd σ H p⟩
end
section
variable {X:Cx} {fr:Fr} {ta:DTA} {tb:DTS} {pos:Pos}
theorem u_ {K:PySem.W.Frag} {W1:Vw} {d:Dt} {v:V} {ds:List Dt} (i1:Is K W1.g d v) (el:xk d=some ds):∃ a xs,v=.ref a∧(∀ W2:Vw,Same W1.g W2.g→SqL K W2.h a xs)∧AllIs K W1.g ds xs:=by
 cases d with
 | lst es=>
  obtain rfl:es=ds:=Option.some.inj el
  obtain ⟨a,xs,rfl,h1,h2⟩:=is_lst.mp i1
  exact ⟨a,xs,rfl,fun W2 s2=>.of (W2.sub _ _ (s2 _ _ h1)),h2⟩
 | scr ns=>
  obtain rfl:ns.map Dt.int=ds:=Option.some.inj el
  obtain ⟨a,rfl,h1⟩:=is_scr.mp i1
  exact ⟨a,_,rfl,fun W2 s2=>W2.sub.seq (s2.seq h1),AllIs.ints⟩
 | _=>cases el
def du (i j:Nat) (ta:DTA) (tb:DTS):DTS:=fun D ρ=>ta ρ fun ds=>∃ (d e:Dt) (xs ys:List Dt) (Pv:Nat→DS→Prop),ds=[d,e]∧xk d=some xs∧xk e=some ys∧Pv 0 ρ∧
 (∀ n x y ρ',xs[n]? = some x→ys[n]? = some y→Pv n ρ'→tb { D with nx:=Pv (n + 1),ct:=Pv (n + 1),bk:=D.nx } ((ρ'.set i (.some x)).set j (.some y)))∧∀ ρ',Pv (min xs.length ys.length) ρ'→D.nx ρ'
theorem oh {i j:Nat} {x y:Str} {a b:Expr} {body:List Stmt} {px py pt p0 pos1:Pos} {kt:Nat} (hc:X.calm=true) (hN:X.N.Nodup) (hi:X.N[i]? = some x) (hj:X.N[j]? = some y) (hx:Loc X.env.scope x) (hy:Loc X.env.scope y) (hp:PassesOwn (model X.prog X.w) X.A X.env X.xe)
  (hg:Gl X "zip") (hm:X.mg "zip"=none) (ha:DA X [a,b] ta) (hb:DSs X fr body tb) (hs:∀ z,foldedSetIterable (.Call (.Name "zip" p0) [a,b] [] pos1) X.env z=pure z:=by intro _; rfl)
  (hst:starEach [a,b] X.env=(false,eval a X.env) :: starEach [b] X.env:=by rfl) (hpl:(backTo pos1 (starEach [b] X.env)).any (·.1)=false:=by rfl)
  (hf:X.fn x=true∨X.env.scope.names.lookup x=some .local:=by first | exact .inl rfl | exact .inr rfl | assumption) (hf2:X.fn y=true∨X.env.scope.names.lookup y=some .local:=by first | exact .inl rfl | exact .inr rfl | assumption):
  DSt X fr (.For (.Tuple [.Name x px,.Name y py] kt pt) (.Call (.Name "zip" p0) [a,b] [] pos1) body [] pos) (du i j ta tb):=by
 obtain ⟨tt,p,l⟩:=ha
 obtain ⟨tbs,p2,l2⟩:=hb
 refine ⟨_,wD hp hc (i_ hg hm p hst hpl) (uV hc (ye (zS hN hi hx hf) (ye (zS hN hj hy hf2) wU))) p2 hs,fun W0 G ρ σ W D D' at_ s h=>l ρ σ W _ at_.rl h _ fun ds vs W1 s1 i1 ⟨d,e,xs,ys,Pv,ed,el1,el2,h0,ht,hd⟩=>?_⟩
 subst ed
 obtain ⟨v1,v2,rfl,j1,j2⟩:=i1.two
 have hg1:Same G W1.g:=at_.gs.trans s1.g
 obtain ⟨l1,us,rfl,hq1,ha1⟩:=u_ j1 el1
 obtain ⟨l2',ws,rfl,hq2,ha2⟩:=u_ j2 el2
 refine ⟨l1,l2',us,ws,rfl,hq1 W1 (Same.refl _),hq2 W1 (Same.refl _),jv (K:=X.K) (xs:=us) (ys:=ws) (fun n=>InL X.K (Zx X) W0 W1 (Pv n)) ⟨ρ,W1,rfl,(at_.step s1).now,h0⟩ (fun n σ' H' ⟨_,W2,e2,a2,_⟩=>e2 ▸ ⟨hq1 W2 a2.gs,hq2 W2 a2.gs⟩) ?_ ?_⟩
 ·rintro n u w T σ' _ hu hw hT ⟨ρ',W2,rfl,a2,hp2⟩
  obtain ⟨x',ex,ix⟩:=ha1.get' hu
  obtain ⟨y',ey,iy⟩:=ha2.get' hw
  have s3:=x6 hT (.tup [u,w])
  have a3:=a2.step s3
  refine ⟨T,_,rfl,.of zu,rfl,u,[w],rfl,w,[],rfl,rfl,?_⟩
  exact l2 W0 W1.g _ _ (W2.new T (.tup [u,w])) { D with nx:=Pv (n + 1),ct:=Pv (n + 1),bk:=D.nx } _ ((a3.set i (Is.mono0 a3.gs ix)).set j (Is.mono0 a3.gs iy)) (yB s hg1) (ht n x' y' ρ' ex ey hp2)
 ·rintro σ' _ ⟨ρ',W2,rfl,a2,hp2⟩
  exact s.nx ρ' σ' W2 (a2.weak hg1) (hd ρ' (by rw [ha1.length,ha2.length]; exact hp2))
def ii (K:PySem.W.Frag) (t:DTE):TE:=fun σ H R=>∃ (F:Hp) (ρ:DS) (W:Vw) (Q:Dt→Prop),W.h=H∧Rl K (fun _=>none) F W ρ σ∧t ρ Q∧∀ d v W',Le W W'→Is K W'.g d v→Q d→R v W'.h
theorem DE.up {e:Expr} {t:DTE} (h:DE X e t) (hz:X.stack.length=X.outer.length:=by rfl):PE X e (ii X.K t):=by
 obtain ⟨te,p,l⟩:=h
 intro pins s σ H R I q
 obtain ⟨F,ρ,W,Q,rfl,r,h,k⟩:=q
 have r':Rl X.K (Zx X) F W ρ σ:=by unfold Zx; rw [if_pos (Or.inl hz)]; exact r
 exact p pins s σ W.h R I (l ρ σ W Q r' h R k)
theorem jo {K:PySem.W.Frag} {t:DTE}:LiE K (fun _=>none) (ii K t) t:=fun ρ σ H Q r h R k=>⟨_,ρ,H,Q,rfl,r,h,k⟩
theorem LiF.le {K:PySem.W.Frag} {te:TE} {t:DTE} (l:LiF K Z te t):LiE K Z te t:=fun ρ σ H Q r h R k=>l ρ σ H Q r h R fun es q xs H' s h0 h1 h2 i z=>k (.lst es) (.ref q) (H'.frz q _ h1) (vK s h0 h1 h2) (is_lst.mpr ⟨q,xs,rfl,zu,AllIs.mono0 (zF h2 _) i⟩) z
variable {scope:Scope} {x:Str} {elt iter:Expr} {px:Pos} {tl te:DTE}
end
end OD
namespace OD
variable {Z:Hp}
open PySem PySem.Spec PyProof.Rows L2
def Ite (K:PySem.W.Frag) (l:Addr):It:=
 ⟨fun i H=>∃ xs x,SqL K H l xs∧xs[i]? = some x,
  fun i H v H'=>∃ T x,v=.ref T∧H T=none∧H'=upd H T (.tup [.int i,x])∧∀ xs,SqL K H l xs→xs[i]? = some x,
  fun i H=>∃ xs,SqL K H l xs∧xs.length ≤ i⟩
def iR (l e it:Addr) (i:Nat) (h:Heap):Prop:=(∃ old,IsEnum h e it (i:Int) old)∧h.IsListIter it l i
theorem nu {P:Program} {w:World} {K:PySem.W.Frag} {elts:List Expr} {x1} {tpos:Pos} (l e it:Addr) (hne:e ≠ it):rX P w K (.Tuple elts x1 tpos) (Ite K l) [e,it] e (iR l e it) where
 mem:=by simp
 obj:=fun i h ⟨⟨old,h1⟩,⟨o4,e4,c4,d4⟩⟩ b hb=>by
  simp only [List.mem_cons,List.not_mem_nil,or_false] at hb
  rcases hb with rfl | rfl
  ·exact ⟨_,h1,fun v z=>by cases z⟩
  ·exact ⟨_,e4,fun v z=>by rw [d4] at z; cases z⟩
 keep:=fun i h h' ⟨⟨old,h1⟩,⟨o4,e4,c4⟩⟩ k=>⟨⟨old,k e (by simp) _ h1⟩,⟨o4,k it (by simp) _ e4,c4⟩⟩
 item:=fun X hP hw hK hc i pins s σ H E I hfp ⟨⟨old,h1⟩,h4⟩ ⟨xs,x,q1,e1⟩=>by
  subst hP hw hK
  obtain ⟨its1,r1,p1,z1⟩:=I.list q1
  obtain ⟨u,eu,ru⟩:=r1.get e1
  refine wpAny_pyNext_enum_item h1 h4 p1.isList (x:=u) (by simpa using eu) hne fun h' a1 a2 a3 a4 a5=>?_
  refine ⟨_,rfl,wpAny_letOwnedTupleGo_enum a1 fun h'' b1 b2=>?_⟩
  have ne:∀ b ∈ [e,it],b ≠ s.heap.objs.size:=fun b hb=>by
   simp only [List.mem_cons,List.not_mem_nil,or_false] at hb
   obtain ⟨o4,e4,_⟩:=id h4
   rcases hb with rfl | rfl
   ·exact Nat.ne_of_lt (Heap.lt_size h1)
   ·exact Nat.ne_of_lt (Heap.lt_size e4)
  have en:e ≠ s.heap.objs.size:=ne e (by simp)
  have aT:=b2.extBut _ _ (Ne.symm en) a3
  have I':Inv X pins σ (upd H s.heap.objs.size (.tup [.int i,x])) { s with heap:=h'',toks:=s.toks + 1 }:=vY (ch:=[e,it]) (t':=s.toks + 1) I hfp (fun b o hb q=>by
    simp only [List.mem_cons,List.not_mem_nil,or_false,not_or] at hb
    exact b2.extBut b o hb.1 (a5 b o hb.1 hb.2 q)) (Nat.le_refl _) ⟨by show 2 ≤ sizeLine; rw [sizeLine_eq]; decide,[.int i s.toks,u],.cons ⟨_,rfl⟩ (.cons ru .nil),_,aT,rfl,_,rfl⟩
  refine ⟨.ref s.heap.objs.size,_,I',rfl,⟨_,x,rfl,I.fresh,rfl,fun xs' q=>?_⟩,⟨⟨u,?_⟩,a2.extBut b2.extBut (Ne.symm hne)⟩,fun b hb=>?_⟩
  ·rw [I.list_inj q q1]; exact e1
  ·have:((i + 1:Nat):Int)=(i:Int) + 1:=by omega
   show IsEnum h'' e it ((i + 1:Nat):Int) u
   rw [this]
   exact b1
  ·exact (zr (ne b hb)).trans (hfp b hb).1
 done:=fun X hP hw hK hc i pins s σ H E I hfp ⟨⟨old,h1⟩,h4⟩ ⟨xs,q1,e1⟩=>by
  subst hP hw hK
  obtain ⟨its1,r1,p1,z1⟩:=I.list q1
  refine wpAny_pyNext_enum_end (I.ok.hd hc) h1 h4 p1.isList ?_ fun h' hk=>⟨rfl,?_⟩
  ·have:=r1.length
   simp; omega
  ·exact tm (ch:=[e,it]) (t':=s.toks) I hfp fun b o hb q=>by
    simp only [List.mem_cons,List.not_mem_nil,or_false,not_or] at hb
    exact hk b o hb.2 q
 self:=fun A i s Q E ⟨⟨old,h1⟩,_⟩ q=>wpAny_pyIter_enum h1 q
def eM (K:PySem.W.Frag) (ta:TA):TI:=fun σ H R=>ta σ H fun vs H1=>∃ l xs,vs=[.ref l]∧SqL K H1 l xs∧R (Ite K l) H1
section
variable {X:Cx}
theorem n8:bootBuiltins "enumerate"=some (.type "enumerate"):=by decide +kernel
theorem k_ {a:Expr} {ta:TA} {p pos:Pos} {elts:List Expr} {x1} {tpos:Pos} (hg:Gl X "enumerate") (hm:X.mg "enumerate"=none) (ha:PA X [a] ta) (hs:starEach [a] X.env=(false,eval a X.env) :: starEach [] X.env:=by rfl)
  (hpl:(backTo pos (starEach [] X.env)).any (·.1)=false:=by rfl):PI X (.Tuple elts x1 tpos) (.Call (.Name "enumerate" p) [a] [] pos) (eM X.K ta):=by
 intro pins s σ H R I h
 refine Call_ (xl I hg hm n8 (PyProof.Rows.callWith_type1 (thn (ha pos pins s σ H _ I h) fun us s1 ⟨vs,H1,I1,r1,q1⟩=>?_) hs hpl))
 obtain ⟨l,xs,e,q1,q⟩:=q1
 subst e
 obtain ⟨u,rfl,ru⟩:=r1.one
 cases ru
 obtain ⟨its1,r1,p1,z1⟩:=I1.list q1
 refine call_enumerate_list p1.isList fun h' b1 b2 b3 b4=>?_
 have I2:Inv X pins σ H1 { s1 with heap:=h' }:=I1.kept (t':=s1.toks) b4
 refine wpAny_pyIter_enum b1 ⟨s1.heap.objs.size + 1,[s1.heap.objs.size + 1,s1.heap.objs.size],_,_,H1,rfl,I2,nu l (s1.heap.objs.size + 1) s1.heap.objs.size (Nat.succ_ne_self _),⟨⟨_,b1⟩,b2⟩,fun b hb=>?_,q⟩
 have hb':s1.heap.objs.size ≤ b:=by
  simp only [List.mem_cons,List.not_mem_nil,or_false] at hb
  rcases hb with rfl | rfl
  ·exact Nat.le_add_right _ _
  ·exact Nat.le_refl _
 have f:=I1.fpOk hb' (I1.hok.fresh hb')
 exact f
theorem lF {K:PySem.W.Frag} {l:Addr} {xs:List V} {g:TG} {tb:TS} {D:Ends} {σ:St} {H:Hp} (Pv:Nat→St→Hp→Prop) (h0:Pv 0 σ H) (hl:∀ i σ H,Pv i σ H→SqL K H l xs)
  (hs:∀ (i:Nat) x T σ H,xs[i]? = some x→H T=none→Pv i σ H→g (.ref T) σ (upd H T (.tup [.int i,x])) fun σ2 H2=>tb { D with nx:=Pv (i + 1),ct:=Pv (i + 1),bk:=D.nx } σ2 H2) (hd:∀ σ H,Pv xs.length σ H→D.nx σ H):
  ∃ W:Nat→Nat→St→Hp→Prop,(∃ m,W 0 m σ H)∧∀ i m σ H,W i m σ H→
   ((Ite K l).stop i H∧D.nx σ H)∨((Ite K l).go i H∧∃ N:St→Hp→Prop,(∀ σ' H',N σ' H'→∃ m',m' < m∧W (i + 1) m' σ' H')∧∀ x H',(Ite K l).yld i H x H'→g x σ H' fun σ2 H2=>tb { D with nx:=N,ct:=N,bk:=D.nx } σ2 H2):=by
 refine ⟨fun i m σ H=>m=xs.length - i∧i ≤ xs.length∧Pv i σ H,⟨_,rfl,Nat.zero_le _,h0⟩,?_⟩
 rintro i m σ H ⟨rfl,hi,p⟩
 have q1:=hl i σ H p
 by_cases hlt:i < xs.length
 ·have g1:xs[i]? = some xs[i]:=List.getElem?_eq_getElem hlt
  refine .inr ⟨⟨xs,xs[i],q1,g1⟩,Pv (i + 1),fun σ' H' p'=>⟨xs.length - (i + 1),by omega,rfl,hlt,p'⟩,fun v H' y=>?_⟩
  obtain ⟨T,x,rfl,hT,rfl,e1⟩:=y
  exact hs i x T σ H (e1 xs q1) hT p
 ·have e:i=xs.length:=by omega
  subst e
  exact .inl ⟨⟨xs,q1,Nat.le_refl _⟩,hd σ H p⟩
end
section
variable {X:Cx} {fr:Fr} {ta:DTA} {tb:DTS} {pos p0 p1 p2:Pos}
def dB (i j:Nat) (ta:DTA) (tb:DTS):DTS:=fun D ρ=>ta ρ fun ds=>∃ (d:Dt) (xs:List Dt) (Pv:Nat→DS→Prop),ds=[d]∧xk d=some xs∧Pv 0 ρ∧
 (∀ (n:Nat) x ρ',xs[n]? = some x→Pv n ρ'→tb { D with nx:=Pv (n + 1),ct:=Pv (n + 1),bk:=D.nx } ((ρ'.set i (.some (.int n))).set j (.some x)))∧∀ ρ',Pv xs.length ρ'→D.nx ρ'
theorem vP {i j:Nat} {x y:Str} {a:Expr} {body:List Stmt} {px py pt p0 pos1:Pos} {kt:Nat} (hc:X.calm=true) (hN:X.N.Nodup) (hi:X.N[i]? = some x) (hj:X.N[j]? = some y) (hx:Loc X.env.scope x) (hy:Loc X.env.scope y) (hp:PassesOwn (model X.prog X.w) X.A X.env X.xe)
  (hg:Gl X "enumerate") (hm:X.mg "enumerate"=none) (ha:DA X [a] ta) (hb:DSs X fr body tb) (hs:∀ z,foldedSetIterable (.Call (.Name "enumerate" p0) [a] [] pos1) X.env z=pure z:=by intro _; rfl)
  (hst:starEach [a] X.env=(false,eval a X.env) :: starEach [] X.env:=by rfl) (hpl:(backTo pos1 (starEach [] X.env)).any (·.1)=false:=by rfl)
  (hf:X.fn x=true∨X.env.scope.names.lookup x=some .local:=by first | exact .inl rfl | exact .inr rfl | assumption) (hf2:X.fn y=true∨X.env.scope.names.lookup y=some .local:=by first | exact .inl rfl | exact .inr rfl | assumption):
  DSt X fr (.For (.Tuple [.Name x px,.Name y py] kt pt) (.Call (.Name "enumerate" p0) [a] [] pos1) body [] pos) (dB i j ta tb):=by
 obtain ⟨tt,p,l⟩:=ha
 obtain ⟨tbs,p2,l2⟩:=hb
 refine ⟨_,wD hp hc (k_ hg hm p hst hpl) (uV hc (ye (zS hN hi hx hf) (ye (zS hN hj hy hf2) wU))) p2 hs,fun W0 G ρ σ W D D' at_ s h=>l ρ σ W _ at_.rl h _ fun ds vs W1 s1 i1 ⟨d,xs,Pv,ed,el1,h0,ht,hd⟩=>?_⟩
 subst ed
 obtain ⟨v1,rfl,j1⟩:=i1.one
 have hg1:Same G W1.g:=at_.gs.trans s1.g
 obtain ⟨l1,us,rfl,hq1,ha1⟩:=u_ j1 el1
 refine ⟨l1,us,rfl,hq1 W1 (Same.refl _),lF (K:=X.K) (xs:=us) (fun n=>InL X.K (Zx X) W0 W1 (Pv n)) ⟨ρ,W1,rfl,(at_.step s1).now,h0⟩ (fun n σ' H' ⟨_,W2,e2,a2,_⟩=>e2 ▸ hq1 W2 a2.gs) ?_ ?_⟩
 ·rintro n u T σ' _ hu hT ⟨ρ',W2,rfl,a2,hp2⟩
  obtain ⟨x',ex,ix⟩:=ha1.get' hu
  have s3:=x6 hT (.tup [.int n,u])
  have a3:=a2.step s3
  refine ⟨T,_,rfl,.of zu,rfl,.int n,[u],rfl,u,[],rfl,rfl,?_⟩
  exact l2 W0 W1.g _ _ (W2.new T (.tup [.int n,u])) { D with nx:=Pv (n + 1),ct:=Pv (n + 1),bk:=D.nx } _ ((a3.set i (is_int.mpr rfl)).set j (Is.mono0 a3.gs ix)) (yB s hg1) (ht n x' ρ' ex hp2)
 ·rintro σ' _ ⟨ρ',W2,rfl,a2,hp2⟩
  exact s.nx ρ' σ' W2 (a2.weak hg1) (hd ρ' (by rw [ha1.length]; exact hp2))
theorem lR {j:Nat} {x:Str} {a b:Expr} {body:List Stmt} {px p0 pos1:Pos} (hc:X.calm=true) (hN:X.N.Nodup) (hi:X.N[j]? = some x) (hx:Loc X.env.scope x) (hp:PassesOwn (model X.prog X.w) X.A X.env X.xe)
  (hg:Gl X "range") (hm:X.mg "range"=none) (h:DA X [a,b] ta) (hb:DSs X fr body tb) (hs:∀ x,foldedSetIterable (.Call (.Name "range" p0) [a,b] [] pos1) X.env x=pure x:=by intro _; rfl)
  (hst:starEach [a,b] X.env=[(false,eval a X.env),(false,eval b X.env)]:=by rfl) (hst2:starEach [b] X.env=[(false,eval b X.env)]:=by rfl)
  (hf:X.fn x=true∨X.env.scope.names.lookup x=some .local:=by first | exact .inl rfl | exact .inr rfl | assumption):DSt X fr (.For (.Name x px) (.Call (.Name "range" p0) [a,b] [] pos1) body [] pos) (g6 j ta tb):=by
 obtain ⟨tt,p,l⟩:=h
 obtain ⟨tbs,p2,l2⟩:=hb
 refine ⟨_,wD hp hc (nI hg hm p hst hst2) (zS hN hi hx hf) p2 hs,fun W0 G ρ σ W D D' at_ s h=>l ρ σ W _ at_.rl h _ fun ds vs W1 s1 i1 ⟨m,n,Pv,ed,m1,m2,n1,n2,h0,ht,hd⟩=>?_⟩
 subst ed
 obtain ⟨v1,v2,rfl,j1,j2⟩:=i1.two
 have hg1:Same G W1.g:=at_.gs.trans s1.g
 refine ⟨m,n,by rw [is_int.mp j1,is_int.mp j2],⟨m1,m2,n1,n2⟩,sJ (lo:=m) (n:=(n - m).toNat) (fun i=>InL X.K (Zx X) W0 W1 (Pv i)) ⟨ρ,W1,rfl,(at_.step s1).now,h0⟩ ?_ ?_⟩
 ·rintro i σ' _ hi ⟨ρ',W2,rfl,a2,hp2⟩
  exact l2 W0 W1.g _ _ W2 { D with nx:=Pv (i + 1),ct:=Pv (i + 1),bk:=D.nx } _ (a2.set j (is_int.mpr rfl)) (yB s hg1) (ht i ρ' hi hp2)
 ·rintro σ' _ ⟨ρ',W2,rfl,a2,hp2⟩
  exact s.nx ρ' σ' W2 (a2.weak hg1) (hd ρ' hp2)
structure ua (K:PySem.W.Frag) (C:Addr):Prop where
 cl:Cls K C
 ha:PySem.W.findIn K (.ref C) "__class__"=some (some (.builtin "object.__class__"))
 hn:PySem.W.specialIn K (.builtin "object.__class__") "__get__"=some (some (.builtin "getset_descriptor.__get__"))
 htk:PySem.W.takesIn K (.builtin "object.__class__")=some true
 hm:PySem.W.mroIn K C (.type "object")=some true
theorem n6:CallR X (.builtin "isinstance") (fun xs H Q=>∃ v D tv b,xs=[v,.ref D]∧wO X.K H v tv∧PySem.W.kitOne X.K tv (.ref D)=some b∧Q (.bl b) H):=by
 intro pins s σ H xs us Q I r h
 obtain ⟨v,D,tv,b,rfl,hty,hk,q⟩:=h
 cases r with
 | cons r1 r2=>
  cases r2 with
  | cons r3 r4=>
   cases r4
   cases r3
   exact sI I r1 hty hk fun tk=>⟨.bl b,H,I.tok _,rfl,q⟩
def dr (K:PySem.W.Frag) (D:Addr) (ta:DTE):DTE:=fun ρ Q=>ta ρ fun d=>∃ C f n b,d=.way C f n∧ua K C∧PySem.W.kitOne K (.ref C) (.ref D)=some b∧Q (.bl b)
theorem uF {a:Expr} {t:DTE} {y:Str} {p':Pos} {D:Addr} (hm:X.mg "isinstance"=none) (hmc:X.mg y=some (.ref D)) (ha:DE X a t)
  (hg:Gl X "isinstance":=by rfl) (hgc:Gl X y:=by rfl) (hdy:(y == ("__debug__":Str))=false:=by decide)
  (hs:starEach [a,.Name y p'] X.env=(false,eval a X.env) :: starEach [.Name y p'] X.env:=by rfl) (hs2:starEach [.Name y p'] X.env=(false,eval (.Name y p') X.env) :: starEach [] X.env:=by rfl)
  (hpl:(backTo pos (starEach [.Name y p'] X.env)).any (·.1)=false:=by rfl):
  DE X (.Call (.Name "isinstance" p0) [a,.Name y p'] [] pos) (dr X.K D t):=by
 obtain ⟨te,p1,l1⟩:=ha
 have pc:PE X (.Name y p') (tC (.ref D)):=oI hgc hmc rfl hdy
 refine ⟨_,xo n6 hg hm boot_isinstance (zL p1 (zL pc yF hs2) hs) (by decide) (by decide) hs hpl,fun ρ σ H Q r h R k=>l1 ρ σ H _ r h _ fun d v H1 s1 i1 ⟨C,f,n,b,ed,ok,e,q⟩=>?_⟩
 subst ed
 obtain ⟨p,dx,rfl,hp⟩:=is_way.mp i1
 exact ⟨_,D,_,b,rfl,.ins (H1.sub _ _ hp) ok.cl ok.ha ok.hn ok.htk ok.hm,e,k _ _ H1 s1 (is_bl.mpr rfl) q⟩
end
end OD
namespace OD
variable {Z:Hp}
open PySem PySem.Spec PyProof.Rows L2
def Itd (lo:Int) (n:Nat):It:=⟨fun i _=>i < n,fun i H x H'=>H'=H∧x=.int (lo - i),fun i _=>n ≤ i⟩
theorem nv {P:Program} {w:World} {K:PySem.W.Frag} {tg:Expr} (it:Addr) (lo:Int) (n:Nat):rX P w K tg (Itd lo n) [it] it (fun i h=>IsRangeIter h it (lo + (i:Nat) * (-1)) ((n:Int) - (i:Nat)) (-1)) where
 mem:=by simp
 obj:=fun i h st b hb=>by
  have e:b=it:=by simpa using hb
  subst e
  exact ⟨_,st,fun v z=>by
   have z':Data.fields _=Data.cell v:=z
   cases z'⟩
 keep:=fun i h h' st k=>k it (by simp) _ st
 item:=by
  intro X hP hw hK hc i pins s σ H E I hf st hg
  subst hP hw hK
  obtain ⟨f0,f1,f2,f3,f4,f5⟩:=hf it (by simp)
  have W:=Walks.range (prog:=X.prog) (w:=X.w) (I.ok.hd hc) it lo (-1) n
  refine W.item i s _ _ hg st fun v h' tk hv st' kk=>?_
  obtain ⟨t,rfl⟩:=hv
  have I1:Inv X pins σ H { s with heap:=h',toks:=tk }:=I.turned (fun b o hb e=>kk b o (by simpa using hb) e) f0 f1 f3 f4 f5
  refine ⟨_,rfl,oP (s:={ s with heap:=h',toks:=tk }) (n:="range_iterator") st' rfl rfl (by decide) ⟨.int (lo - i),H,I1,⟨t,?_⟩,⟨rfl,rfl⟩,st',fun b hb=>(hf b hb).1⟩⟩
  rw [show lo + (i:Int) * (-1)=lo - i by omega]
 done:=by
  intro X hP hw hK hc i pins s σ H E I hf st hg
  subst hP hw hK
  obtain ⟨f0,f1,f2,f3,f4,f5⟩:=hf it (by simp)
  exact wpAny_pyNext_range_end (I.ok.hd hc) st (by have:n ≤ i:=hg; omega) fun h' eb=>⟨rfl,I.turned (t':=s.toks) (fun b o hb e=>eb b o hb e) f0 f1 f3 f4 f5⟩
 self:=fun _ _ _ _ _ st h=>wpAny_pyIter_rangeiter st h
theorem xY (a b:Int):Builtin.Range.rangeSize a b (-1)=if b < a then a - b else 0:=by
 unfold Builtin.Range.rangeSize
 rw [if_neg (by decide)]
 split
 ·rename_i h
  have:(a - b - 1) / (- -1)=a - b - 1:=by rw [show (- -1:Int)=1 by decide,Int.ediv_one]
  omega
 ·rfl
theorem pd {a b:Int} (ha:-(2 ^ 62) ≤ a) (ha':a < 2 ^ 62) (hb:-(2 ^ 62) ≤ b) (hb':b < 2 ^ 62):Builtin.Range.small a b (-1)=true:=by
 unfold Builtin.Range.small
 rw [xY]
 simp only [Builtin.Range.rangeFitsLong,Bool.and_eq_true,Bool.or_eq_true,decide_eq_true_eq,beq_iff_eq,show ¬ (-1:Int) > 0 by decide,if_false]
 split <;> omega
section
variable {X:Cx} {tg:Expr}
def eN (ta:TA):TI:=fun σ H R=>ta σ H fun vs H1=>∃ i j:Int,vs=[.int i,.int j,.int (-1)]∧(-(2 ^ 30) ≤ i∧i < 2 ^ 30∧-(2 ^ 30) ≤ j∧j < 2 ^ 30)∧R (Itd i (i - j).toNat) H1
theorem ja {a b c:Expr} {ta:TA} {p pos:Pos} (hg:Gl X "range") (hm:X.mg "range"=none) (ha:PA X [a,b,c] ta) (hs:starEach [a,b,c] X.env=(false,eval a X.env) :: starEach [b,c] X.env:=by rfl)
  (hpl:(backTo pos (starEach [b,c] X.env)).any (·.1)=false:=by rfl):PI X tg (.Call (.Name "range" p) [a,b,c] [] pos) (eN ta):=by
 intro pins s σ H R I h
 refine Call_ (xl I hg hm boot_range (PyProof.Rows.callWith_type1 (thn (ha pos pins s σ H _ I h) fun us s1 ⟨vs,H1,I1,r1,q1⟩=>?_) hs hpl))
 obtain ⟨i,j,e,⟨q1,q2,q3,q4⟩,q⟩:=q1
 subst e
 cases r1 with
 | cons r rr=>
 cases rr with
 | cons r' rr=>
 cases rr with
 | cons r'' rr=>
  cases rr
  obtain ⟨t,rfl⟩:=r
  obtain ⟨t',rfl⟩:=r'
  obtain ⟨t'',rfl⟩:=r''
  refine call_range_3 (by decide) ?_ (Or.inl (PyProof.noPylong_small (by omega)))
  refine wpAny_pyIter_range (IsRange.new ..) (pd (by omega) (by omega) (by omega) (by omega)) ?_
  have I2:Inv X pins σ H1 { s1 with heap:=s1.heap.push { cls:=.type "range",data:=.fields #[.int i t,.int j t',.int (-1) t''] },toks:=s1.toks }:=I1.kept fun b o e=>Heap.get?_push_of_some _ e
  refine ⟨(s1.heap.push { cls:=.type "range",data:=.fields #[.int i t,.int j t',.int (-1) t''] }).objs.size,[(s1.heap.push { cls:=.type "range",data:=.fields #[.int i t,.int j t',.int (-1) t''] }).objs.size],_,_,H1,rfl,
   I2.kept (t':=s1.toks) fun b o e=>Heap.get?_push_of_some _ e,nv _ i (i - j).toNat,?_,fun b hb=>?_,q⟩
  ·have e1:i + ((0:Nat):Int) * (-1)=i:=by simp
   have e2:(((i - j).toNat:Nat):Int) - ((0:Nat):Int)=Builtin.Range.rangeSize i j (-1):=by rw [xY]; split <;> omega
   show IsRangeIter _ _ (i + ((0:Nat):Int) * (-1)) ((((i - j).toNat:Nat):Int) - ((0:Nat):Int)) (-1)
   rw [e1,e2]
   exact Heap.get?_push_size _ rfl
  ·have e:b=(s1.heap.push { cls:=.type "range",data:=.fields #[.int i t,.int j t',.int (-1) t''] }).objs.size:=by simpa using hb
   subst e
   exact I2.fpOk (Nat.le_refl _) (I2.hok.fresh (Nat.le_refl _))
theorem lG {lo:Int} {n:Nat} {g:TG} {tb:TS} {D:Ends} {σ:St} {H:Hp} (Pv:Nat→St→Hp→Prop) (h0:Pv 0 σ H)
  (hs:∀ i σ H,i < n→Pv i σ H→g (.int (lo - i)) σ H fun σ2 H2=>tb { D with nx:=Pv (i + 1),ct:=Pv (i + 1),bk:=D.nx } σ2 H2) (hd:∀ σ H,Pv n σ H→D.nx σ H):
  ∃ W:Nat→Nat→St→Hp→Prop,(∃ m,W 0 m σ H)∧∀ i m σ H,W i m σ H→
   ((Itd lo n).stop i H∧D.nx σ H)∨((Itd lo n).go i H∧∃ N:St→Hp→Prop,(∀ σ' H',N σ' H'→∃ m',m' < m∧W (i + 1) m' σ' H')∧∀ x H',(Itd lo n).yld i H x H'→g x σ H' fun σ2 H2=>tb { D with nx:=N,ct:=N,bk:=D.nx } σ2 H2):=by
 refine ⟨fun i m σ H=>m=n - i∧i ≤ n∧Pv i σ H,⟨n,by simp,Nat.zero_le _,h0⟩,?_⟩
 rintro i m σ H ⟨rfl,hi,p⟩
 by_cases hlt:i < n
 ·refine .inr ⟨hlt,Pv (i + 1),fun σ' H' p'=>⟨n - (i + 1),by omega,rfl,hlt,p'⟩,fun x H' y=>?_⟩
  obtain ⟨e,y⟩:=y
  subst e y
  exact hs i σ _ hlt p
 ·have e:i=n:=by omega
  subst e
  exact .inl ⟨Nat.le_refl _,hd σ H p⟩
variable {fr:Fr} {ta:DTA} {tb:DTS} {te:DTE} {pos p0 p1 p2:Pos}
def dD (j:Nat) (ta:DTA) (tb:DTS):DTS:=fun D ρ=>ta ρ fun ds=>∃ (m n:Int) (Pv:Nat→DS→Prop),ds=[.int m,.int n,.int (-1)]∧-(2 ^ 30) ≤ m∧m < 2 ^ 30∧-(2 ^ 30) ≤ n∧n < 2 ^ 30∧Pv 0 ρ∧
 (∀ (i:Nat) ρ',i < (m - n).toNat→Pv i ρ'→tb { D with nx:=Pv (i + 1),ct:=Pv (i + 1),bk:=D.nx } (ρ'.set j (.some (.int (m - i)))))∧∀ ρ',Pv (m - n).toNat ρ'→D.nx ρ'
theorem AllIs.three {K:PySem.W.Frag} {H:Hp} {d e f:Dt} {xs:List V} (h:AllIs K H [d,e,f] xs):∃ v u w,xs=[v,u,w]∧Is K H d v∧Is K H e u∧Is K H f w:=by
 obtain ⟨x,r,rfl,h1,h2⟩:=allIs_cons.mp h
 obtain ⟨u,w,rfl,h3,h4⟩:=h2.two
 exact ⟨x,u,w,rfl,h1,h3,h4⟩
theorem jD {j:Nat} {x:Str} {a b c:Expr} {body:List Stmt} {px p0 pos1:Pos} (hc:X.calm=true) (hN:X.N.Nodup) (hi:X.N[j]? = some x) (hx:Loc X.env.scope x) (hp:PassesOwn (model X.prog X.w) X.A X.env X.xe)
  (hg:Gl X "range") (hm:X.mg "range"=none) (h:DA X [a,b,c] ta) (hb:DSs X fr body tb) (hs:∀ x,foldedSetIterable (.Call (.Name "range" p0) [a,b,c] [] pos1) X.env x=pure x:=by intro _; rfl)
  (hst:starEach [a,b,c] X.env=(false,eval a X.env) :: starEach [b,c] X.env:=by rfl) (hpl:(backTo pos1 (starEach [b,c] X.env)).any (·.1)=false:=by rfl)
  (hf:X.fn x=true∨X.env.scope.names.lookup x=some .local:=by first | exact .inl rfl | exact .inr rfl | assumption):DSt X fr (.For (.Name x px) (.Call (.Name "range" p0) [a,b,c] [] pos1) body [] pos) (dD j ta tb):=by
 obtain ⟨tt,p,l⟩:=h
 obtain ⟨tbs,p2,l2⟩:=hb
 refine ⟨_,wD hp hc (ja hg hm p hst hpl) (zS hN hi hx hf) p2 hs,fun W0 G ρ σ W D D' at_ s h=>l ρ σ W _ at_.rl h _ fun ds vs W1 s1 i1 ⟨m,n,Pv,ed,m1,m2,n1,n2,h0,ht,hd⟩=>?_⟩
 subst ed
 obtain ⟨v1,v2,v3,rfl,j1,j2,j3⟩:=i1.three
 have hg1:Same G W1.g:=at_.gs.trans s1.g
 refine ⟨m,n,by rw [is_int.mp j1,is_int.mp j2,is_int.mp j3],⟨m1,m2,n1,n2⟩,lG (lo:=m) (n:=(m - n).toNat) (fun i=>InL X.K (Zx X) W0 W1 (Pv i)) ⟨ρ,W1,rfl,(at_.step s1).now,h0⟩ ?_ ?_⟩
 ·rintro i σ' _ hi ⟨ρ',W2,rfl,a2,hp2⟩
  exact l2 W0 W1.g _ _ W2 { D with nx:=Pv (i + 1),ct:=Pv (i + 1),bk:=D.nx } _ (a2.set j (is_int.mpr rfl)) (yB s hg1) (ht i ρ' hi hp2)
 ·rintro σ' _ ⟨ρ',W2,rfl,a2,hp2⟩
  exact s.nx ρ' σ' W2 (a2.weak hg1) (hd ρ' hp2)
def ly:Dt→Bool
 | .non=>true
 | _=>false
theorem nS {K:PySem.W.Frag} {H:Hp} {d:Dt} {v:V} (h:Is K H d v):decide (v=.non)=ly d:=by
 cases d with
 | non=>rw [is_non.mp h]; rfl
 | bl b=>rw [is_bl.mp h]; rfl
 | int b=>rw [is_int.mp h]; rfl
 | str b=>rw [is_str.mp h]; rfl
 | tup b=>obtain ⟨a,xs,rfl,_⟩:=is_tup.mp h; rfl
 | lst b=>obtain ⟨a,xs,rfl,_⟩:=is_lst.mp h; rfl
 | scr b=>obtain ⟨a,rfl,_⟩:=is_scr.mp h; rfl
 | way b _ _=>obtain ⟨a,xs,rfl,_⟩:=is_way.mp h; rfl
 | exc b=>obtain ⟨a,rfl,_⟩:=is_exc.mp h; rfl
def iG (ta:DTE):DTE:=fun ρ Q=>ta ρ fun d=>Q (.bl (ly d))
theorem gJ {a:Expr} {j pos'} (ha:DE X a te):DT X (.Compare a [.Is] [.Constant .none j pos'] pos) (xM (iG te)):=by
 obtain ⟨t1,p1,l1⟩:=ha
 refine ⟨_,i8 (ge p1),rK (te:=fw t1) (t:=iG te) fun ρ σ H Q r h R k=>l1 ρ σ H _ r h _ fun d v H1 s1 i1 q=>k (.bl (ly d)) (.bl (decide (v=.non))) H1 s1 (is_bl.mpr (by rw [nS i1])) q⟩
end
end OD
namespace OD
variable {Z:Hp}
open PySem PySem.Spec PyProof.Rows L2
section
variable {X:Cx} {a:Expr} {te:TE} {tl th ts:TO} {lo hi:Option Expr} {st:Expr} {pos p2:Pos} {ta:DTE} {dl dh dt:DTO}
def Itv (K:PySem.W.Frag) (a:Addr):It:=
 ⟨fun i H=>∃ xs x,SqL K H a xs∧xs.reverse[i]? = some x,fun i H x H'=>H'=H∧∀ xs,SqL K H a xs→xs.reverse[i]? = some x,fun i H=>∃ xs,SqL K H a xs∧xs.length ≤ i⟩
def fk (l it:Addr) (n:Nat) (i:Nat) (h:Heap):Prop:=i ≤ n∧h.IsRevIter it l ((n:Int) - 1 - (i:Int))
theorem oG {α:Type} {xs:List α} {i:Nat} {x:α} (h:xs.reverse[i]? = some x):i < xs.length∧xs[xs.length - 1 - i]? = some x:=by
 have hi:i < xs.reverse.length:=by
  rcases Nat.lt_or_ge i xs.reverse.length with q | q
  ·exact q
  ·rw [List.getElem?_eq_none q] at h; cases h
 rw [List.length_reverse] at hi
 rw [List.getElem?_reverse hi] at h
 exact ⟨hi,h⟩
theorem mr {P:Program} {w:World} {K:PySem.W.Frag} {tg:Expr} (l it:Addr) (n:Nat):rX P w K tg ⟨fun i H=>∃ xs x,xs.length=n∧SqL K H l xs∧xs.reverse[i]? = some x,(Itv K l).yld,fun i H=>∃ xs,xs.length=n∧SqL K H l xs∧xs.length ≤ i⟩ [it] it (fk l it n) where
 mem:=by simp
 obj:=fun i h ⟨_,o,e,c,d⟩ b hb=>by
  have e':b=it:=by simpa using hb
  subst e'
  exact ⟨o,e,fun v z=>by rw [d] at z; cases z⟩
 keep:=fun i h h' ⟨hi,o,e,c⟩ k=>⟨hi,o,k it (by simp) _ e,c⟩
 item:=by
  intro X hP hw hK hc i pins s σ H E I hf st hg
  subst hP hw hK
  obtain ⟨xs,x,hn,hq,hx⟩:=hg
  obtain ⟨hi,st⟩:=st
  obtain ⟨hi2,hx2⟩:=oG hx
  obtain ⟨its,rv,p,hz⟩:=I.list hq
  obtain ⟨u,hu,ru⟩:=rv.get hx2
  obtain ⟨f0,f1,f2,f3,f4,f5⟩:=hf it (by simp)
  have e1:(n:Int) - 1 - (i:Int)=((xs.length - 1 - i:Nat):Int):=by omega
  rw [e1] at st
  refine wpAny_pyNext_rev_item st p.isList (x:=u) (by simpa using hu) fun h' st' sb=>?_
  have I1:Inv X pins σ H { s with heap:=h' }:=I.turned (t':=s.toks) (fun b o hb e=>(sb.2 b hb).trans e) f0 f1 f3 f4 f5
  obtain ⟨o,e,c,d⟩:=id st'
  refine ⟨u,rfl,oP (s:={ s with heap:=h' }) e c d (by decide) ⟨x,H,I1,ru,⟨rfl,fun ys hy=>by rw [I.list_inj hy hq]; exact hx⟩,⟨by omega,?_⟩,fun b hb=>(hf b hb).1⟩⟩
  have e2:(n:Int) - 1 - ((i + 1:Nat):Int)=((xs.length - 1 - i:Nat):Int) - 1:=by omega
  rw [e2]
  exact st'
 done:=by
  intro X hP hw hK hc i pins s σ H E I hf st hg
  subst hP hw hK
  obtain ⟨xs,hn,hq,hx⟩:=hg
  obtain ⟨hi,st⟩:=st
  obtain ⟨f0,f1,f2,f3,f4,f5⟩:=hf it (by simp)
  have e1:(n:Int) - 1 - (i:Int)=-1:=by omega
  rw [e1] at st
  exact wpAny_pyNext_rev_end (I.ok.hd hc) st fun h' eb=>⟨rfl,I.turned (t':=s.toks) (fun b o hb e=>eb b o hb e) f0 f1 f3 f4 f5⟩
 self:=fun _ _ _ _ _ st h=>wpAny_pyIter_revIter st.2 h
def cu (K:PySem.W.Frag) (ta:TA):TI:=fun σ H R=>ta σ H fun vs H1=>∃ l xs,vs=[.ref l]∧SqL K H1 l xs∧R ⟨fun i H=>∃ ys x,ys.length=xs.length∧SqL K H l ys∧ys.reverse[i]? = some x,(Itv K l).yld,fun i H=>∃ ys,ys.length=xs.length∧SqL K H l ys∧ys.length ≤ i⟩ H1
theorem kl:bootBuiltins "reversed"=some (.type "reversed"):=by decide +kernel
theorem hG {a:Expr} {ta:TA} {p pos:Pos} {tg:Expr} (hg:Gl X "reversed") (hm:X.mg "reversed"=none) (ha:PA X [a] ta) (hs:starEach [a] X.env=(false,eval a X.env) :: starEach [] X.env:=by rfl)
  (hpl:(backTo pos (starEach [] X.env)).any (·.1)=false:=by rfl):PI X tg (.Call (.Name "reversed" p) [a] [] pos) (cu X.K ta):=by
 intro pins s σ H R I h
 refine Call_ (xl I hg hm kl (PyProof.Rows.callWith_type1 (thn (ha pos pins s σ H _ I h) fun us s1 ⟨vs,H1,I1,r1,q1⟩=>?_) hs hpl))
 obtain ⟨l,xs,e,q1,q⟩:=q1
 subst e
 obtain ⟨u,rfl,ru⟩:=r1.one
 cases ru
 obtain ⟨its1,r1,p1,z1⟩:=I1.list q1
 refine call_reversed_list p1.isList ?_
 have I2:Inv X pins σ H1 { s1 with heap:=s1.heap.push (revObj l ((its1.toArray.size:Int) - 1)) }:=I1.kept (t':=s1.toks) fun b o e=>Heap.get?_push_of_some _ e
 have st:(s1.heap.push (revObj l ((its1.toArray.size:Int) - 1))).IsRevIter s1.heap.objs.size l ((xs.length:Int) - 1 - ((0:Nat):Int)):=by
  have e:(xs.length:Int) - 1 - ((0:Nat):Int)=(its1.toArray.size:Int) - 1:=by rw [List.size_toArray,← r1.length]; omega
  rw [e]
  exact ⟨_,Heap.get?_push_size _ rfl,rfl,rfl⟩
 refine wpAny_pyIter_revIter (s:={ s1 with heap:=s1.heap.push (revObj l ((its1.toArray.size:Int) - 1)) }) st ⟨s1.heap.objs.size,[s1.heap.objs.size],_,_,H1,rfl,I2,mr l s1.heap.objs.size xs.length,⟨Nat.zero_le _,st⟩,fun b hb=>?_,q⟩
 have e:b=s1.heap.objs.size:=by simpa using hb
 subst e
 exact I1.fpOk (Nat.le_refl _) (I1.hok.fresh (Nat.le_refl _))
variable {fr:Fr} {tA:DTA} {tb:DTS} {p0 p1:Pos}
def dw (j:Nat) (ta:DTA) (tb:DTS):DTS:=fun D ρ=>ta ρ fun ds=>∃ (d:Dt) (xs:List Dt) (Pv:Nat→DS→Prop),ds=[d]∧xk d=some xs∧Pv 0 ρ∧
 (∀ (n:Nat) x ρ',xs.reverse[n]? = some x→Pv n ρ'→tb { D with nx:=Pv (n + 1),ct:=Pv (n + 1),bk:=D.nx } (ρ'.set j (.some x)))∧∀ ρ',Pv xs.length ρ'→D.nx ρ'
theorem AllIs.rev {K:PySem.W.Frag} {H:Hp}:∀ {ds:List Dt} {xs:List V},AllIs K H ds xs→AllIs K H ds.reverse xs.reverse
 | [],_,h=>by rw [allIs_nil.mp h]; exact allIs_nil.mpr rfl
 | d :: ds,_,h=>by
  obtain ⟨x,r,rfl,h1,h2⟩:=allIs_cons.mp h
  rw [List.reverse_cons,List.reverse_cons]
  exact (AllIs.rev h2).append (allIs_cons.mpr ⟨x,[],rfl,h1,allIs_nil.mpr rfl⟩)
theorem ut {j:Nat} {x:Str} {a:Expr} {body:List Stmt} {px p0 pos1:Pos} (hc:X.calm=true) (hN:X.N.Nodup) (hi:X.N[j]? = some x) (hx:Loc X.env.scope x) (hp:PassesOwn (model X.prog X.w) X.A X.env X.xe)
  (hg:Gl X "reversed") (hm:X.mg "reversed"=none) (h:DA X [a] tA) (hb:DSs X fr body tb) (hs:∀ x,foldedSetIterable (.Call (.Name "reversed" p0) [a] [] pos1) X.env x=pure x:=by intro _; rfl)
  (hst:starEach [a] X.env=(false,eval a X.env) :: starEach [] X.env:=by rfl) (hpl:(backTo pos1 (starEach [] X.env)).any (·.1)=false:=by rfl)
  (hf:X.fn x=true∨X.env.scope.names.lookup x=some .local:=by first | exact .inl rfl | exact .inr rfl | assumption):DSt X fr (.For (.Name x px) (.Call (.Name "reversed" p0) [a] [] pos1) body [] pos) (dw j tA tb):=by
 obtain ⟨tt,p,l⟩:=h
 obtain ⟨tbs,p2,l2⟩:=hb
 refine ⟨_,wD hp hc (hG hg hm p hst hpl) (zS hN hi hx hf) p2 hs,fun W0 G ρ σ W D D' at_ s h=>l ρ σ W _ at_.rl h _ fun ds vs W1 s1 i1 ⟨d,xs,Pv,ed,el1,h0,ht,hd⟩=>?_⟩
 subst ed
 obtain ⟨v1,rfl,j1⟩:=i1.one
 have hg1:Same G W1.g:=at_.gs.trans s1.g
 obtain ⟨l1,us,rfl,hq1,ha1⟩:=u_ j1 el1
 refine ⟨l1,us,rfl,hq1 W1 (Same.refl _),fun i m σ' H'=>m=us.length - i∧i ≤ us.length∧InL X.K (Zx X) W0 W1 (Pv i) σ' H',⟨_,rfl,Nat.zero_le _,ρ,W1,rfl,(at_.step s1).now,h0⟩,?_⟩
 rintro i m σ' _ ⟨rfl,hi,ρ',W2,rfl,a2,hp2⟩
 have q1:=hq1 W2 a2.gs
 by_cases hlt:i < us.length
 ·have g1:us.reverse[i]? = some (us.reverse[i]'(by rw [List.length_reverse]; exact hlt)):=List.getElem?_eq_getElem _
  refine .inr ⟨⟨us,_,rfl,q1,g1⟩,InL X.K (Zx X) W0 W1 (Pv (i + 1)),fun σ' H' p'=>⟨us.length - (i + 1),by omega,rfl,hlt,p'⟩,fun v H' y=>?_⟩
  obtain ⟨rfl,y⟩:=y
  obtain ⟨x',ex,ix⟩:=ha1.rev.get' (y us q1)
  exact l2 W0 W1.g _ _ W2 { D with nx:=Pv (i + 1),ct:=Pv (i + 1),bk:=D.nx } _ (a2.set j (Is.mono0 a2.gs ix)) (yB s hg1) (ht i x' ρ' ex hp2)
 ·have e:i=us.length:=by omega
  subst e
  exact .inl ⟨⟨us,rfl,q1,Nat.le_refl _⟩,s.nx ρ' σ' W2 (a2.weak hg1) (hd ρ' (by rw [ha1.length]; exact hp2))⟩
theorem jm:MtR X "int.bit_length" (fun x vs H Q=>∃ i,x=.int i∧vs=[]∧Q (.int (Builtin.Int.intBits i)) H):=by
 intro pins s σ H x vs v us Q I rx rv h
 obtain ⟨i,rfl,rfl,q⟩:=h
 obtain ⟨t,rfl⟩:=rx
 have hus:=rv.zero
 subst hus
 exact call_int_bit_length ⟨.int _,H,I.tok _,⟨_,rfl⟩,q⟩
def dF (te:DTE):DTE:=fun ρ Q=>te ρ fun d=>∃ i,d=.int i∧Q (.int (Builtin.Int.intBits i))
theorem jG {o:Expr} {t:DTE} {apos cpos:Pos} (ho:DE X o t) (hbase:attributeBase o "bit_length" X.env (eval o X.env)=eval o X.env:=by rfl) (hline:(apos.endLine == cpos.line)=true:=by rfl):DE X (.Call (.Attribute o "bit_length" apos) [] [] cpos) (dF t):=by
 obtain ⟨t1,p1,l1⟩:=ho
 refine ⟨_,pM (T:="int") PySem.F.plainAttrs_int PySem.F.slot_int_bit_length PySem.F.type_int_bit_length jm p1 hbase hline,fun ρ σ H Q r h R k=>l1 ρ σ H _ r h _ fun d v H1 s1 i1 ⟨i,e,q⟩=>?_⟩
 subst e
 obtain rfl:=is_int.mp i1
 exact ⟨rfl,i,rfl,rfl,k _ _ H1 s1 (is_int.mpr rfl) q⟩
def kE (i j:Int):Prop:=j ≠ 0∧Builtin.divisionGoesByPylong i j=false
theorem jk:DOp X (binaryOp .FloorDiv) (gIC kE fun i j=>.int (i.fdiv j)):=tE (C:=kE) (opI fun _ _ _ _ _ _ _ hc q=>floordiv_int hc.1 q (.inl hc.2))
theorem dI {c n:Int} (h0:n ≠ 0) (h:n.natAbs < 2 ^ 9000):kE c n:=⟨h0,PyProof.noPylong_of_log2 ((Nat.log2_lt (by omega)).mpr h)⟩
def iD (t u:DTS):DTS:=fun D ρ=>∃ P:DS→Prop,t { D with nx:=P } ρ∧∀ ρ',P ρ'→u D ρ'
theorem z5 {sst:Stmt} {yq:List Stmt} {t u:DTS} (h1:DSt X fr sst t) (h2:DSs X fr yq u):DSs X fr (sst :: yq) (iD t u):=by
 obtain ⟨ts,p1,l1⟩:=h1
 obtain ⟨us,p2,l2⟩:=h2
 refine ⟨_,qv p1 p2,fun W0 G ρ σ W D D' a s h=>?_⟩
 obtain ⟨P,h,k⟩:=h
 exact l1 W0 G ρ σ W { D with nx:=P } { D' with nx:=us D' } a ⟨fun ρ' σ' W' a' q=>l2 W0 G ρ' σ' W' D D' a' s (k ρ' q),s.tl,s.bk,s.ct⟩ h
end
end OD
namespace OD
open PySem PySem.Spec PyProof.Rows L2
section
variable {X:Cx} {ta:DTE} {pos p0:Pos}
end
end OD
namespace OD
variable {Z:Hp}
open PySem PySem.Spec PyProof.Rows L2
section
variable {X:Cx} {K:PySem.W.Frag} {H:Hp}
def gS (f:Str→Str→Dt):Dt→Dt→(Dt→Prop)→Prop:=fun d e Q=>∃ x y,d=.str x∧e=.str y∧Q (f x y)
theorem qR {x y:Str}:decide (V.str x=V.str y)=(x == y):=by
 rw [Bool.eq_iff_iff]
 simp
theorem yI:DOp X (compareOp .Eq) (gS fun x y=>.bl (x == y)):=by
 refine ⟨_,fX,fun H x y d e Q i1 i2 ⟨a,b,ed,ee,q⟩ R k=>?_⟩
 subst ed
 subst ee
 obtain rfl:=is_str.mp i1
 obtain rfl:=is_str.mp i2
 refine ⟨rfl,?_⟩
 rw [qR]
 exact k _ _ H (Le.refl H) (is_bl.mpr rfl) q
theorem eo:DOp X (compareOp .NotEq) (gS fun x y=>.bl (!(x == y))):=by
 refine ⟨_,fR,fun H x y d e Q i1 i2 ⟨a,b,ed,ee,q⟩ R k=>?_⟩
 subst ed
 subst ee
 obtain rfl:=is_str.mp i1
 obtain rfl:=is_str.mp i2
 refine ⟨rfl,?_⟩
 rw [qR]
 exact k _ _ H (Le.refl H) (is_bl.mpr rfl) q
def uG:List Dt→Option (List Str)
 | []=>some []
 | .str i :: r=>(uG r).map (i :: ·)
 | _=>none
theorem tL:∀ {ds:List Dt} {ns:List Str} {xs:List V},uG ds=some ns→AllIs K H ds xs→xs=ns.map V.str
 | [],ns,xs,e,h=>by
  cases e
  exact allIs_nil.mp h
 | d :: ds,ns,xs,e,h=>by
  cases d with
  | str i=>
   obtain ⟨ms,e1,e2⟩:=Option.map_eq_some_iff.mp (show (uG ds).map (i :: ·)=some ns from e)
   obtain ⟨x,r,rfl,h1,h2⟩:=allIs_cons.mp h
   rw [tL e1 h2,is_str.mp h1,← e2]
   rfl
  | _=>cases e
theorem qH (i:Str):∀ ns:List Str,inV (.str i) (ns.map V.str)=ns.any fun a=>a == i
 | []=>rfl
 | n :: ns=>by
  have ih:=qH i ns
  unfold inV at ih ⊢
  rw [List.map_cons,List.any_cons,List.any_cons,ih]
  rfl
theorem sL:∀ ns:List Str,(ns.map V.str).all x9=true
 | []=>rfl
 | n :: ns=>by rw [List.map_cons,List.all_cons,sL ns]; rfl
theorem lh:DOp X (compareOp .In) (fun d e Q=>∃ i ds ns,d=.str i∧qm e=some ds∧uG ds=some ns∧Q (.bl (ns.any fun a=>a == i))):=by
 refine ⟨_,nM,fun H x y d e Q i1 i2 q R k=>?_⟩
 obtain ⟨i,ds,ns,rfl,e1,e2,q⟩:=q
 obtain ⟨p,xs,rfl,h1,h2⟩:=rc i2 e1
 obtain rfl:=tL e2 h2
 obtain rfl:=is_str.mp i1
 refine ⟨p,_,rfl,h1,rfl,sL ns,?_⟩
 show R (.bl (inV (.str i) (ns.map V.str))) H.h
 rw [qH]
 exact k _ _ H (Le.refl H) (is_bl.mpr rfl) q
end
section
variable {X:Cx} {fr:Fr} {te:DTE} {tb:DTS} {pos p0 p1 p2:Pos}
end
end OD
namespace OD
variable {Z:Hp}
open PySem PySem.Spec PyProof.Rows L2
def uv (σ:St) (js:List Nat):St:=js.map fun j=>(σ[j]?).getD none
section
variable {X:Cx} {pins:List (Addr × Obj)} {σ:St} {H:Hp} {s:Shared} {scope:Scope} {cl:List (Str × Addr)} {x:Str} {caps:List Str} {js:List Nat} {fp:List Addr}
end
def wL (cells:List (Str × Addr)) (names:List (Str × NameKind)):List (Str × Addr):=(names.filterMap fun y=>if y.2 == .free then (cells.lookup y.1).map (y.1,·) else none).reverse
theorem u8 {α:Type} {y:Str} {c:α}:∀ {l:List (Str × α)},(y,c) ∈ l→∃ c',l.lookup y=some c'
 | [],h=>nomatch h
 | (z,d) :: r,h=>by
  rw [List.lookup_cons]
  cases q:y == z with
  | true=>exact ⟨d,rfl⟩
  | false=>
   rcases List.mem_cons.mp h with e | e
   ·cases e
    rw [beq_self_eq_true] at q
    cases q
   ·exact u8 e
theorem mem_clOf {cells:List (Str × Addr)} {names:List (Str × NameKind)} {y:Str} {c:Addr}:(y,c) ∈ wL cells names ↔ (y,NameKind.free) ∈ names∧cells.lookup y=some c:=by
 unfold wL
 rw [List.mem_reverse,List.mem_filterMap]
 constructor
 ·rintro ⟨⟨z,k⟩,hz,e⟩
  split at e
  ·rename_i hk
   obtain rfl:=eq_of_beq hk
   obtain ⟨d,hd,e⟩:=Option.map_eq_some_iff.mp e
   cases e
   exact ⟨hz,hd⟩
  ·cases e
 ·rintro ⟨h1,h2⟩
  exact ⟨(y,.free),h1,by show Option.map _ (List.lookup y cells)=_; rw [h2]; rfl⟩
theorem jO {scope:Scope} {env:Env} (h:∀ y,(y,NameKind.free) ∈ scope.names→∃ c,env.cells.lookup y=some c):closureFor scope env=pure (wL env.cells scope.names):=by
 have key:∀ (names:List (Str × NameKind)) (acc:List (Str × Addr)),(∀ y,(y,NameKind.free) ∈ names→∃ c,env.cells.lookup y=some c)→
   (forIn names acc fun x r=>(if x.2 == NameKind.free then do let c ← cellOf env x.1; pure (ForInStep.yield ((x.1,c) :: r)) else pure (ForInStep.yield r):Sem (ForInStep (List (Str × Addr)))))=(pure (wL env.cells names ++ acc):Sem (List (Str × Addr))):=by
  intro names
  induction names with
  | nil=>intro acc _; rfl
  | cons a r ih=>
   intro acc ha
   obtain ⟨n,k⟩:=a
   rw [List.forIn_cons]
   cases hk:k == NameKind.free with
   | true=>
    obtain rfl:=eq_of_beq hk
    obtain ⟨c,hc⟩:=ha n List.mem_cons_self
    have e1:cellOf env n=pure c:=by unfold cellOf; rw [hc]
    have e2:wL env.cells ((n,NameKind.free) :: r)=wL env.cells r ++ [(n,c)]:=by
     unfold wL
     rw [List.filterMap_cons_some (b:=(n,c)) (by show Option.map _ (List.lookup n env.cells)=_; rw [hc]; rfl),List.reverse_cons]
    show (do let c ← cellOf env n; pure (ForInStep.yield ((n,c) :: acc)):Sem _) >>= _=_
    rw [e1,pure_bind,pure_bind,e2,List.append_assoc]
    exact ih ((n,c) :: acc) fun y hy=>ha y (List.mem_cons_of_mem _ hy)
   | false=>
    have e2:wL env.cells ((n,k) :: r)=wL env.cells r:=by
     unfold wL
     rw [List.filterMap_cons_none (by show (if (k == NameKind.free)=true then _ else none)=none; rw [hk]; rfl)]
    show (pure (ForInStep.yield acc):Sem _) >>= _=_
    rw [pure_bind,e2]
    exact ih acc fun y hy=>ha y (List.mem_cons_of_mem _ hy)
 have:=key scope.names [] h
 rw [List.append_nil] at this
 unfold closureFor
 rw [← this]
 exact (bind_pure _).trans rfl
theorem yJ {env:Env} (hk:env.scope.kind=.function):∀ {names:List (Str × NameKind)} {x:Str},names.lookup x=some .free→env.scope.names.lookup x=some .cell→
  (names.map fun (n,k)=>if (k == NameKind.free && env.scope.kind == .function && env.kindOf n == some .cell) then (n,NameKind.cell) else (n,k)).lookup x=some .cell
 | [],_,h,_=>by simp at h
 | (n,k) :: r,x,h,he=>by
  have ih:=@yJ env hk r x
  show List.lookup x ((if (k == NameKind.free && env.scope.kind == .function && env.kindOf n == some .cell)=true then (n,NameKind.cell) else (n,k)) :: _)=_
  cases hx:x == n with
  | true=>
   obtain rfl:=eq_of_beq hx
   simp only [List.lookup_cons,hx] at h
   cases h
   have e:env.kindOf x=some .cell:=he
   rw [hk,e]
   simp [List.lookup_cons]
  | false=>
   simp only [List.lookup_cons,hx] at h
   by_cases hc:(k == NameKind.free && env.scope.kind == .function && env.kindOf n == some .cell)=true
   ·rw [if_pos hc]; simp only [List.lookup_cons,hx]; exact ih h he
   ·rw [if_neg hc]; simp only [List.lookup_cons,hx]; exact ih h he
def tK (ρ:DS) (js:List Nat):DS:=js.map fun j=>match (ρ[j]?:Option Sl) with
 | Option.some (Sl.some d)=>Sl.some d
 | _=>Sl.none
section
variable {X:Cx} {fr:Fr} {osc scope:Scope} {x:Str} {caps:List Str} {js:List Nat} {N0:List Str} {L:Addr} {a elt:Expr} {ta te:DTE} {px p0 pos pos1:Pos}
end
section
variable {X:Cx} {a:Expr} {p0 pos:Pos}
end
end OD
namespace OD
variable {Z:Hp}
open PySem PySem.Spec PyProof.Rows L2
section
variable {X:Cx} {fr:Fr} {osc scope:Scope} {x:Str} {caps:List Str} {js:List Nat} {N0:List Str} {L:Addr} {iter elt:Expr} {ta te:DTE} {px pos:Pos}
end
end OD
namespace L2
open PySem PySem.Spec PyProof.Rows
section
variable {P:Program} {w:World} {H H':Hp} {h B:Heap}
theorem HOk.part (x:HOk P w H h) (k:∀ b u,H b ≠ none→h.get? b=some u→B.get? b=some u):HOk P w H B:=fun a o e=>
 (x a o e).stay (fun b u hb q=>k b u (fun z=>by rcases hb with rfl | y; (rw [e] at z; cases z); (rw [y] at z; cases z)) q) (fun _ q=>q) fun _ _ q=>q
theorem ObjOk.there {a:Addr} {o:HO} (x:ObjOk P w H h a o):∃ u,h.get? a=some u:=by
 cases o with
 | lst xs=>obtain ⟨_,_,_,_,e⟩:=x; exact ⟨_,e⟩
 | tup xs=>obtain ⟨_,_,_,o,e,_⟩:=x; exact ⟨_,e⟩
 | dK kvs=>obtain ⟨_,_,_,_,o,_,_,e,_⟩:=x; exact ⟨_,e⟩
 | dT kvs=>obtain ⟨_,_,_,_,o,_,_,e,_⟩:=x; exact ⟨_,e⟩
 | set S n=>obtain ⟨o,_,_,_,e,_⟩:=x; exact ⟨_,e⟩
 | ins C dx fs=>obtain ⟨_,_,_,e,_⟩:=x; exact ⟨_,e⟩
 | own y=>exact x
 | xd fs=>obtain ⟨_,⟨_,_,_,e,_⟩,_⟩:=x; exact ⟨_,e⟩
 | rng lo hi=>obtain ⟨_,_,_,e⟩:=x; exact ⟨_,e⟩
 | frz ob u=>obtain ⟨e,_⟩:=x; exact ⟨_,e⟩
 | tbl ps=>exact ⟨_,(show h.get? a=some _ from x)⟩
 | met f y=>exact ⟨_,(show h.get? a=some _ from x)⟩
 | ext φ=>obtain ⟨_,e,_⟩:=x; exact e
end
structure Flies (P:Program) (w:World) (stack:List Env) (H:Hp) (h0:Heap) (H':Hp) (e:Addr) (cls:Value) (h:Heap):Prop where
 ex:∃ B a0,Heap.FlyingW B stack e cls a0 h∧(∀ b o,h0.get? b=some o→H b=none→b ∉ frs stack→B.get? b=some o)∧(∀ b o,h0.get? b=some o→b ∉ frs stack→∃ o',B.get? b=some o')∧HOk P w H' B
 slot:∀ b o,h0.get? b=some o→b ∈ frs stack→∃ sl,h.get? b=some { o with slots:=sl }
 free:∀ b o,h0.get? b=some o→H b=none→H' b=none
 tups:∀ b xs,H b=some (.tup xs)→H' b=some (.tup xs)
 frzs:∀ b o u,H b=some (.frz o u)→H' b=some (.frz o u)
 tbls:∀ b ps,H b=some (.tbl ps)→∃ more,H' b=some (.tbl (ps ++ more))
 new:h0.get? e=none
section
variable {P:Program} {w:World} {stack:List Env} {H H':Hp} {h0 h:Heap} {e:Addr} {cls:Value}
theorem Flies.un (f:Flies P w stack H h0 H' e cls h):Un (frs stack) [] H H' h0 h:=by
 obtain ⟨B,a0,⟨st,_,_,_⟩,k1,k2,_⟩:=f.ex
 refine ⟨fun b o q n hb _=>st b o (k1 b o q n hb),fun b o q _ hb _=>f.slot b o q hb,fun b o q n _=>f.free b o q n,fun b o q _=>?_,f.tups,f.frzs,f.tbls⟩
 by_cases hb:b ∈ frs stack
 ·obtain ⟨sl,z⟩:=f.slot b o q hb
  exact ⟨_,z⟩
 ·obtain ⟨o',z⟩:=k2 b o q hb
  exact ⟨o',st b o' z⟩
theorem Flies.hok (f:Flies P w stack H h0 H' e cls h):HOk P w H' h:=by
 obtain ⟨B,a0,⟨st,_,_,_⟩,_,_,k3⟩:=f.ex
 exact k3.kept st
theorem Flies.out (f:Flies P w stack H h0 H' e cls h):H' e=none:=by
 obtain ⟨B,a0,⟨st,n,_,_⟩,_,_,k3⟩:=f.ex
 cases q:H' e with
 | none=>rfl
 | some o=>
  obtain ⟨u,z⟩:=(k3 e o q).there
  rw [n] at z; cases z
theorem Flies.go (f:Flies P w stack H h0 H' e cls h):∃ B a0,Heap.FlyingW B stack e cls a0 h∧∀ h',Heap.FlyingW B stack e cls a0 h'→h.UpToSlots h'→Flies P w stack H h0 H' e cls h':=by
 obtain ⟨B,a0,fl,k1,k2,k3⟩:=f.ex
 refine ⟨B,a0,fl,fun h' fl' up=>⟨⟨B,a0,fl',k1,k2,k3⟩,fun b o q hb=>?_,f.free,f.tups,f.frzs,f.tbls,f.new⟩⟩
 obtain ⟨sl,z⟩:=f.slot b o q hb
 obtain ⟨_,ob,ho,hd⟩:=fl.2.2.1.mem hb
 rw [z] at ho
 cases ho
 obtain ⟨sl',z'⟩:=up b _ z hd
 exact ⟨sl',z'⟩
end
section
variable {X:Cx} {pins:List (Addr × Obj)} {σ:St} {H H':Hp} {s s':Shared} {M:Model} {E:Value→Shared→Prop} {e:Addr} {cls:Value}
theorem Inv.neL (I:Inv X pins σ H s) {b:Addr} {o:Obj} (q:X.s₀.heap.get? b=some o):b ≠ X.env.locals:=Nat.ne_of_lt (Nat.lt_of_lt_of_le (Heap.lt_size q) I.ok.above)
theorem lH {vs:List Value} {h1:Heap} {Q:Unit→Shared→Prop} (I:Inv X pins σ H s) (hstk:X.stack=X.env :: X.outer) (hf:X.env.frame=some X.env.locals) (hex:X.ex=[]) (hx:Heap.MadeExcOf s.heap h1 e cls vs)
  (hQ:∀ h',Flies X.prog X.w X.outer X.H₀ X.s₀.heap H e cls h'→Q () { s with heap:=h' }):wpAny M X.A (leaving X.env (.ref e)) Q E { s with heap:=h1 }:=by
 have hfr:X.A.frames=some (X.env :: X.outer):=by rw [← hstk]; exact I.ok.frames
 have hfs:frs X.stack=X.env.locals :: frs X.outer:=by rw [hstk]; unfold frs; rw [List.filterMap_cons,hf]
 have hl:s.heap.FunFrames (PySem.W.hideAll s.heap (frs X.stack)) (X.env :: X.outer):=by
  have z:=I.stack
  rw [hstk] at z
  refine PySem.W.funFrames_hide z fun env he a ha=>?_
  rw [hstk]
  exact List.mem_filterMap.mpr ⟨env,he,ha⟩
 have nx:∀ b,b ∉ X.ex:=fun b z=>by rw [hex] at z; cases z
 have nst:∀ b o,X.s₀.heap.get? b=some o→b ∉ frs X.outer→b ∉ frs X.stack:=fun b o q nb z=>by
  rw [hfs] at z
  rcases List.mem_cons.mp z with z | z
  ·exact I.neL q z
  ·exact nb z
 refine PySem.wpAny_leaves_madeW (s:={ s with heap:=h1 }) (h:=s.heap) (base:=PySem.W.hideAll s.heap (frs X.stack)) hfr hf (fun b o q=>PySem.W.of_hideAll _ q) hl hx fun h' t x1 x2 x3 x4=>hQ h' ⟨⟨_,_,x1,fun b o q n nb=>?_,fun b o q nb=>?_,?_⟩,fun b o q hb=>?_,fun b o q n=>I.base.free b o q n (nx b),I.base.tups,I.base.frzs,I.base.tbls,?_⟩
 ·exact PySem.W.hideAll_get _ (I.base.keep b o q n nb (nx b)) (nst b o q nb)
 ·obtain ⟨o',z⟩:=I.base.there b o q (nx b)
  exact ⟨o',PySem.W.hideAll_get _ z (nst b o q nb)⟩
 ·exact I.hok.part fun b u hb q=>PySem.W.hideAll_get _ q fun z=>hb (I.stkFree b z)
 ·obtain ⟨sl,z⟩:=I.base.slot b o q (I.ok.frf b hb) hb (nx b)
  obtain ⟨_,ob,ho,hd⟩:=I.funs.mem hb
  rw [z] at ho
  cases ho
  obtain ⟨sl',z'⟩:=x4 b _ (hx.keeps b _ z) hd
  exact ⟨sl',z'⟩
 ·cases q:X.s₀.heap.get? e with
  | none=>rfl
  | some o=>
   obtain ⟨o',z⟩:=I.base.there e o q (nx e)
   rw [hx.new] at z; cases z
theorem gF {Q:Unit→Shared→Prop} (I:Inv X pins σ H s) (hstk:X.stack=X.env :: X.outer) (hf:X.env.frame=some X.env.locals) (hex:X.ex=[]) (f:Flies X.prog X.w X.stack H s.heap H' e cls s'.heap)
  (hQ:∀ h',Flies X.prog X.w X.outer X.H₀ X.s₀.heap H' e cls h'→Q () { s' with heap:=h' }):wpAny M X.A (leaving X.env (.ref e)) Q E s':=by
 have hfr:X.A.frames=some (X.env :: X.outer):=by rw [← hstk]; exact I.ok.frames
 have hfs:frs X.stack=X.env.locals :: frs X.outer:=by rw [hstk]; unfold frs; rw [List.filterMap_cons,hf]
 have nx:∀ b,b ∉ X.ex:=fun b z=>by rw [hex] at z; cases z
 have nst:∀ b o,X.s₀.heap.get? b=some o→b ∉ frs X.outer→b ∉ frs X.stack:=fun b o q nb z=>by
  rw [hfs] at z
  rcases List.mem_cons.mp z with z | z
  ·exact I.neL q z
  ·exact nb z
 obtain ⟨B,a0,fl,k1,k2,k3⟩:=f.ex
 have fl':=fl
 rw [hstk] at fl'
 refine PySem.wpAny_leaves_onW hfr hf fl' fun h' x1 x2=>hQ h' ⟨⟨B,a0,x1,fun b o q n nb=>?_,fun b o q nb=>?_,k3⟩,fun b o q hb=>?_,fun b o q n=>?_,fun b xs q=>f.tups b xs (I.base.tups b xs q),fun b o u q=>f.frzs b o u (I.base.frzs b o u q),fun b ps q=>?_,?_⟩
 ·exact k1 b o (I.base.keep b o q n nb (nx b)) (I.base.free b o q n (nx b)) (nst b o q nb)
 ·obtain ⟨o',z⟩:=I.base.there b o q (nx b)
  exact k2 b o' z (nst b o q nb)
 ·obtain ⟨sl,z⟩:=I.base.slot b o q (I.ok.frf b hb) hb (nx b)
  have hb':b ∈ frs X.stack:=by rw [hfs]; exact List.mem_cons_of_mem _ hb
  obtain ⟨sl',z'⟩:=f.slot b _ z hb'
  obtain ⟨_,ob,ho,hd⟩:=fl.2.2.1.mem hb'
  rw [z'] at ho
  cases ho
  obtain ⟨sl2,z2⟩:=x2 b _ z' hd
  exact ⟨sl2,z2⟩
 ·obtain ⟨o',z⟩:=I.base.there b o q (nx b)
  exact f.free b o' z (I.base.free b o q n (nx b))
 ·obtain ⟨m1,e1⟩:=I.base.tbls b ps q
  obtain ⟨m2,e2⟩:=f.tbls b _ e1
  exact ⟨m1 ++ m2,by rw [e2,Array.append_assoc]⟩
 ·cases q:X.s₀.heap.get? e with
  | none=>rfl
  | some o=>
   obtain ⟨o',z⟩:=I.base.there e o q (nx e)
   rw [f.new] at z; cases z
end
def ExcK (K:PySem.W.Frag) (C:Addr):Prop:=PySem.W.excIn K C [.type "ValueError",.type "Exception",.type "BaseException",.type "object"] "ValueError.__new__"=true
theorem jy {K:PySem.W.Frag} {h:Heap} {C:Addr} (X:K.In h) (q:ExcK K C):∃ bm N nm qn bs hdct sn sub ab col dd k0 k1 k2 k3 k5 mN,h.get? C=some (excClassObj nm qn C N bs bm hdct sn sub ab col dd k0 k1 k2 k3 k5 "ValueError.__new__")∧h.Ns N mN∧mN "__init__"=none∧OwnTail h [.type "ValueError",.type "Exception",.type "BaseException",.type "object"] bm:=by
 unfold ExcK PySem.W.excIn at q
 split at q
 ·rename_i d1 cl s1 look
  split at q
  ·rename_i C1 tl w0 w1 w2 w3 nid w5 em es
   simp only [Bool.and_eq_true,Bool.not_eq_true',beq_iff_eq] at q
   obtain ⟨⟨⟨⟨⟨rfl,rfl⟩,q1⟩,q2⟩,q3⟩,q4⟩:=q
   obtain ⟨a1,a2,a3,a4,a5,a6,a7,a8,a9,b1,b2⟩:=cl
   dsimp only at em q1 q3 q4
   subst em q1
   obtain rfl:s1=#[w0,w1,w2,w3,some (.builtin "ValueError.__new__"),w5]:=by
    obtain ⟨l⟩:=s1
    simp only at es; rw [es]
   exact ⟨tl,a4,a1,a5,a2,a6,a7,a8,a9,b1,d1,w0,w1,w2,w3,w5,_,X _ _ look,.of_isNs (PySem.W.isNs_of_in X q3),PySem.W.nsMap_none_of_in X q3 q4,PySem.W.tail_of_in X q2⟩
  ·cases q
 ·cases q
def XOk (X:Cx) (C:Addr) (H:Hp):Prop:=∀ (pins:List (Addr × Obj)) (σ:St) (s:Shared) (h1:Heap) (e:Addr) (vs:List Value),Inv X pins σ H s→Heap.MadeExcOf s.heap h1 e (.ref C) vs→X.xe (.ref e) { s with heap:=h1 }
def iW (X:Cx) (C:Addr) (te:TE):TS:=fun _ σ H=>te σ H fun _ H1=>XOk X C H1
theorem mR {X:Cx} {C:Addr} {x:Str} {a:Expr} {te:TE} {np cpos pos:Pos} (hc:X.calm=true) (hg:Gl X x) (hm:X.mg x=some (.ref C)) (hC:ExcK X.K C) (ha:PE X a te)
  (hdb:(x == ("__debug__":Str))=false:=by decide) (he:starEach [a] X.env=(false,eval a X.env) :: starEach [] X.env:=by rfl):PS X (.Raise (some (.Call (.Name x np) [a] [] cpos)) none pos) (iW X C te):=by
 intro pins s σ H D I h
 obtain ⟨bm,N,nm,qn,bs,hdct,sn,sub,ab,col,dd,k0,k1,k2,k3,k5,mN,hO,hN,hni,T⟩:=jy I.ok.mod.kin hC
 refine PySem.wpAny_Raise_call_subU (C:=C) (nm:=nm) (q:=qn) (N:=N) (bs:=bs) (bm:=bm) (hdct:=hdct) (sn:=sn) (sub:=sub) (ab:=ab) (col:=col) (dd:=dd) (k0:=k0) (k1:=k1) (k2:=k2) (k3:=k3) (k5:=k5)
  PySem.F.excBase_ValueError (by decide) PySem.F.excBase_ValueError (mN:=mN) (T.hasType PySem.F.excBase_ValueError.hasBase) (I.ok.hd hc) (by rw [he]; rfl) hni (xH I hg hm ⟨rfl,?_⟩ hdb)
 have z:=zL ha yF he cpos pins s σ H (fun us H1=>us.length=1∧XOk X C H1) I (show te σ H (fun x H1=>[x].length=1∧XOk X C H1) from by
  have h:te σ H (fun _ H1=>XOk X C H1):=h
  simpa using h)
 rw [he] at z ⊢
 refine Calls.evalArgs_plain (thn z fun vs s1 ⟨us,H1,I1,r,hl,q⟩=>⟨rfl,?_,I1.bk _ _ hO,hN.keeps I1.bk,T.keeps I1.bk,fun h' e hx=>q pins σ s1 h' e vs I1 hx⟩)
 show vs.length ≤ _
 rw [← r.length,hl]
 decide
def CX1 (P:Program) (w:World):CXT:=fun outer H s E e s'=>∃ a C H',e=.ref a∧s'.os=s.os∧AllBare s'.gens∧Flies P w outer H s.heap H' a (.ref C) s'.heap∧E (.ref C) none H'
section
variable {P:Program} {w:World} {K:PySem.W.Frag} {mg:Str→Option Value} {base:Heap} {N:List Str} {qual:Str} {scope:Scope} {f C:Addr} {cd:Value} {A:Around} {outer:List Env} {s:Shared} {H H1:Hp} {E:XK}
theorem iM (h:E (.ref C) none H1):XOk (yu (CX1 P w) P w K mg base N qual scope f cd A outer s H E) C H1:=fun pins σ s' h1 e vs I hx=>
 lH (X:=yu (CX1 P w) P w K mg base N qual scope f cd A outer s H E) I rfl rfl rfl hx fun h' fl=>⟨e,C,H1,rfl,I.os,I.bare,fl,h⟩
theorem ci:PassesOwn (model P w) (A.deeper (envOfC qual scope s.heap.objs.size f cd)) (envOfC qual scope s.heap.objs.size f cd) (yu (CX1 P w) P w K mg base N qual scope f cd A outer s H E).xe:=PassesOwn.leaving
end
section
variable {X:Cx} {CX:CXT} {k:Nat} {f C:Addr} {fd:FuncData} {ps:List Str} {sp:Sp} {dvs:List V} {ds:List Value} {x y:Str} {p pos:Pos} {e:Expr} {es:List Expr} {t:TA}
def XPx (X:Cx) (pins:List (Addr × Obj)) (σ:St) (E:XK) (e:Value) (s':Shared):Prop:=∃ a C H' H1 s1,e=.ref a∧Inv X pins σ H1 s1∧s'.os=s1.os∧AllBare s'.gens∧Flies X.prog X.w X.stack H1 s1.heap H' a (.ref C) s'.heap∧E (.ref C) none H'
theorem kg (F:FnOk X.prog X.w X.K X.mg X.base (CX1 X.prog X.w) k f fd ps sp) (hr:Room k X.A) (hg:Gl X x) (hm:X.mg x=some (.ref f)) (hk:PySem.W.keepIn X.K (.ref f)=true) (hb:Binds X.K fd ps [])
  (ha:PA X.nox (e :: es) t) {pins:List (Addr × Obj)} {s:Shared} {σ:St} {H:Hp} {Q:VK} {E:XK} (I:Inv X pins σ H s) (h:t σ H fun vs H1=>sp vs H1 Q E)
  (hdb:(x == ("__debug__":Str))=false:=by decide) (he:starEach (e :: es) X.env=(false,eval e X.env) :: starEach es X.env:=by rfl) (hpl:(backTo pos (starEach es X.env)).any (·.1)=false:=by rfl):
  wpAny (model X.prog X.w) X.A (eval (.Call (.Name x p) (e :: es) [] pos) X.env) (EP X pins σ Q) (XPx X pins σ E) s:=by
 refine wpAny_Call_Name_kw (xH I hg hm ?_ hdb)
 refine PySem.W.callWith_K (h₀:=X.base) I.ok.mod.kin hk (wpAny_mono (ha pos pins s σ H _ (I.wish _) h) (fun us s1 ⟨vs,H1,I1,r,q⟩=>⟨I1.unwish.kIn,?_⟩) fun _ _ z=>z.elim) he hpl
 have I1:=I1.unwish
 have hl:us.length=ps.length:=by rw [← r.length]; exact F.len _ _ _ _ q
 refine wpAny_call (codeAny_mono (F.run X.A X.stack s1 H1 ⟨us,[]⟩ us vs Q E hr I1.env0 ?_ r q) fun rr s' hq=>?_)
 ·have z:=hb s1 us I1.kIn (by rw [List.append_nil]; exact hl)
  rw [List.append_nil] at z
  exact z
 cases rr with
 | error e=>
  obtain ⟨a,C,H',ee,os,bare,fl,z⟩:=hq
  exact ⟨a,C,H',H1,s1,ee,I1,os,bare,fl,z⟩
 | ok fl=>
  cases fl with
  | ret u=>exact I1.after hq
  | next=>exact False.elim hq
  | brk=>exact False.elim hq
  | cont=>exact False.elim hq
end
abbrev TB:=(St→Hp→Prop)→XK→St→Hp→Prop
def PB (X:Cx) (body:List Stmt) (t:TB):Prop:=∀ (pins:List (Addr × Obj)) (s:Shared) (σ:St) (H:Hp) (nx:St→Hp→Prop) (E:XK),Inv X pins σ H s→t nx E σ H→
 wpAny (model X.prog X.w) X.A (execs body X.env) (fun f s'=>f=.next∧∃ σ' H',Inv X pins σ' H' s'∧nx σ' H') (XPx X pins σ E) s
def Cx.inH (X:Cx) (a:Addr):Cx:={ X with A:=X.A.mark (some (.ref a)),calm:=false,xe:=fun _ _=>False }
section
variable {X:Cx} {pins:List (Addr × Obj)} {σ:St} {H:Hp} {s:Shared} {a:Addr}
theorem Inv.inH (I:Inv X pins σ H s) (a:Addr):Inv (X.inH a) pins σ H s:=
 ⟨⟨I.ok.mod,I.ok.kind,I.ok.glob,I.ok.blt,I.ok.above,I.ok.inj,I.ok.has,I.ok.cab,fun z=>Bool.noConfusion z,I.ok.frames,I.ok.stk,I.ok.exf,I.ok.bs,I.ok.bsz,I.ok.noex,I.ok.exfs,I.ok.funs,I.ok.frf⟩,I.os,I.bare,I.base,I.loc,I.cell,I.free,I.freeC,I.pin,I.hok,I.len⟩
theorem Inv.outH (ok:X.Ok) (I:Inv (X.inH a) pins σ H s):Inv X pins σ H s:=⟨ok,I.os,I.bare,I.base,I.loc,I.cell,I.free,I.freeC,I.pin,I.hok,I.len⟩
theorem SP.outH {D:Ends} {f:Flow} {s':Shared} (ok:X.Ok) (h:SP (X.inH a) pins D f s'):SP X pins D f s':=by
 cases f with
 | next=>obtain ⟨σ',H',I,q⟩:=h; exact ⟨σ',H',I.outH ok,q⟩
 | brk=>obtain ⟨σ',H',I,q⟩:=h; exact ⟨σ',H',I.outH ok,q⟩
 | cont=>obtain ⟨σ',H',I,q⟩:=h; exact ⟨σ',H',I.outH ok,q⟩
 | ret u=>obtain ⟨v,σ',H',I,r,q⟩:=h; exact ⟨v,σ',H',I.outH ok,r,q⟩
end
section
variable {X:Cx} {t:TB} {th:TS} {y:Str} {c:Value} {py hpos pos:Pos} {body:List Stmt} {b₀:Stmt} {suite:List Stmt}
def cb (K:PySem.W.Frag) (c:Value) (t:TB) (th:TS):TS:=fun D σ H=>t D.nx (fun cls _ H'=>PySem.W.exmOne K cls c=some true∧th D σ H') σ H
theorem i9 (hstk:X.stack=X.env :: X.outer) (hf:X.env.frame=some X.env.locals) (hb:PB X body t) (hh:∀ a,PSs (X.inH a) (b₀ :: suite) th) (hg:Gl X y) (hm:X.mg y=some c) (hd:(y == ("__debug__":Str))=false:=by decide):
  PS X (.Try body [.ExceptHandler (some (.Name y py)) none (b₀ :: suite) hpos] [] [] pos) (cb X.K c t th):=by
 intro pins s σ H D I h
 have hfr:X.A.frames=some (X.env :: X.outer):=by rw [← hstk]; exact I.ok.frames
 refine wpAny_Try_except (wpAny_mono (hb pins s σ H _ _ I h) (fun f s1 ⟨ef,σ',H',I',q⟩=>?_) fun e s1 hx=>?_)
 ·subst ef
  exact wpAny_execs_nil ⟨σ',H',I',q⟩
 ·obtain ⟨a,C,H',H1,s2,rfl,I1,os,bare,fl,hex,hth⟩:=hx
  obtain ⟨B,a0,fl0,go⟩:=fl.go
  have inv:∀ h',Heap.FlyingW B X.stack a (.ref C) a0 h'→s1.heap.UpToSlots h'→Inv X pins σ H' { s1 with heap:=h' }:=fun h' x1 x2=>
   have f':=go h' x1 x2
   I1.call' (s':={ s1 with heap:=h' }) os f'.un f'.hok bare (fun _ z=>nomatch z)
  rw [hstk] at fl0
  refine wpAny_looks_onW hfr hf fl0 fun h4 held4 up4=>?_
  refine wpAny_landsW held4 fun h5 fl5 up5=>?_
  have I5:=inv h5 (by rw [hstk]; exact fl5) (up4.trans up5)
  obtain ⟨ob,hob,hoc⟩:=fl5.there
  have ty:PySem.W.Looks (model X.prog X.w) h5 (typeOf (.ref a)) (.ref C):=by rw [← hoc]; exact (PySem.W.Looks.ld hob).andThen .now
  refine wpAny_handleBy_cons (codeAny_handlers_test (xH (X:=X.inH a) (I5.inH a) hg hm ((PySem.W.exm_one I5.kIn ty hex).here ?_) hd)) (by intro q; cases q)
  refine codeAny_handlers_suite ?_
  refine lands_againW fl5 fun h6 fl6 up6=>?_
  have I6:=inv h6 (by rw [hstk]; exact fl6) ((up4.trans up5).trans up6)
  exact wpAny_mono (hh a pins _ σ H' D (I6.inH a) hth) (fun f s3 q=>SP.outH I.ok q) fun _ _ z=>z.elim
end
section
variable {X:Cx} {pins:List (Addr × Obj)} {σ:St} {H:Hp} {s:Shared}
theorem wn {M:Model} {A:Around} {E:Value→Shared→Prop} {i:Nat} {x:Str} {pos:Pos} {Q:Unit→Shared→Prop} (I:Inv X pins σ H s) (hN:X.N.Nodup) (hi:X.N[i]? = some x) (hx:X.env.scope.names.lookup x=some .local)
  (h:∀ s',Inv X pins (σ.set i none) H s'→Q () s'):wpAny M A (do bindName X.env x .none; unbindBehindTheSuite X.env x pos) Q E s:=by
 have hcls:(X.env.scope.kind == .class || (X.env.scope.kind == .module && X.env.locals != X.env.globals))=false:=by rw [I.ok.kind]; rfl
 have hiσ:i < σ.length:=by rw [I.len]; exact (List.getElem?_eq_some_iff.mp hi).1
 refine wpAny_bind (wpAny_bindName (xR I hN hi (.inl hx) (v:=V.non) (u:=Value.none) rfl (fun s1 I1=>?_) (.inr hx)))
 obtain ⟨m,hn,hl⟩:=id I1.loc
 have hv:∃ v,m x=some v:=by
  obtain ⟨u,_,q⟩:=hl i x V.non hi (List.getElem?_set_self hiσ) (.inl hx)
  rcases q with ⟨_,z⟩ | ⟨k,_⟩
  ·exact ⟨u,z⟩
  ·have k:X.env.scope.names.lookup x=some .cell∨X.env.scope.names.lookup x=some .free:=k
   rw [hx] at k
   rcases k with k | k <;> cases k
 obtain ⟨v,hv⟩:=hv
 unfold unbindBehindTheSuite
 refine wpAny_onRaise (wpAny_unbindName_local hx hn hv hcls fun h' u hn' hs=>h _ ?_)
 obtain ⟨oL,_,_,hoL,_⟩:=id hn
 have cne:=I1.cne
 refine ⟨I1.ok,I1.os,I1.bare,⟨fun b o e n hb hx=>?_,fun b o e n hb hx=>?_,I1.base.free,fun b o e hx=>?_,I1.base.tups,I1.base.frzs,I1.base.tbls⟩,⟨_,hn',fun j y v' e1 e2 e3=>?_⟩,fun y c e=>?_,I1.free,I1.freeC,fun p hp=>?_,fun b ob e=>?_,by rw [List.length_set]; exact I.len⟩
 ·exact (hs.2 b (Nat.ne_of_lt (Nat.lt_of_lt_of_le (Heap.lt_size e) I1.ok.above))).trans (I1.base.keep b o e n hb hx)
 ·obtain ⟨sl,e1⟩:=I1.base.slot b o e n hb hx
  exact ⟨sl,(hs.2 b (Nat.ne_of_lt (Nat.lt_of_lt_of_le (Heap.lt_size e) I1.ok.above))).trans e1⟩
 ·obtain ⟨o',e1⟩:=I1.base.there b o e hx
  exact ⟨o',(hs.2 b (Nat.ne_of_lt (Nat.lt_of_lt_of_le (Heap.lt_size e) I1.ok.above))).trans e1⟩
 ·by_cases hj:j=i
  ·subst hj
   rw [List.getElem?_set_self hiσ] at e2
   cases e2
  ·rw [List.getElem?_set_ne (Ne.symm hj)] at e2
   obtain ⟨u',r',q⟩:=hl j y v' e1 (by rw [List.getElem?_set_ne (Ne.symm hj)]; exact e2) e3
   refine ⟨u',r',?_⟩
   rcases q with ⟨k,e⟩ | ⟨k,c,e,z⟩
   ·refine .inl ⟨k,?_⟩
    have:y ≠ x:=fun e=>hj (u6 hN e1 (e ▸ hi))
    simp [this,e]
   ·exact .inr ⟨k,c,e,z.sameBut hs (cne y c e)⟩
 ·obtain ⟨w',z⟩:=I1.cell y c e
  exact ⟨w',z.sameBut hs (cne y c e)⟩
 ·obtain ⟨e,n,ne,nf,d⟩:=I1.pin p hp
  exact ⟨(hs.2 p.1 ne).trans e,n,ne,nf,d⟩
 ·refine (I1.hok b ob e).stay (fun c w' hc q=>(hs.2 c ?_).trans q) (fun _ q=>q) fun _ _ q=>q
  rintro rfl
  have fr:=I1.free
  rcases hc with rfl | hc
  ·rw [fr] at e; cases e
  ·rw [fr] at hc; cases hc
theorem Flies.track {P:Program} {w:World} {stack:List Env} {H':Hp} {h0 h:Heap} {e C:Addr} (f:Flies P w stack H h0 H' e (.ref C) h):Un (frs stack) [] H (upd H' e (.ext (OD.excAt e C))) h0 h∧HOk P w (upd H' e (.ext (OD.excAt e C))) h:=by
 have u:=f.un
 have out:=f.out
 obtain ⟨B,a0,fl,_⟩:=f.ex
 obtain ⟨ob,hob,hoc⟩:=fl.there
 have ne0:∀ b o,h0.get? b=some o→b ≠ e:=fun b o q z=>by rw [z,f.new] at q; cases q
 have ne1:∀ b o,H' b=some o→b ≠ e:=fun b o q z=>by rw [z,out] at q; cases q
 refine ⟨⟨u.keep,u.slot,fun b o q n hx=>by rw [zr (ne0 b o q)]; exact u.free b o q n hx,u.there,fun b xs q=>by rw [zr (ne1 b _ (u.tups b xs q))]; exact u.tups b xs q,fun b o v q=>by rw [zr (ne1 b _ (u.frzs b o v q))]; exact u.frzs b o v q,fun b ps q=>?_⟩,fun b o q=>?_⟩
 ·obtain ⟨m,z⟩:=u.tbls b ps q
  exact ⟨m,by rw [zr (ne1 b _ z)]; exact z⟩
 ·by_cases hb:b=e
  ·subst hb
   rw [zu] at q
   cases q
   exact ⟨⟨ob,hob,hoc⟩,⟨ob,hob⟩,fun h1 h2 ⟨o,ho,hc⟩ k=>⟨o,k o ho,hc⟩⟩
  ·rw [zr hb] at q
   exact (f.hok b o q).stay (fun _ _ _ z=>z) (fun c z=>by rw [zr (ne1 c _ z)]; exact z) fun c xs z=>by rw [zr (ne1 c _ z)]; exact z
end
section
variable {X:Cx} {t:TB} {th:TS} {y n:Str} {j:Nat} {c:Value} {py hpos pos:Pos} {body:List Stmt} {b₀:Stmt} {suite:List Stmt}
def Ends.off (D:Ends) (j:Nat):Ends:=⟨fun σ H=>D.nx (σ.set j none) H,D.rt,fun σ H=>D.bk (σ.set j none) H,fun σ H=>D.ct (σ.set j none) H⟩
def iV (K:PySem.W.Frag) (c:Value) (j:Nat) (t:TB) (th:TS):TS:=fun D σ H=>t D.nx (fun cls _ H'=>PySem.W.exmOne K cls c=some true∧∀ a C,cls=.ref C→H' a=none→th (D.off j) (σ.set j (some (.ref a))) (upd H' a (.ext (OD.excAt a C)))) σ H
theorem qw (hstk:X.stack=X.env :: X.outer) (hf:X.env.frame=some X.env.locals) (hN:X.N.Nodup) (hj:X.N[j]? = some n) (hn:X.env.scope.names.lookup n=some .local) (hb:PB X body t) (hh:∀ a,PSs (X.inH a) (b₀ :: suite) th) (hg:Gl X y) (hm:X.mg y=some c)
  (hd:(y == ("__debug__":Str))=false:=by decide):PS X (.Try body [.ExceptHandler (some (.Name y py)) (some n) (b₀ :: suite) hpos] [] [] pos) (iV X.K c j t th):=by
 intro pins s σ H D I h
 have hfr:X.A.frames=some (X.env :: X.outer):=by rw [← hstk]; exact I.ok.frames
 refine wpAny_Try_except (wpAny_mono (hb pins s σ H _ _ I h) (fun f s1 ⟨ef,σ',H',I',q⟩=>?_) fun e s1 hx=>?_)
 ·subst ef
  exact wpAny_execs_nil ⟨σ',H',I',q⟩
 ·obtain ⟨a,C,H',H1,s2,rfl,I1,os,bare,fl,hex,hth⟩:=hx
  obtain ⟨B,a0,fl0,go⟩:=fl.go
  have inv:∀ h',Heap.FlyingW B X.stack a (.ref C) a0 h'→s1.heap.UpToSlots h'→Inv X pins σ H' { s1 with heap:=h' }:=fun h' x1 x2=>
   have f':=go h' x1 x2
   I1.call' (s':={ s1 with heap:=h' }) os f'.un f'.hok bare (fun _ z=>nomatch z)
  rw [hstk] at fl0
  refine wpAny_looks_onW hfr hf fl0 fun h4 held4 up4=>?_
  refine wpAny_landsW held4 fun h5 fl5 up5=>?_
  have I5:=inv h5 (by rw [hstk]; exact fl5) (up4.trans up5)
  obtain ⟨ob,hob,hoc⟩:=fl5.there
  have ty:PySem.W.Looks (model X.prog X.w) h5 (typeOf (.ref a)) (.ref C):=by rw [← hoc]; exact (PySem.W.Looks.ld hob).andThen .now
  refine wpAny_handleBy_cons (codeAny_handlers_test (xH (X:=X.inH a) (I5.inH a) hg hm ((PySem.W.exm_one I5.kIn ty hex).here ?_) hd)) (by intro q; cases q)
  refine codeAny_handlers_suite_as ?_
  refine lands_againW fl5 fun h6 fl6 up6=>?_
  have f6:=go h6 (by rw [hstk]; exact fl6) ((up4.trans up5).trans up6)
  have I6:Inv X pins σ (upd H' a (.ext (OD.excAt a C))) { s1 with heap:=h6 }:=I1.call' (s':={ s1 with heap:=h6 }) os f6.track.1 f6.track.2 bare (fun _ z=>nomatch z)
  refine xR (X:=X.inH a) (v:=V.ref a) (I6.inH a) hN hj (.inl hn) rfl (fun s7 I7=>?_) (.inr hn)
  refine wpAny_mono (hh a pins s7 _ _ (D.off j) I7 (hth a C rfl f6.out)) (fun f s3 q=>?_) fun _ _ z=>z.elim
  have q:=SP.outH I.ok q
  cases f with
  | next=>obtain ⟨σ',H',I',q⟩:=q; exact wn I' hN hj hn fun s' I''=>⟨_,H',I'',q⟩
  | brk=>obtain ⟨σ',H',I',q⟩:=q; exact wn I' hN hj hn fun s' I''=>⟨_,H',I'',q⟩
  | cont=>obtain ⟨σ',H',I',q⟩:=q; exact wn I' hN hj hn fun s' I''=>⟨_,H',I'',q⟩
  | ret u=>obtain ⟨v,σ',H',I',r,q⟩:=q; exact wn I' hN hj hn fun s' I''=>⟨v,_,H',I'',r,q⟩
end
end L2
namespace L2
open PySem PySem.Spec PyProof.Rows PySem.W PySem.Builtin PySem.Builtin.ObjectAttr PySem.Builtin.Getset_descriptor
structure v9 (K:PySem.W.Frag) (C:Addr):Prop where
 ga:PySem.W.findIn K (.ref C) "__getattribute__"=some (some (.builtin "BaseException.__getattribute__"))
 gn:PySem.W.findIn K (.ref C) "__getattr__"=some none
 ha:PySem.W.findIn K (.ref C) "__class__"=some (some (.builtin "object.__class__"))
 hn:PySem.W.specialIn K (.builtin "object.__class__") "__get__"=some (some (.builtin "getset_descriptor.__get__"))
 htk:PySem.W.takesIn K (.builtin "object.__class__")=some true
 hm:PySem.W.mroIn K C (.type "object")=some true
 hb:PySem.W.mroIn K C (.type "BaseException")=some true
section
variable {prog:Program} {w:World} {A:Around} {E:Value→Shared→Prop} {s:Shared} {K:PySem.W.Frag} {a C:Addr} {oa:Obj}
theorem jz {R:Result→Shared→Prop} {tp:Value} (X:K.In s.heap) (e1:s.heap.get? a=some oa) (e2:oa.cls=.ref C) (hm:mroIn K C (.type "object")=some true) (h:R (.ok (.ret (.ref C))) s):
  codeAny (model prog w) A (.call (.builtin "getset_descriptor.__get__") ⟨[.builtin "object.__class__",.ref a,tp],[]⟩) R s:=by
 obtain ⟨h0,gs,dn,tn,oo⟩:=s
 have e1:h0.get? a=some oa:=e1
 have Lt:Looks (model prog w) h0 (typeOf (.ref a)) (.ref C):=e2 ▸ (Looks.ld e1).andThen .now
 have Lm:=looks_mroIn (M:=model prog w) X hm
 refine codeAny_call_builtin KF.slot_gs.plain KF.entry_gs (KF.slot_gs.check (model prog w) _ _ _ _ _ _ _ KF.type_class (KF.args_gs _ _ _) ?_)
 unfold Builtin.«getset_descriptor.__get__» descrGet; rw [dga_obj]
 refine wpAny_bind (wpAny_pure ?_); unfold descrGetter descrCheckInstance descrNameAndClass isInstance
 simp only [KF.owner_class]
 repeat lk
 refine ⟨Code.quiet_builtin _ (by decide +kernel),codeAny_builtin KF.entry_class (by
  unfold Builtin.«object.__class__» shownTypeOf
  repeat lk
  exact h)⟩
theorem n5 {Q:Option Value→Shared→Prop} (O:v9 K C) (X:K.In s.heap) (e1:s.heap.get? a=some oa) (e2:oa.cls=.ref C)
  (h:Q (some (.ref C)) { s with toks:=s.toks + 1 }):wpAny (model prog w) A (getAttr? (.ref a) "__class__") Q E s:=by
 obtain ⟨h0,gs,dn,tn,oo⟩:=s
 have Lt:Looks (model prog w) h0 (typeOf (.ref a)) (.ref C):=e2 ▸ (Looks.ld e1).andThen .now
 have La:=looks_findIn (M:=model prog w) X O.ga
 have Ln:=looks_findIn (M:=model prog w) X O.gn
 have Lf:Looks (model prog w) h0 (Builtin.ObjectAttr.find (.ref a) (.ref C) "__class__") (.bind (.builtin "getset_descriptor.__get__") (.builtin "object.__class__")):=
  (looks_findIn X O.ha).andThen ((looks_specialIn X O.hn).andThen ((show Looks _ h0 (Builtin.ObjectAttr.dataDescriptor? (some (.builtin "object.__class__")) (some (.builtin "getset_descriptor.__get__"))) (some (.builtin "getset_descriptor.__get__",.builtin "object.__class__")) from (looks_takesIn X O.htk).andThen .now).andThen (Looks.tag .now)))
 unfold getAttr? getAttrBy? getAttrBy
 refine wpAny_bind (wpAny_mkText (wpAny_bind (wpAny_attempt (wpAny_holding (wpAny_bind (Lt.at (wpAny_bind (La.at ?_))))))))
 show wpAny _ _ (getAttrByItsOwn _ _ _ _ _ _) _ _ _
 unfold getAttrByItsOwn hookBefore
 refine wpAny_bind (show wpAny _ _ (typeLookup _ _) _ _ _ from Ln.at (wpAny_bind (wpAny_attempt (wpAny_holding (show wpAny _ _ (boundAndCalled _ _ _) _ _ _ from ?_)))))
 unfold boundAndCalled
 refine wpAny_bind (wpAny_of_eq (PySem.F.attrBase_ValueError.ga.bind (.ref a)) ?_)
 have Lb:=looks_mroIn (M:=model prog w) X O.hb
 refine wpAny_call (codeAny_call_builtin PySem.F.attrBase_ValueError.ga.plain PySem.F.entry_bexc_ga ?_)
 have hk1:builtinKind "BaseException.__getattribute__"=some .slot:=by decide +kernel
 have hk2:splitId "BaseException.__getattribute__"=some ("BaseException","__getattribute__"):=by decide +kernel
 have hk3:=PySem.F.args_bexc_ga (.ref a) (.str "__class__" tn)
 simp only [checkBuiltinCall,hk1,hk2]
 unfold isInstance
 refine wpAny_bind (wpAny_bind (Lt.at (Lb.at ?_)))
 have hid:∃ z,z=oa∧h0.get? a=some z:=⟨oa,rfl,e1⟩
 clear e1
 repeat (any_goals (first | assumption | wp_step))
 obtain ⟨z,rfl,e1⟩:=hid
 refine wpAny_loadPart_at e1 ?_
 refine wpAny_pure ?_
 rw [e2]
 refine wpAny_bind (Lf.at ?_)
 show wpAny _ _ (holding [Value.builtin "object.__class__"] (call (Value.builtin "getset_descriptor.__get__") [Value.builtin "object.__class__",Value.ref a,Value.ref C]) >>= ret) _ _ _
 exact wpAny_bind (wpAny_holding (wpAny_call (jz (s:=⟨h0,gs,dn,tn + 1,oo⟩) X e1 e2 O.hm (wpAny_pure (handed_on rfl (wpAny_pure h))))))
end
theorem sS {K:PySem.W.Frag} {C:Addr} {b:Value} {r:Bool} (e:mroIn K C b=some r):∃ c d cd sl,K.lookup C=some ⟨c,d,.cls cd,sl⟩:=by
 unfold mroIn clsIn at e
 revert e
 cases q:K.lookup C with
 | none=>intro e; simp at e
 | some o=>
  obtain ⟨c,d,dt,sl⟩:=o
  cases dt <;> intro e <;> first | exact ⟨_,_,_,_,rfl⟩ | simp at e
theorem lv {K:PySem.W.Frag} {a C:Addr} (O:v9 K C):KitX K (.ref a) (.ref C) (OD.excAt a C) where
 ty:=fun _ _ _ ⟨_,e1,e2⟩=>e2 ▸ (Looks.ld e1).andThen .now
 it:=fun _ _ X _=>by
  obtain ⟨c,d,cd,sl,hl⟩:=sS O.hm
  intro A1 Q1 E1 s1 k1 q1
  unfold isType loadHead
  exact wpAny_bind (wpAny_loadPart (k1 _ _ (X _ _ hl)) (wpAny_pure q1))
 ne:=fun h tp dd its n sl X htp=>by
  obtain ⟨c,d,cd,sl1,hl⟩:=sS O.hm
  refine Bool.eq_false_iff.mpr fun q=>?_
  have e:C=tp:=Value.ref.inj (eq_of_beq q)
  rw [e] at hl
  have z:=(X _ _ hl).symm.trans htp; cases z
 ca:=fun X ⟨_,e1,e2⟩ k=>n5 O X e1 e2 k
end L2
namespace OD
open PySem PySem.Spec PyProof.Rows L2
variable {Z:Hp}
def XOn (X:Cx) (C:Addr) (H':Hp):Prop:=∀ (pins:List (Addr × Obj)) (σ:L2.St) (H:Hp) (s:Shared) (a:Addr) (s':Shared),Inv X pins σ H s→s'.os=s.os→AllBare s'.gens→Flies X.prog X.w X.stack H s.heap H' a (.ref C) s'.heap→X.xe (.ref a) s'
def cP (X:Cx):XK:=fun cls _ H'=>∃ C,cls=.ref C∧XOn X C H'
theorem qz {X:Cx}:vU (CX1 X.prog X.w) X (cP X):=fun pins σ H s e s' I ⟨a,C,H',ee,os,bare,fl,C',ec,h⟩=>by
 cases ec
 subst ee
 exact h pins σ H s a s' I os bare fl
def Rz (X:Cx) (C:Addr):Prop:=∀ H',Same (Zx X) H'→XOk X C H'∧XOn X C H'
section
variable {P:Program} {w:World} {K:PySem.W.Frag} {mg:Str→Option Value} {base:Heap} {N:List Str} {qual:Str} {scope:Scope} {f C:Addr} {cd:Value} {A:Around} {outer:List Env} {s:Shared} {H H1:Hp} {E:XK}
theorem j6 (h:∀ H',Same H H'→E (.ref C) none H'):Rz (yu (CX1 P w) P w K mg base N qual scope f cd A outer s H E) C:=fun H' z=>by
 rw [n9] at z
 refine ⟨iM (h H' z),fun pins σ H2 s2 a s' I os bare fl=>?_⟩
 exact gF (X:=yu (CX1 P w) P w K mg base N qual scope f cd A outer s H E) I rfl rfl rfl fl fun h' fl'=>⟨a,C,H',rfl,os.trans I.os,bare,fl',h H' z⟩
end
abbrev y7:=List Dt→(Dt→Prop)→(Addr→Prop)→Prop
def uJ (K:PySem.W.Frag) (S:y7):Sp:=fun vs H Q E=>∃ (W:Vw) (ds:List Dt) (Qd:Dt→Prop) (Ed:Addr→Prop),W.h=H∧AllIs K W.g ds vs∧S ds Qd Ed∧(∀ d v W',Le W W'→Is K W'.g d v→Qd d→Q v W'.h)∧∀ C H',Same W.h H'→Ed C→E (.ref C) none H'
def wm (K:PySem.W.Frag) (S:y7):Sp:=fun vs H Q E=>∃ (W:Vw) (ds:List Dt) (Qd:Dt→Prop) (Ed:Addr→Prop),W.h=H∧AllIs K W.g ds vs∧S ds Qd Ed∧
 (∀ es p xs W',Le W W'→W.h p=none→W'.h p=some (.lst xs)→W'.g p=none→AllIs K W'.g es xs→Qd (.lst es)→Q (.ref p) W'.h)∧∀ C H',Same W.h H'→Ed C→E (.ref C) none H'
structure DOkX (P:Program) (w:World) (K:PySem.W.Frag) (mg:Str→Option Value) (base:Heap) (n:Nat) (x:Str) (S:y7):Prop where
 ex:∃ f fd ps,mg x=some (.ref f)∧PySem.W.keepIn K (.ref f)=true∧Binds K fd ps []∧FnOk P w K mg base (CX1 P w) n f fd ps (uJ K S)
structure FOkX (P:Program) (w:World) (K:PySem.W.Frag) (mg:Str→Option Value) (base:Heap) (n:Nat) (x:Str) (S:y7):Prop where
 ex:∃ f fd ps,mg x=some (.ref f)∧PySem.W.keepIn K (.ref f)=true∧Binds K fd ps []∧FnOk P w K mg base (CX1 P w) n f fd ps (wm K S)
section
variable {P:Program} {w:World} {K:PySem.W.Frag} {mg:Str→Option Value} {base:Heap}
theorem Fun.okX {CX:CXT} {x qual:Str} {st:Stmt} {f:Addr} {fd:FuncData} {N ps:List Str} {k:Nat} {sp:Sp} (F:Fun K x qual st f fd) (S:zf N ps (defScope st)) (len:∀ vs H Q E,sp vs H Q E→vs.length=ps.length)
  (hbody:∀ (cdv:Value) (A:Around) (outer:List Env) (s:Shared) (H:Hp) (vs:List V) (Q:VK) (E:XK),Room k (A.deeper (envOfC qual (defScope st) s.heap.objs.size f cdv))→sp vs H Q E→
   ∃ t,PSs (yu CX P w K mg base N qual (defScope st) f cdv A outer s H E) (defBody st) t∧t { nx:=fun _ H'=>Q .non H',rt:=Q } (start N vs) H):FnOk P w K mg base CX (k + 1) f fd ps sp:=by
 obtain ⟨oc,od,kV,doc,pm,an,cdv,ct,osl,rfl,lk,hcd⟩:=F.ex
 exact iq lk hcd S len fun A outer s H vs Q E hr h=>hbody cdv A outer s H vs Q E hr h
theorem cj {x qual:Str} {st:Stmt} {f:Addr} {fd:FuncData} {N ps:List Str} {k:Nat} {S:y7} (F:Fun K x qual st f fd) (sc:zf N ps (defScope st)) (len:∀ ds Q R,S ds Q R→ds.length=ps.length)
  (hbody:∀ (cdv:Value) (A:Around) (outer:List Env) (s:Shared) (H:Hp) (E:XK),Room k (A.deeper (envOfC qual (defScope st) s.heap.objs.size f cdv))→∀ (ds:List Dt) (Q:Dt→Prop) (R:Addr→Prop),S ds Q R→
   (∀ C,R C→Rz (yu (CX1 P w) P w K mg base N qual (defScope st) f cdv A outer s H E) C)→
   ∃ t,DSs (yu (CX1 P w) P w K mg base N qual (defScope st) f cdv A outer s H E) .d (defBody st) t∧t { nx:=fun _=>Q .non,rt:=Q } (yi N.length ds)):FnOk P w K mg base (CX1 P w) (k + 1) f fd ps (uJ K S):=by
 refine Fun.okX F sc (fun vs H Q E h=>?_) (fun cdv A outer s H vs Q E hr h=>?_)
 ·obtain ⟨W,ds,Qd,Ed,_,ia,hS,_⟩:=h
  rw [← ia.length]
  exact len ds Qd Ed hS
 obtain ⟨W,ds,Qd,Ed,rfl,ia,hS,kk,ke⟩:=h
 obtain ⟨t,⟨ts,p,l⟩,ht⟩:=hbody cdv A outer s W.h E hr ds Qd Ed hS fun C hC=>j6 fun H' z=>ke C H' z hC
 refine ⟨ts,p,l W W.g (yi N.length ds) (start N vs) W { nx:=fun _=>Qd .non,rt:=Qd } _ (wj ia (uL (Nat.succ_ne_self _))) ⟨fun ρ σ W' a q=>kk .non .non W' a.le (is_non.mpr rfl) q,fun d v W' s' i' q=>kk d v W' s' i' q,fun _ _ _ _ q=>q.elim,fun _ _ _ _ q=>q.elim⟩ ht⟩
theorem fZ {x qual:Str} {st:Stmt} {f:Addr} {fd:FuncData} {N ps:List Str} {k:Nat} {S:y7} (F:Fun K x qual st f fd) (sc:zf N ps (defScope st)) (len:∀ ds Q R,S ds Q R→ds.length=ps.length)
  (hbody:∀ (cdv:Value) (A:Around) (outer:List Env) (s:Shared) (H:Hp) (E:XK),Room k (A.deeper (envOfC qual (defScope st) s.heap.objs.size f cdv))→∀ (ds:List Dt) (Q:Dt→Prop) (R:Addr→Prop),S ds Q R→
   (∀ C,R C→Rz (yu (CX1 P w) P w K mg base N qual (defScope st) f cdv A outer s H E) C)→
   ∃ t,DSs (yu (CX1 P w) P w K mg base N qual (defScope st) f cdv A outer s H E) .l (defBody st) t∧t { nx:=fun _=>False,rt:=Q } (yi N.length ds)):FnOk P w K mg base (CX1 P w) (k + 1) f fd ps (wm K S):=by
 refine Fun.okX F sc (fun vs H Q E h=>?_) (fun cdv A outer s H vs Q E hr h=>?_)
 ·obtain ⟨W,ds,Qd,Ed,_,ia,hS,_⟩:=h
  rw [← ia.length]
  exact len ds Qd Ed hS
 obtain ⟨W,ds,Qd,Ed,rfl,ia,hS,kk,ke⟩:=h
 obtain ⟨t,⟨ts,p,l⟩,ht⟩:=hbody cdv A outer s W.h E hr ds Qd Ed hS fun C hC=>j6 fun H' z=>ke C H' z hC
 exact ⟨ts,p,l W W.g (yi N.length ds) (start N vs) W { nx:=fun _=>False,rt:=Qd } _ (wj ia (uL (Nat.succ_ne_self _))) ⟨fun ρ σ W' a q=>q.elim,fun d v W' s' ⟨es,p,xs,e1,e2,e3,e4,e5,e6⟩ q=>by subst e1; subst e2; exact kk es p xs W' s' e3 e4 e5 e6 q,fun _ _ _ _ q=>q.elim,fun _ _ _ _ q=>q.elim⟩ ht⟩
theorem DOkX.mk' {x qual:Str} {st:Stmt} {f:Addr} {fd:FuncData} {ps:List Str} {n:Nat} {S:y7} (F:Fun K x qual st f fd) (hm:mg x=some (.ref f)) (hb:Binds K fd ps []) (h:FnOk P w K mg base (CX1 P w) n f fd ps (uJ K S)):DOkX P w K mg base n x S:=
 ⟨f,fd,ps,hm,F.kp,hb,h⟩
theorem FOkX.mk' {x qual:Str} {st:Stmt} {f:Addr} {fd:FuncData} {ps:List Str} {n:Nat} {S:y7} (F:Fun K x qual st f fd) (hm:mg x=some (.ref f)) (hb:Binds K fd ps []) (h:FnOk P w K mg base (CX1 P w) n f fd ps (wm K S)):FOkX P w K mg base n x S:=
 ⟨f,fd,ps,hm,F.kp,hb,h⟩
theorem DOkX.mono {x:Str} {m n:Nat} {S:y7} (h:DOkX P w K mg base m x S) (hl:m ≤ n):DOkX P w K mg base n x S:=
 let ⟨f,fd,ps,h1,h2,h3,h4⟩:=h.ex; ⟨f,fd,ps,h1,h2,h3,h4.mono hl⟩
theorem FOkX.mono {x:Str} {m n:Nat} {S:y7} (h:FOkX P w K mg base m x S) (hl:m ≤ n):FOkX P w K mg base n x S:=
 let ⟨f,fd,ps,h1,h2,h3,h4⟩:=h.ex; ⟨f,fd,ps,h1,h2,h3,h4.mono hl⟩
end
section
variable {X:Cx} {e a:Expr} {es:List Expr} {t:DTA} {ta:DTE} {n:Nat} {x y:Str} {S:y7} {p pos np cpos:Pos} {fr:Fr} {C:Addr}
theorem mH {F:Hp} {W:Vw} {ρ:DS} {σ:L2.St} {K:PySem.W.Frag} (r:Rl K Z F W ρ σ):Same Z W.h:=r.z.trans r.fr
def l7 (X:Cx) (S:y7) (t:DTA):DTE:=fun ρ Q=>t ρ fun ds=>S ds Q (Rz X)
theorem lY (G:DOkX X.prog X.w X.K X.mg X.base n x S) (hr:Room n X.A) (hg:Gl X x) (ha:DA X (e :: es) t) (hdb:(x == ("__debug__":Str))=false:=by decide)
  (he:starEach (e :: es) X.env=(false,eval e X.env) :: starEach es X.env:=by rfl) (hpl:(backTo pos (starEach es X.env)).any (·.1)=false:=by rfl):DE X (.Call (.Name x p) (e :: es) [] pos) (l7 X S t):=by
 obtain ⟨f,fd,ps,hm,hk,hb,F⟩:=G.ex
 obtain ⟨te,p1,l1⟩:=ha
 refine ⟨_,wV F hr hg hm hk hb .nil qz p1 hdb he hpl,fun ρ σ H Q r h R k=>l1 ρ σ H _ r h _ fun ds vs H1 s1 i1 q1=>?_⟩
 rw [List.append_nil]
 exact ⟨H1,ds,Q,Rz X,rfl,i1,q1,fun d v H2 s2 i2 q2=>k d v H2 (s1.trans s2) i2 q2,fun C H' s' hC=>⟨C,rfl,(hC H' (((mH r).trans s1.h).trans s')).2⟩⟩
theorem lU (G:FOkX X.prog X.w X.K X.mg X.base n x S) (hr:Room n X.A) (hg:Gl X x) (ha:DA X (e :: es) t) (hdb:(x == ("__debug__":Str))=false:=by decide)
  (he:starEach (e :: es) X.env=(false,eval e X.env) :: starEach es X.env:=by rfl) (hpl:(backTo pos (starEach es X.env)).any (·.1)=false:=by rfl):DF X (.Call (.Name x p) (e :: es) [] pos) (l7 X S t):=by
 obtain ⟨f,fd,ps,hm,hk,hb,F⟩:=G.ex
 obtain ⟨te,p1,l1⟩:=ha
 refine ⟨_,wV F hr hg hm hk hb .nil qz p1 hdb he hpl,fun ρ σ H Q r h R k=>l1 ρ σ H _ r h _ fun ds vs H1 s1 i1 q1=>?_⟩
 rw [List.append_nil]
 exact ⟨H1,ds,Q,Rz X,rfl,i1,q1,fun es p xs H2 s2 h0 h1 h2 i2 q2=>k es p xs H2 (s1.trans s2) (s1.h.free h0) h1 h2 i2 q2,fun C H' s' hC=>⟨C,rfl,(hC H' (((mH r).trans s1.h).trans s')).2⟩⟩
def gQ (X:Cx) (C:Addr) (ta:DTE):DTS:=fun _ ρ=>ta ρ fun _=>Rz X C
theorem qQ (hc:X.calm=true) (hg:Gl X x) (hm:X.mg x=some (.ref C)) (hC:ExcK X.K C) (ha:DE X a ta) (hdb:(x == ("__debug__":Str))=false:=by decide)
  (he:starEach [a] X.env=(false,eval a X.env) :: starEach [] X.env:=by rfl):DSt X fr (.Raise (some (.Call (.Name x np) [a] [] cpos)) none pos) (gQ X C ta):=by
 obtain ⟨te,p1,l1⟩:=ha
 exact ⟨_,mR hc hg hm hC p1 hdb he,fun W0 G ρ σ W D D' at_ s h=>l1 ρ σ W _ at_.rl h _ fun d v W1 s1 i1 q1=>(q1 W1.h ((mH at_.rl).trans s1.h)).1⟩
def oM (K:PySem.W.Frag) (Z:Hp) (fr:Fr) (t:DTS):TS:=fun D' σ H=>∃ (W0:Vw) (G:Hp) (ρ:DS) (W:Vw) (D:DEnds),W.h=H∧At K Z W0 G W ρ σ∧Sim K Z fr W0 G D D'∧t D ρ
theorem DSs.up {sts:List Stmt} {t:DTS} (h:DSs X fr sts t):PSs X sts (oM X.K (Zx X) fr t):=by
 obtain ⟨ts,p,l⟩:=h
 intro pins s σ H D' I q
 obtain ⟨W0,G,ρ,W,D,rfl,a,sm,ht⟩:=q
 exact p pins s σ W.h D' I (l W0 G ρ σ W D D' a sm ht)
def Vw.at (W:Vw) (H':Hp) (s:Same W.h H'):Vw:=⟨W.g,H',W.sub.trans s⟩
theorem ij {W:Vw} {H':Hp} (s:Same W.h H'):Le W (W.at H' s):=⟨Same.refl _,s,fun _ _ h=>h⟩
variable {b₀:Stmt} {suite:List Stmt} {th:DTS} {c:Value} {py hpos epos tpos:Pos}
theorem je {f:Addr} {fd:FuncData} {ps:List Str} {sp:Sp} {te:TA} (F:FnOk X.prog X.w X.K X.mg X.base (CX1 X.prog X.w) n f fd ps sp) (hr:Room n X.A) (hg:Gl X x) (hm:X.mg x=some (.ref f)) (hk:PySem.W.keepIn X.K (.ref f)=true) (hb:Binds X.K fd ps []) (ha:PA X.nox (e :: es) te)
  (hs:swapsWith (.Call (.Name x p) (e :: es) [] pos) none epos.line X.env=pure false:=by rfl) (hdb:(x == ("__debug__":Str))=false:=by decide)
  (he:starEach (e :: es) X.env=(false,eval e X.env) :: starEach es X.env:=by rfl) (hpl:(backTo pos (starEach es X.env)).any (·.1)=false:=by rfl):
  PB X [.Expr (.Call (.Name x p) (e :: es) [] pos) epos] (fun nx E σ H=>te σ H fun vs H1=>sp vs H1 (fun _ H2=>nx σ H2) E):=by
 intro pins s σ H nx E I h
 refine wpAny_execs_cons (wpAny_Expr_any (thn (kg F hr hg hm hk hb ha I h hdb he hpl) fun v s1 ⟨x,H1,I1,r1,q1⟩=>?_) I.quiet hs)
 exact wpAny_execs_nil ⟨rfl,σ,H1,I1,q1⟩
end
theorem Rl.unset {K:PySem.W.Frag} {F:Hp} {W:Vw} {ρ:DS} {σ:L2.St} (r:Rl K Z F W ρ σ) (j:Nat):Rl K Z F W (ρ.set j .none) (σ.set j none):=by
 refine ⟨by rw [List.length_set,List.length_set]; exact r.len,fun i d q=>?_,fun i ds q=>?_,fun i k ds es hik q1 q2=>?_,r.fr,r.z,fun i c ds q=>?_⟩
 ·rcases zm q with ⟨_,_,e1⟩ | ⟨hij,q⟩
  ·cases e1
  ·rw [List.getElem?_set_ne hij]; exact r.at_ i d q
 ·rcases zm q with ⟨_,_,e1⟩ | ⟨hij,q⟩
  ·cases e1
  ·rw [List.getElem?_set_ne hij]; exact r.ow i ds q
 ·rcases zm q1 with ⟨_,_,e1⟩ | ⟨h1,q1⟩
  ·cases e1
  rcases zm q2 with ⟨_,_,e1⟩ | ⟨h2,q2⟩
  ·cases e1
  rw [List.getElem?_set_ne h1,List.getElem?_set_ne h2]; exact r.ne i k ds es hik q1 q2
 ·rcases zm q with ⟨_,_,e1⟩ | ⟨hij,q⟩
  ·cases e1
  obtain ⟨⟨ys',g1,g2⟩,k1,k2⟩:=r.ar i c ds q
  refine ⟨⟨ys',by rw [List.getElem?_set_ne hij]; exact g1,g2⟩,fun k es' q'=>?_,fun k c' es' q'=>?_⟩
  ·rcases zm q' with ⟨_,_,e1⟩ | ⟨hik,q'⟩
   ·cases e1
   ·rw [List.getElem?_set_ne hik]; exact k1 k es' q'
  ·rcases zm q' with ⟨_,_,e1⟩ | ⟨hik,q'⟩
   ·cases e1
   exact k2 k c' es' q'
theorem At.unset {K:PySem.W.Frag} {W0 W:Vw} {G:Hp} {ρ:DS} {σ:L2.St} (a:At K Z W0 G W ρ σ) (j:Nat):At K Z W0 G W (ρ.set j .none) (σ.set j none):=⟨a.le,a.gs,a.rl.unset j⟩
abbrev DEnds.off (D:DEnds) (j:Nat):DEnds:=⟨fun ρ=>D.nx (ρ.set j .none),D.rt,fun ρ=>D.bk (ρ.set j .none),fun ρ=>D.ct (ρ.set j .none)⟩
theorem Sim.off {K:PySem.W.Frag} {fr:Fr} {W0:Vw} {G:Hp} {D:DEnds} {D':Ends} (s:Sim K Z fr W0 G D D') (j:Nat):Sim K Z fr W0 G (D.off j) (D'.off j):=
 ⟨fun ρ σ W' a q=>s.nx _ _ W' (a.unset j) q,s.tl,fun ρ σ W' a q=>s.bk _ _ W' (a.unset j) q,fun ρ σ W' a q=>s.ct _ _ W' (a.unset j) q⟩
section
variable {X:Cx} {e:Expr} {es:List Expr} {t:DTA} {n:Nat} {x y m:Str} {i j:Nat} {S:y7} {p pos py hpos epos tpos:Pos} {fr:Fr} {b₀:Stmt} {suite:List Stmt} {th:DTS} {c:Value}
theorem mY {f:Addr} {fd:FuncData} {ps:List Str} {sp:Sp} {te:TA} (hN:X.N.Nodup) (hi:X.N[i]? = some m) (hx:Loc X.env.scope m) (F:FnOk X.prog X.w X.K X.mg X.base (CX1 X.prog X.w) n f fd ps sp) (hr:Room n X.A) (hg:Gl X x) (hm:X.mg x=some (.ref f)) (hk:PySem.W.keepIn X.K (.ref f)=true) (hb:Binds X.K fd ps []) (ha:PA X.nox (e :: es) te)
  (hs:swapsWith (.Call (.Name x p) (e :: es) [] pos) (some (.Name m py)) epos.line X.env=pure false:=by rfl) (hdb:(x == ("__debug__":Str))=false:=by decide)
  (he:starEach (e :: es) X.env=(false,eval e X.env) :: starEach es X.env:=by rfl) (hpl:(backTo pos (starEach es X.env)).any (·.1)=false:=by rfl) (hf:X.fn m=true∨X.env.scope.names.lookup m=some .local:=by first | exact .inl rfl | exact .inr rfl | assumption):
  PB X [.Assign [.Name m py] (.Call (.Name x p) (e :: es) [] pos) epos] (fun nx E σ H=>te σ H fun vs H1=>sp vs H1 (fun v H2=>nx (σ.set i (some v)) H2) E):=by
 intro pins s σ H nx E I h
 refine wpAny_execs_cons (wpAny_Assign_Name (thn (kg F hr hg hm hk hb ha I h hdb he hpl) fun v s1 ⟨y,H1,I1,r1,q1⟩=>?_) hs)
 exact xR I1 hN hi hx r1 (fun s2 I2=>wpAny_execs_nil ⟨rfl,_,H1,I2,q1⟩) hf
def gP (K:PySem.W.Frag) (c:Value) (j:Nat) (S:y7) (t:DTA) (th:DTS):DTS:=fun D ρ=>t ρ fun ds=>S ds (fun _=>D.nx ρ) fun C=>PySem.W.exmOne K (.ref C) c=some true∧th (D.off j) (ρ.set j (.some (.exc C)))
def lZ (K:PySem.W.Frag) (c:Value) (i:Nat) (S:y7) (t:DTA) (th:DTS):DTS:=fun D ρ=>t ρ fun ds=>S ds (fun d=>∃ es,d=.lst es∧D.nx (ρ.set i (.own es))) fun C=>PySem.W.exmOne K (.ref C) c=some true∧th D ρ
def om (K:PySem.W.Frag) (c:Value) (i j:Nat) (S:y7) (t:DTA) (th:DTS):DTS:=fun D ρ=>t ρ fun ds=>S ds (fun d=>∃ es,d=.lst es∧D.nx (ρ.set i (.own es))) fun C=>PySem.W.exmOne K (.ref C) c=some true∧th (D.off j) (ρ.set j (.some (.exc C)))
theorem kn {K:PySem.W.Frag} {W0 W1:Vw} {G H':Hp} {ρ:DS} {σ:L2.St} {C a:Addr} (at_:At K Z W0 G W1 ρ σ) (s':Same W1.h H') (hn:H' a=none) (j:Nat):
  At K Z W0 G ((W1.at H' s').new a (.ext (excAt a C))) (ρ.set j (.some (.exc C))) (σ.set j (some (.ref a))):=
 ((at_.step (ij s')).step (x6 (W:=W1.at H' s') hn _)).set j (is_exc.mpr ⟨a,rfl,zu⟩)
theorem eT (hstk:X.stack=X.env :: X.outer) (hf:X.env.frame=some X.env.locals) (hN:X.N.Nodup) (hj:X.N[j]? = some m) (hmj:X.env.scope.names.lookup m=some .local) (G:DOkX X.prog X.w X.K X.mg X.base n x S) (hr:Room n X.A) (hg:Gl X x) (ha:DA X.nox (e :: es) t) (hh:∀ a,DSs (X.inH a) fr (b₀ :: suite) th) (hgy:Gl X y) (hmy:X.mg y=some c)
  (hs:swapsWith (.Call (.Name x p) (e :: es) [] pos) none epos.line X.env=pure false:=by rfl) (hdb:(x == ("__debug__":Str))=false:=by decide) (hdy:(y == ("__debug__":Str))=false:=by decide)
  (he:starEach (e :: es) X.env=(false,eval e X.env) :: starEach es X.env:=by rfl) (hpl:(backTo pos (starEach es X.env)).any (·.1)=false:=by rfl):
  DSt X fr (.Try [.Expr (.Call (.Name x p) (e :: es) [] pos) epos] [.ExceptHandler (some (.Name y py)) (some m) (b₀ :: suite) hpos] [] [] tpos) (gP X.K c j S t th):=by
 obtain ⟨f,fd,ps,hm,hk,hb,F⟩:=G.ex
 obtain ⟨te,p1,l1⟩:=ha
 refine ⟨_,qw (th:=oM X.K (Zx X) fr th) hstk hf hN hj hmj (je F hr hg hm hk hb p1 hs hdb he hpl) (fun a=>(hh a).up) hgy hmy hdy,fun W0 G ρ σ W D D' at_ s h=>?_⟩
 refine l1 ρ σ W _ at_.rl h _ fun ds vs W1 s1 i1 q1=>⟨W1,ds,_,_,rfl,i1,q1,fun d v W2 s2 i2 q2=>s.nx ρ σ W2 ((at_.step s1).step s2) q2,fun C H' s' ⟨e1,e2⟩=>⟨e1,fun a C' ec hn=>?_⟩⟩
 cases ec
 exact ⟨W0,G,_,_,_,rfl,kn (at_.step s1) s' hn j,s.off j,e2⟩
theorem iA {m2:Str} {pm:Pos} (hstk:X.stack=X.env :: X.outer) (hf:X.env.frame=some X.env.locals) (hN:X.N.Nodup) (hi:X.N[i]? = some m) (hx:Loc X.env.scope m) (G:FOkX X.prog X.w X.K X.mg X.base n x S) (hr:Room n X.A) (hg:Gl X x) (ha:DA X.nox (e :: es) t) (hh:∀ a,DSs (X.inH a) fr (b₀ :: suite) th) (hgy:Gl X y) (hmy:X.mg y=some c)
  (hs:swapsWith (.Call (.Name x p) (e :: es) [] pos) (some (.Name m pm)) epos.line X.env=pure false:=by rfl) (hdb:(x == ("__debug__":Str))=false:=by decide) (hdy:(y == ("__debug__":Str))=false:=by decide)
  (he:starEach (e :: es) X.env=(false,eval e X.env) :: starEach es X.env:=by rfl) (hpl:(backTo pos (starEach es X.env)).any (·.1)=false:=by rfl) (hfm:X.fn m=true∨X.env.scope.names.lookup m=some .local:=by first | exact .inl rfl | exact .inr rfl | assumption):
  DSt X fr (.Try [.Assign [.Name m pm] (.Call (.Name x p) (e :: es) [] pos) epos] [.ExceptHandler (some (.Name y py)) none (b₀ :: suite) hpos] [] [] tpos) (lZ X.K c i S t th):=by
 obtain ⟨f,fd,ps,hm,hk,hb,F⟩:=G.ex
 obtain ⟨te,p1,l1⟩:=ha
 refine ⟨_,i9 (th:=oM X.K (Zx X) fr th) hstk hf (mY hN hi hx F hr hg hm hk hb p1 hs hdb he hpl hfm) (fun a=>(hh a).up) hgy hmy hdy,fun W0 G ρ σ W D D' at_ s h=>?_⟩
 exact l1 ρ σ W _ at_.rl h _ fun ds vs W1 s1 i1 q1=>⟨W1,ds,_,_,rfl,i1,q1,fun es q xs W2 s2 h0 h1 h2 i2 ⟨es',ee,q2⟩=>by cases ee; exact s.nx _ _ W2 ((at_.step s1).own s2 i h0 h1 h2 i2) q2,fun C H' s' ⟨e1,e2⟩=>⟨e1,W0,G,ρ,W1.at H' s',D,rfl,(at_.step s1).step (ij s'),s,e2⟩⟩
theorem su {m2:Str} {pm:Pos} (hstk:X.stack=X.env :: X.outer) (hf:X.env.frame=some X.env.locals) (hN:X.N.Nodup) (hi:X.N[i]? = some m) (hx:Loc X.env.scope m) (hj:X.N[j]? = some m2) (hmj:X.env.scope.names.lookup m2=some .local) (G:FOkX X.prog X.w X.K X.mg X.base n x S) (hr:Room n X.A) (hg:Gl X x) (ha:DA X.nox (e :: es) t) (hh:∀ a,DSs (X.inH a) fr (b₀ :: suite) th) (hgy:Gl X y) (hmy:X.mg y=some c)
  (hs:swapsWith (.Call (.Name x p) (e :: es) [] pos) (some (.Name m pm)) epos.line X.env=pure false:=by rfl) (hdb:(x == ("__debug__":Str))=false:=by decide) (hdy:(y == ("__debug__":Str))=false:=by decide)
  (he:starEach (e :: es) X.env=(false,eval e X.env) :: starEach es X.env:=by rfl) (hpl:(backTo pos (starEach es X.env)).any (·.1)=false:=by rfl) (hfm:X.fn m=true∨X.env.scope.names.lookup m=some .local:=by first | exact .inl rfl | exact .inr rfl | assumption):
  DSt X fr (.Try [.Assign [.Name m pm] (.Call (.Name x p) (e :: es) [] pos) epos] [.ExceptHandler (some (.Name y py)) (some m2) (b₀ :: suite) hpos] [] [] tpos) (om X.K c i j S t th):=by
 obtain ⟨f,fd,ps,hm,hk,hb,F⟩:=G.ex
 obtain ⟨te,p1,l1⟩:=ha
 refine ⟨_,qw (th:=oM X.K (Zx X) fr th) hstk hf hN hj hmj (mY hN hi hx F hr hg hm hk hb p1 hs hdb he hpl hfm) (fun a=>(hh a).up) hgy hmy hdy,fun W0 G ρ σ W D D' at_ s h=>?_⟩
 refine l1 ρ σ W _ at_.rl h _ fun ds vs W1 s1 i1 q1=>⟨W1,ds,_,_,rfl,i1,q1,fun es q xs W2 s2 h0 h1 h2 i2 ⟨es',ee,q2⟩=>by cases ee; exact s.nx _ _ W2 ((at_.step s1).own s2 i h0 h1 h2 i2) q2,fun C H' s' ⟨e1,e2⟩=>⟨e1,fun a C' ec hn=>?_⟩⟩
 cases ec
 exact ⟨W0,G,_,_,_,rfl,kn (at_.step s1) s' hn j,s.off j,e2⟩
theorem sT:CallR X (.builtin "isinstance") (fun xs H Q=>∃ a C vc c b,xs=[.ref a,vc]∧(∀ u,RelV vc u→u=c)∧H a=some (.ext (excAt a C))∧v9 X.K C∧PySem.W.kitOne X.K (.ref C) c=some b∧Q (.bl b) H):=by
 intro pins s σ H xs us Q I r h
 obtain ⟨a,C,vc,c,b,rfl,hvc,ha,O,hk,q⟩:=h
 cases r with
 | cons r1 r2=>
  cases r2 with
  | cons r3 r4=>
   cases r4
   cases r1
   cases hvc _ r3
   exact PySem.W.kia_one (lv O) I.kIn (I.hok a _ ha).1 hk (fun z=>nomatch z) fun tk=>⟨.bl b,H,I.tok _,rfl,q⟩
def iF (K:PySem.W.Frag) (c:Value) (ta:DTE):DTE:=fun ρ Q=>ta ρ fun d=>∃ C b,d=.exc C∧v9 K C∧PySem.W.kitOne K (.ref C) c=some b∧Q (.bl b)
theorem yh {a:Expr} {ta:DTE} {p0 p':Pos} {D:Addr} (hm:X.mg "isinstance"=none) (hmc:X.mg y=some (.ref D)) (ha:DE X a ta)
  (hg:Gl X "isinstance":=by rfl) (hgc:Gl X y:=by rfl) (hdy:(y == ("__debug__":Str))=false:=by decide)
  (hs:starEach [a,.Name y p'] X.env=(false,eval a X.env) :: starEach [.Name y p'] X.env:=by rfl) (hs2:starEach [.Name y p'] X.env=(false,eval (.Name y p') X.env) :: starEach [] X.env:=by rfl)
  (hpl:(backTo pos (starEach [.Name y p'] X.env)).any (·.1)=false:=by rfl):
  DE X (.Call (.Name "isinstance" p0) [a,.Name y p'] [] pos) (iF X.K (.ref D) ta):=by
 obtain ⟨te,p1,l1⟩:=ha
 have pc:PE X (.Name y p') (tC (.ref D)):=oI hgc hmc rfl hdy
 refine ⟨_,xo sT hg hm boot_isinstance (zL p1 (zL pc yF hs2) hs) (by decide) (by decide) hs hpl,fun ρ σ H Q r h R k=>l1 ρ σ H _ r h _ fun d v H1 s1 i1 ⟨C,b,ed,ok,e,q⟩=>?_⟩
 subst ed
 obtain ⟨z,rfl,hz⟩:=is_exc.mp i1
 exact ⟨z,C,_,_,b,rfl,fun u hu=>hu,H1.sub _ _ hz,ok,e,k _ _ H1 s1 (is_bl.mpr rfl) q⟩
theorem lX {a:Expr} {ta:DTE} {p0 p':Pos} (hm:X.mg "isinstance"=none) (hmc:X.mg "ValueError"=none) (ha:DE X a ta)
  (hg:Gl X "isinstance":=by rfl) (hgc:Gl X "ValueError":=by rfl)
  (hs:starEach [a,.Name "ValueError" p'] X.env=(false,eval a X.env) :: starEach [.Name "ValueError" p'] X.env:=by rfl) (hs2:starEach [.Name "ValueError" p'] X.env=(false,eval (.Name "ValueError" p') X.env) :: starEach [] X.env:=by rfl)
  (hpl:(backTo pos (starEach [.Name "ValueError" p'] X.env)).any (·.1)=false:=by rfl):
  DE X (.Call (.Name "isinstance" p0) [a,.Name "ValueError" p'] [] pos) (iF X.K (.type "ValueError") ta):=by
 obtain ⟨te,p1,l1⟩:=ha
 have pc:PE X (.Name "ValueError" p') (tC (.ty "ValueError")):=fun pins s σ H Q I h=>xl I hgc hmc (by decide +kernel) ⟨.ty "ValueError",H,I,rfl,h⟩
 refine ⟨_,xo sT hg hm boot_isinstance (zL p1 (zL pc yF hs2) hs) (by decide) (by decide) hs hpl,fun ρ σ H Q r h R k=>l1 ρ σ H _ r h _ fun d v H1 s1 i1 ⟨C,b,ed,ok,e,q⟩=>?_⟩
 subst ed
 obtain ⟨z,rfl,hz⟩:=is_exc.mp i1
 exact ⟨z,C,_,_,b,rfl,fun u hu=>hu,H1.sub _ _ hz,ok,e,k _ _ H1 s1 (is_bl.mpr rfl) q⟩
end
end OD
namespace OD
variable {Z:Hp}
open PySem PySem.Spec PyProof.Rows L2
def zy (X:Cx) (scope:Scope) (cl:List (Str × Addr)) (bs caps:List Str) (C:Addr) (s:Shared) (H:Hp) (fp:List Addr) (pins:List (Addr × Obj)):Cx where
 prog:=X.prog
 w:=X.w
 K:=X.K
 mg:=X.mg
 base:=X.base
 A:=X.A
 N:=bs ++ caps
 s₀:=s
 H₀:=H
 env:=compEnvC scope cl C X.env
 outer:=X.stack
 stack:=X.stack
 ex:=fp
 fn:=fun y=>bs.contains y
 calm:=X.calm
 pn:=X.pn ++ pins
 xe:=fun _ _=>False
structure uK (X:Cx) (scope:Scope) (cl:List (Str × Addr)) (bs caps:List Str) (js:List Nat):Prop where
 clos:closureFor scope X.env=pure cl
 sub:∀ y c,cl.lookup y=some c→X.env.cells.lookup y=some c
 has:∀ y,((relabel scope X.env).names.lookup y=some .cell∨(relabel scope X.env).names.lookup y=some .free)→∃ c,cl.lookup y=some c
 nox:∀ x ∈ bs,cl.lookup x=none
 cell:∀ y ∈ scope.names,y.2 ≠ .cell
 kind:scope.kind=.function
 names:∀ y ∈ scope.names,y.2=.local→scope.names.lookup y.1=some .local
 loc:∀ x ∈ bs,scope.names.lookup x=some .local
 nd:(bs ++ caps).Nodup
 len:js.length=caps.length
 at_:∀ (k:Nat) y,caps[k]? = some y→∃ j,js[k]? = some j∧X.N[j]? = some y
 cap:∀ y ∈ caps,(relabel scope X.env).names.lookup y=some .cell∧X.env.scope.names.lookup y=some .cell
theorem wd {prog:Program} {w:World} {A:Around} {s:Shared} {elt target iter:Expr} {ifs:List Expr} {scope:Scope} {pos:Pos} {it acc:Value} {env:Env} {R:Result→Shared→Prop} (I:Nat→Shared→Prop)
  (turn:∀ n s,I n s→wpAny (model prog w) A (pyNext it) (fun r s₁=>match r with
   | none=>R (.ok .next) s₁
   | some v=>wpAny (model prog w) A (letOwnedTupleGo target it v) (fun _ s₁'=>wpAny (model prog w) A (assign target env v) (fun _ s₂=>
     wpAny (model prog w) A (forIn ifs true fun c r=>if r=true then do let ok ← isTrue c env (eval c env); pure (ForInStep.yield ok) else pure (ForInStep.yield r)) (fun ok s₃=>
      if ok=true then wpAny (model prog w) A (eval elt env) (fun x s₄=>
       wpAny (model prog w) A (call (.builtin "list.append") [acc,x]) (fun _ s₅=>∃ m,m < n∧I m s₅) (notedBy (model prog w) A env fun e s'=>R (.error e) s') s₄) (notedBy (model prog w) A env fun e s'=>R (.error e) s') s₃
      else ∃ m,m < n∧I m s₃) (notedBy (model prog w) A env fun e s'=>R (.error e) s') s₂)
     (notedBy (model prog w) A env fun e s'=>R (.error e) s') s₁') (notedBy (model prog w) A env fun e s'=>R (.error e) s') s₁) (notedBy (model prog w) A env fun e s'=>R (.error e) s') s)
  (n:Nat) (h:I n s):codeAny (model prog w) A (.compLoop (.ListComp elt [⟨target,iter,ifs,0⟩] scope pos) 0 it acc env) R s:=by
 refine codeAny_loop rfl I (fun n s hI=>?_) n h
 show wpAny _ A ((compTurn (.ListComp elt [⟨target,iter,ifs,0⟩] scope pos) 0 it acc env).onRaise (fun x=>do noteFrame x env; theTreesLotGoes x)) _ _ s
 refine wpAny_noted ?_
 rw [compTurn_list]
 refine wpAny_bind (wpAny_standAt (wpAny_bind (wpAny_mono (turn n s hI) (fun r s₁ h₁=>?_) fun _ _ h'=>h')))
 cases r with
 | none=>exact wpAny_pure h₁
 | some v=>
  refine wpAny_bind (wpAny_mono h₁ (fun _ s₁' h₁'=>?_) fun _ _ h'=>h')
  refine wpAny_bind (wpAny_mono h₁' (fun _ s₂ h₂=>wpAny_bind (wpAny_mono h₂ (fun ok s₃ h₃=>?_) fun _ _ h'=>h')) fun _ _ h'=>h')
  cases ok with
  | false=>exact wpAny_pure ⟨rfl,h₃⟩
  | true=>
   exact wpAny_bind (wpAny_bind (wpAny_mono h₃ (fun x s₄ h₄=>wpAny_bind (wpAny_mono h₄ (fun _ s₅ h₅=>wpAny_pure (wpAny_pure ⟨rfl,h₅⟩)) fun _ _ h'=>h')) fun _ _ h'=>h'))
def PC (X:Cx) (ifs:List Expr) (t:TT):Prop:=
 ∀ (pins:List (Addr × Obj)) (s:Shared) (σ:St) (H:Hp) (Q:Bool→Hp→Prop) (E:Value→Shared→Prop),(∀ v s,X.xe v s→E v s)→Inv X pins σ H s→t σ H Q→
  wpAny (model X.prog X.w) X.A (forIn ifs true fun c r=>if r=true then do let ok ← isTrue c X.env (eval c X.env); pure (ForInStep.yield ok) else pure (ForInStep.yield r)) (TP X pins σ Q) E s
theorem gd {X:Cx} {c:Expr} {t:TT} (p:PT X c t):PC X [c] t:=fun pins s σ H Q _ hE I h=>wpAny_tests_one (wpAny_mono (p pins s σ H Q I h) (fun _ _ z=>z) hE)
section
variable {X:Cx} {pins:List (Addr × Obj)} {σ:St} {H:Hp} {s:Shared} {scope:Scope} {cl:List (Str × Addr)} {bs caps:List Str} {js:List Nat} {fp:List Addr}
theorem nV {h₁:Heap} {t:Nat} {m:Str→Option Value} (I:Inv X pins σ H s) (S:uK X scope cl bs caps js) (hfp:∀ b ∈ fp,wQ X pins H b) (hob:∀ b ∈ fp,∃ o,s.heap.get? b=some o)
  (hn:h₁.Ns s.heap.objs.size m) (hk:∀ b o,s.heap.get? b=some o→h₁.get? b=some o):Inv (zy X scope cl bs caps s.heap.objs.size s H fp pins) [] (bs.map (fun _=>none) ++ uv σ js) H { s with heap:=h₁,toks:=t }:=by
 refine ⟨⟨I.ok.mod,S.kind,I.ok.glob,I.ok.blt,Nat.le_refl _,fun y z c h1 h2=>?_,fun y hy=>?_,fun y c hf h=>?_,I.ok.hd,I.ok.frames,.inl rfl,fun b hb=>⟨?_,fun y c h=>?_⟩,I.bs,Nat.le_trans I.ok.bsz I.sz,fun b o e hb=>?_,fun b hb z=>?_,I.stack,I.stkFree⟩,
  rfl,I.bare,Un.kept hk,⟨_,hn,fun i y v h1 h2 h3=>?_⟩,fun y c h=>?_,I.hok.fresh (Nat.le_refl _),fun y c h=>?_,fun p hp=>?_,I.hok.kept hk,?_⟩
 ·exact I.ok.inj y z c (S.sub y c h1) (S.sub z c h2)
 ·exact S.has y hy
 ·have hf:y ∈ bs:=List.contains_iff_mem.mp hf
  have h:cl.lookup y=some c:=h
  rw [S.nox y hf] at h
  cases h
 ·obtain ⟨o,e⟩:=hob b hb
  exact Nat.ne_of_lt (Heap.lt_size e)
 ·exact (hfp b hb).2.2.2.2.1 y c (S.sub y c h)
 ·obtain ⟨_,_,_,h4,_⟩:=hfp b hb
  rcases h4 with h4 | h4
  ·exact I.ok.noex b o e h4
  ·exact absurd (Nat.lt_of_lt_of_le (Heap.lt_size e) (Nat.le_trans I.ok.bsz h4)) (Nat.lt_irrefl _)
 ·obtain ⟨_,h2,h3,_⟩:=hfp b hb
  rcases List.mem_cons.mp (I.stkSub b z) with q | q
  ·exact h2 q
  ·exact h3 q
 ·by_cases hi:i < bs.length
  ·rw [List.getElem?_append_left (by rw [List.length_map]; exact hi),List.getElem?_map] at h2
   obtain ⟨_,_,e⟩:=Option.map_eq_some_iff.mp h2
   cases e
  ·have hi:bs.length ≤ i:=Nat.le_of_not_lt hi
   have h1:(bs ++ caps)[i]? = some y:=h1
   rw [List.getElem?_append_right hi] at h1
   rw [List.getElem?_append_right (by rw [List.length_map]; exact hi),List.length_map] at h2
   obtain ⟨j,hj,hN⟩:=S.at_ _ y h1
   have hv:σ[j]? = some (some v):=by
    unfold uv at h2
    rw [List.getElem?_map,hj] at h2
    have h2:(σ[j]?).getD none=some v:=Option.some.inj h2
    cases q:σ[j]? with
    | none=>rw [q] at h2; cases h2
    | some w=>rw [q] at h2; exact congrArg some h2
   obtain ⟨c1,c2⟩:=S.cap y (List.mem_of_getElem? h1)
   obtain ⟨m0,_,hl⟩:=I.loc
   obtain ⟨u,ru,lk⟩:=hl j y v hN hv (.inr (.inl c2))
   refine ⟨u,ru,.inr ⟨.inl c1,?_⟩⟩
   obtain ⟨c,hc⟩:=S.has y (.inl c1)
   rcases lk with ⟨lk,_⟩ | ⟨_,c',hc',hcell⟩
   ·have lk:X.env.scope.names.lookup y=some .local:=lk
    rw [c2] at lk
    cases lk
   ·have e:=S.sub y c hc
    rw [hc'] at e
    cases e
    obtain ⟨o,ho,hd⟩:=hcell
    exact ⟨_,hc,o,hk _ _ ho,hd⟩
 ·obtain ⟨v,o,ho,hd⟩:=I.cell y c (S.sub y c h)
  exact ⟨v,o,hk _ _ ho,hd⟩
 ·exact I.freeC y c (S.sub y c h)
 ·have hp:p ∈ X.pn ++ pins:=by
   rcases List.mem_append.mp hp with q | q
   ·exact q
   ·cases q
  obtain ⟨h1,h2,h3,h4,h5⟩:=I.pin p hp
  refine ⟨hk _ _ h1,h2,Nat.ne_of_lt (Heap.lt_size h1),fun z=>?_,h5⟩
  rcases List.mem_cons.mp (I.stkSub _ z) with q | q
  ·exact h3 q
  ·exact h4 q
 ·show (bs.map (fun _=>none) ++ uv σ js).length=(bs ++ caps).length
  unfold uv
  rw [List.length_append,List.length_append,List.length_map,List.length_map,S.len]
theorem nW {C:Addr} {σ':St} {H':Hp} {s':Shared} (I:Inv X pins σ H s) (hfp:∀ b ∈ fp,wQ X pins H b) (I':Inv (zy X scope cl bs caps C s H fp pins) [] σ' H' s'):Inv X pins σ H' s':=
 I.call' (ch:=fp) I'.os I'.base I'.hok I'.bare fun b hb=>by
  obtain ⟨_,h2,_,h4,h5,h6⟩:=hfp b hb
  exact ⟨h4,h2,h5,h6⟩
def pK (gt:TG) (tt:TT) (te:TE) (k:Nat) (τ:St) (Q:V→Hp→Prop):It→Hp→Prop:=fun J H1=>∃ (n:Nat) (vals:Nat→V→Prop),n < sizeLine∧∀ D,H1 D=none→∃ Pv:Nat→List V→Hp→Prop,
 Pv 0 [] (upd H1 D (.lst []))∧(∀ i ys H2,i ≤ n→Pv i ys H2→H2 D=some (.lst ys)∧ys.length ≤ i)∧
 (∀ i ys H2,i < n→Pv i ys H2→J.go i H2∧∀ v H3,J.yld i H2 v H3→H3=H2∧vals i v)∧(∀ ys H2,Pv n ys H2→J.stop n H2)∧
 (∀ i v ys H2 (σ0:St),i < n→vals i v→Pv i ys H2→σ0.length=k→gt v (σ0 ++ τ) H2 fun σ1 H3=>(∃ σ2:St,σ1=σ2 ++ τ∧σ2.length=k)∧tt σ1 H3 fun b H4=>
  if b=true then te σ1 H4 fun y H5=>H5 D=some (.lst ys)∧Pv (i + 1) (ys ++ [y]) (upd H5 D (.lst (ys ++ [y]))) else Pv (i + 1) ys H4)∧∀ ys H2,Pv n ys H2→Q (.ref D) H2
def mw (wi:TI) (gt:TG) (tt:TT) (te:TE) (k:Nat) (js:List Nat):TE:=fun σ H Q=>wi σ H (pK gt tt te k (uv σ js) Q)
theorem qV {elt tg iter:Expr} {ifs:List Expr} {pos:Pos} {it D:Addr} {n:Nat} {J:It} {vals:Nat→V→Prop} {τ:St} {tn:Nat→Heap→Prop} {gt:TG} {tt:TT} {te:TE} {R:Result→Shared→Prop} {s₄:Shared} {Pv:Nat→List V→Hp→Prop} {C:Addr} (hc:X.calm=true)
  (hg:PG (zy X scope cl bs caps C s H fp pins) tg gt) (ht':PC (zy X scope cl bs caps C s H fp pins) ifs tt)
  (he:PE (zy X scope cl bs caps C s H fp pins) elt te) {σ0:St} (hσ0:σ0.length=bs.length) (I:Inv (zy X scope cl bs caps C s H fp pins) [] (σ0 ++ τ) H s₄) (T:rX X.prog X.w X.K tg J fp it tn) (t0:tn 0 s₄.heap)
  (hfp:∀ b ∈ fp,wQ (zy X scope cl bs caps C s H fp pins) [] H b) (hn:n < sizeLine)
  (h0:Pv 0 [] H) (hl:∀ i ys H2,i ≤ n→Pv i ys H2→H2 D=some (.lst ys)∧ys.length ≤ i)
  (hgo:∀ i ys H2,i < n→Pv i ys H2→J.go i H2∧∀ v H3,J.yld i H2 v H3→H3=H2∧vals i v) (hst:∀ ys H2,Pv n ys H2→J.stop n H2)
  (ht:∀ i v ys H2 (σ0:St),i < n→vals i v→Pv i ys H2→σ0.length=bs.length→gt v (σ0 ++ τ) H2 fun σ1 H3=>(∃ σ2:St,σ1=σ2 ++ τ∧σ2.length=bs.length)∧tt σ1 H3 fun b H4=>
   if b=true then te σ1 H4 fun y H5=>H5 D=some (.lst ys)∧Pv (i + 1) (ys ++ [y]) (upd H5 D (.lst (ys ++ [y]))) else Pv (i + 1) ys H4)
  (hR:∀ σ' H' ys s',Inv (zy X scope cl bs caps C s H fp pins) [] σ' H' s'→Pv n ys H'→R (.ok .next) s'):
  codeAny (model X.prog X.w) X.A (.compStart (.ListComp elt [⟨tg,iter,ifs,0⟩] scope pos) 0 (.ref it) (.ref D) (compEnvC scope cl C X.env)) R s₄:=by
 have loop:codeAny (model X.prog X.w) X.A (.compLoop (.ListComp elt [⟨tg,iter,ifs,0⟩] scope pos) 0 (.ref it) (.ref D) (compEnvC scope cl C X.env)) R s₄:=by
  refine wd (fun k s'=>∃ i ys,∃ σ1:St,∃ H',k=n + 1 - i∧i ≤ n∧σ1.length=bs.length∧Inv (zy X scope cl bs caps C s H fp pins) [] (σ1 ++ τ) H' s'∧tn i s'.heap∧(∀ b ∈ fp,wQ (zy X scope cl bs caps C s H fp pins) [] H' b)∧Pv i ys H') ?_ (n + 1) ⟨0,[],σ0,H,rfl,Nat.zero_le _,hσ0,I,t0,hfp,h0⟩
  rintro k s' ⟨i,ys,σ1,H',rfl,hi,hσ1,I',tn',hfp',hp⟩
  obtain ⟨q2,q3⟩:=hl i ys H' hi hp
  by_cases hlt:i < n
  ·obtain ⟨g,gy⟩:=hgo i ys H' hlt hp
   refine wpAny_mono (T.item (zy X scope cl bs caps C s H fp pins) rfl rfl rfl hc i [] s' (σ1 ++ τ) H' (notedBy (model X.prog X.w) X.A (compEnvC scope cl C X.env) fun e s'=>R (.error e) s') I' hfp' tn' g) (fun r s1 ⟨u,er,hq⟩=>?_) fun _ _ z=>z
   subst er
   refine wpAny_mono hq (fun _ s1' hq'=>?_) fun _ _ z=>z
   obtain ⟨v,H1,I1,rv,yv,tn1,fn1⟩:=hq'
   obtain ⟨eH,hv⟩:=gy v H1 yv
   subst eH
   have hpin:∀ b ∈ fp,∃ o,s1'.heap.get? b=some o∧∀ v,o.data ≠ .cell v:=T.obj (i + 1) s1'.heap tn1
   have IP:Inv (zy X scope cl bs caps C s H fp pins) (xi fp s1'.heap) (σ1 ++ τ) H1 s1':=by
    have:=I1.pinned hfp' hpin
    rw [List.nil_append] at this
    exact this
   refine wpAny_mono (hg (xi fp s1'.heap) s1' (σ1 ++ τ) H1 v u _ IP rv (ht i v ys H1 σ1 hlt hv hp hσ1)) (fun _ s2 h2=>?_) fun _ _ z=>z.elim
   obtain ⟨σ2',H2,I2,⟨σ2,e2,l2⟩,w2⟩:=h2
   subst e2
   refine wpAny_mono (ht' (xi fp s1'.heap) s2 (σ2 ++ τ) H2 _ (fun _ _=>False) (fun _ _ z=>z) I2 w2) (fun b s3 h3=>?_) fun _ _ z=>z.elim
   obtain ⟨H3,I3,w3⟩:=h3
   have pinned:∀ {s4:Shared} {H4:Hp} {σ4:St},Inv (zy X scope cl bs caps C s H fp pins) (xi fp s1'.heap) σ4 H4 s4→∀ b ∈ fp,∀ o,s1'.heap.get? b=some o→s4.heap.get? b=some o∧H4 b=none:=fun I4 b hb o e=>
    have z:=I4.pin (b,o) (List.mem_append_right _ (wH hb e))
    ⟨z.1,z.2.1⟩
   cases b with
   | false=>
    have w3:Pv (i + 1) ys H3:=w3
    show ∃ m,m < n + 1 - i∧_
    refine ⟨n + 1 - (i + 1),by omega,i + 1,ys,σ2,H3,rfl,hlt,l2,I3.pins_of (fun p z=>nomatch z),T.keep _ _ _ tn1 fun b hb o e=>(pinned I3 b hb o e).1,fun b hb=>⟨?_,(hfp' b hb).2⟩,w3⟩
    obtain ⟨o,e,_⟩:=hpin b hb
    exact (pinned I3 b hb o e).2
   | true=>
    show wpAny _ _ _ _ _ _
    refine wpAny_mono (he (xi fp s1'.heap) s3 (σ2 ++ τ) H3 _ I3 w3) (fun y s4 h4=>?_) fun _ _ z=>z.elim
    obtain ⟨y',H4,I4,ry,hD,hp4⟩:=h4
    refine wpAny_mono (sH (X:=zy X scope cl bs caps C s H fp pins) (xi fp s1'.heap) s4 (σ2 ++ τ) H4 (.ref D) [y'] (.ref D) [y] (fun _ H5=>H5=upd H4 D (.lst (ys ++ [y']))) I4 rfl (.cons ry .nil) ⟨D,ys,y',rfl,rfl,hD,by omega,rfl⟩) (fun _ s5 h5=>?_) fun _ _ z=>z.elim
    obtain ⟨_,H5,I5,_,e5⟩:=h5
    subst e5
    refine ⟨n + 1 - (i + 1),by omega,i + 1,ys ++ [y'],σ2,_,rfl,hlt,l2,I5.pins_of (fun p z=>nomatch z),T.keep _ _ _ tn1 fun b hb o e=>(pinned I5 b hb o e).1,fun b hb=>⟨?_,(hfp' b hb).2⟩,hp4⟩
    obtain ⟨o,e,_⟩:=hpin b hb
    exact (pinned I5 b hb o e).2
  ·have e:i=n:=by omega
   subst e
   refine wpAny_mono (T.done (zy X scope cl bs caps C s H fp pins) rfl rfl rfl hc i [] s' (σ1 ++ τ) H' (fun _ _=>False) I' hfp' tn' (hst ys H' hp)) (fun r s1 ⟨er,I1⟩=>?_) fun _ _ z=>z.elim
   subst er
   exact hR _ H' ys s1 I1 hp
 exact codeAny_compStart_list loop (T.self X.A 0 s₄ _ _ t0 loop)
theorem ou {elt tg iter:Expr} {ifs:List Expr} {pos:Pos} {gt:TG} {tt:TT} {te:TE} {Q:V→Hp→Prop} {s2:Shared} {it:Addr} {tn:Nat→Heap→Prop} {J:It} {H':Hp} {RR:Value→Addr→Result→Shared→Prop} {E:Value→Shared→Prop} (hc:X.calm=true) (S:uK X scope cl bs caps js)
  (hg:∀ C s H fp pins,PG (zy X scope cl bs caps C s H fp pins) tg gt) (ht':∀ C s H fp pins,PC (zy X scope cl bs caps C s H fp pins) ifs tt)
  (he:∀ C s H fp pins,PE (zy X scope cl bs caps C s H fp pins) elt te) (I2:Inv X pins σ H' s2) (T:rX X.prog X.w X.K tg J fp it tn) (t0:tn 0 s2.heap) (hfp:∀ b ∈ fp,wQ X pins H' b) (hr:pK gt tt te bs.length (uv σ js) Q J H')
  (hRR:∀ D C H3 s',Inv X pins σ H3 s'→(∃ m,s'.heap.Ns C m)→H3 C=none→C ≠ X.env.locals→X.s₀.heap.objs.size ≤ C→(∀ y c,X.env.cells.lookup y=some c→c ≠ C)→(∀ p ∈ X.pn ++ pins,p.1 ≠ C)→Q (.ref D) H3→
   RR (.ref D) C (.ok .next) s'):
  wpAny (model X.prog X.w) X.A (newList []) (fun acc s₃=>wpAny (model X.prog X.w) X.A (newFunctionEnv scope X.env.globals cl [] X.env.qual none .none (some X.env)) (fun cenv s₄=>
   codeAny (model X.prog X.w) X.A (.compStart (.ListComp elt [⟨tg,iter,ifs,0⟩] scope pos) 0 (.ref it) acc { cenv with scope:=relabel scope X.env }) (RR acc cenv.locals) s₄) E s₃) E s2:=by
 obtain ⟨n,vals,hn,hD⟩:=hr
 obtain ⟨Pv,h0,hl,hgo,hst,ht,hd⟩:=hD s2.heap.objs.size I2.fresh
 refine wpAny_newObj_type (wpAny_newFunctionEnv S.cell (by intro y hy; simp at hy) (fun h₁ hns₁ hsb₁=>?_) S.kind)
 dsimp only at hns₁ hsb₁ ⊢
 have I3:Inv X pins σ (upd H' s2.heap.objs.size (.lst [])) { s2 with heap:=s2.heap.push { cls:=.type "list",data:=.seq ([]:List Value).toArray } }:=I2.lnew (its:=[]) (t':=s2.toks) .nil (by show 0 ≤ sizeLine; omega)
 have hob:=T.obj 0 s2.heap t0
 have keep:∀ b o,(s2.heap.push { cls:=.type "list",data:=.seq ([]:List Value).toArray }).get? b=some o→h₁.get? b=some o:=fun b o e=>
  hsb₁.extBut b o (Nat.ne_of_lt (Heap.lt_size e)) (Heap.get?_push_of_some _ e)
 have fp3:∀ b ∈ fp,wQ X pins (upd H' s2.heap.objs.size (.lst [])) b:=fun b hb=>by
  obtain ⟨o,e,_⟩:=hob b hb
  exact ⟨(zr (Nat.ne_of_lt (Heap.lt_size e))).trans (hfp b hb).1,(hfp b hb).2⟩
 have IY:=nV (t:=s2.toks + ([]:List (Str × Value)).length) I3 S fp3 (fun b hb=>by
  obtain ⟨o,e,_⟩:=hob b hb
  exact ⟨o,Heap.get?_push_of_some _ e⟩) hns₁ keep
 refine qV (D:=s2.heap.objs.size) (n:=n) (vals:=vals) (Pv:=Pv) hc (hg _ _ _ _ _) (ht' _ _ _ _ _) (he _ _ _ _ _) (List.length_map _) IY T (T.keep _ _ _ t0 fun b hb o e=>keep b o (Heap.get?_push_of_some _ e)) (fun b hb=>?_) hn h0 hl hgo hst ht (fun σ' H3 ys s' I' hp=>?_)
 ·obtain ⟨f1,f2,f3,f4,f5,f6⟩:=fp3 b hb
  obtain ⟨o,e,_⟩:=hob b hb
  refine ⟨f1,Nat.ne_of_lt (Heap.lt_size (Heap.get?_push_of_some _ e)),fun z=>?_,.inl hb,fun y c h=>f5 y c (S.sub y c h),fun p hp=>?_⟩
  ·rcases List.mem_cons.mp (I3.stkSub b z) with q | q
   ·exact f2 q
   ·exact f3 q
  ·rcases List.mem_append.mp hp with q | q
   ·exact f6 p q
   ·cases q
 ·obtain ⟨m,hn,_⟩:=I'.loc
  refine hRR _ _ H3 s' (nW I3 fp3 I') ⟨m,hn⟩ I'.free (Nat.ne_of_gt I3.lt) I3.sz (fun y c h z=>?_) (fun p hp z=>?_) (hd ys H3 hp)
  ·obtain ⟨v,q⟩:=I3.cell y c h
   exact absurd q.lt (by rw [z]; exact Nat.lt_irrefl _)
  ·exact absurd (Heap.lt_size (I3.pin p hp).1) (by rw [z]; exact Nat.lt_irrefl _)
theorem mX {elt tg iter:Expr} {ifs:List Expr} {pos:Pos} {wi:TI} {gt:TG} {tt:TT} {te:TE} (hc:X.calm=true) (S:uK X scope cl bs caps js) (hl:PI X tg iter wi) (hg:∀ C s H fp pins,PG (zy X scope cl bs caps C s H fp pins) tg gt)
  (ht':∀ C s H fp pins,PC (zy X scope cl bs caps C s H fp pins) ifs tt) (he:∀ C s H fp pins,PE (zy X scope cl bs caps C s H fp pins) elt te)
  (hs:∀ y,foldedSetIterable iter X.env y=pure y:=by intro _; rfl):PE X (.ListComp elt [⟨tg,iter,ifs,0⟩] scope pos) (mw wi gt tt te bs.length js):=by
 intro pins s σ H Q I h
 rw [eval_ListComp]
 refine wpAny_comprehension_free (use:=none) rfl hs S.clos S.kind S.names (thn (hl pins s σ H (pK gt tt te bs.length (uv σ js) Q) I h) fun v s1 h1=>thn h1 fun itv s2 h2=>?_)
 obtain ⟨it,fp,tn,J,H',rfl,I2,T,t0,hfp,hr⟩:=h2
 refine ou (RR:=fun acc C=>compPost (model X.prog X.w) X.A X.xe none (EP X pins σ Q) acc C) hc S hg ht' he I2 T t0 hfp hr ?_
 intro D C H3 s' I' ⟨m,hn⟩ hC h1 h2 h3 h4 q
 exact ⟨m,hn,fun h' hs'=>⟨.ref D,H3,I'.turned (it:=C) (fun b o hb e=>hs'.extBut b o hb e) hC h1 (.inr h2) h3 h4,rfl,q⟩⟩
end
end OD
namespace OD
variable {Z:Hp}
open PySem PySem.Spec PyProof.Rows L2
def rQ (osc scope:Scope) (bs caps:List Str) (js:List Nat) (N:List Str):Bool:=
 scope.names.all (fun y=>y.2 != .cell && (y.2 != .local || scope.names.lookup y.1 == some .local) && (y.2 != .free || (osc.names.lookup y.1 == some .cell && !bs.contains y.1))) && (scope.kind == .function) && (osc.kind == .function) && bs.all (fun x=>scope.names.lookup x == some .local) &&
 decide (bs ++ caps).Nodup && (js.map (fun j=>N[j]?) == caps.map some) && caps.all (fun y=>scope.names.lookup y == some .free && osc.names.lookup y == some .cell)
theorem jN {X:Cx} {osc scope:Scope} {bs:List Str} {caps:List Str} {js:List Nat} {L:Addr} (h:rQ osc scope bs caps js X.N=true) (he:X.env.scope=osc) (hc:X.env.cells=cellsFrom (L + 1) osc.names []):uK X scope (wL X.env.cells scope.names) bs caps js:=by
 unfold rQ at h
 simp only [Bool.and_eq_true] at h
 obtain ⟨⟨⟨⟨⟨⟨h1,h2⟩,h3⟩,h4⟩,h5⟩,h6⟩,h7⟩:=h
 rw [List.all_eq_true] at h1 h4 h7
 have hfree:∀ y,(y,NameKind.free) ∈ scope.names→osc.names.lookup y=some .cell∧bs.contains y=false:=fun y hy=>by
  have q:=h1 _ hy
  rw [Bool.and_eq_true,Bool.and_eq_true] at q
  have q:(osc.names.lookup y == some .cell && !bs.contains y)=true:=q.2
  rw [Bool.and_eq_true] at q
  exact ⟨eq_of_beq q.1,by cases z:bs.contains y with | false=>rfl | true=>rw [z] at q; cases q.2⟩
 have hcell:∀ y,osc.names.lookup y=some .cell→∃ c,X.env.cells.lookup y=some c:=fun y hy=>by rw [hc]; exact tI hy
 have hfc:∀ y,(y,NameKind.free) ∈ scope.names→∃ c,X.env.cells.lookup y=some c:=fun y hy=>hcell y (hfree y hy).1
 have hk:X.env.scope.kind=.function:=by rw [he]; exact eq_of_beq h3
 have hj:js.map (fun j=>X.N[j]?)=caps.map some:=eq_of_beq h6
 refine ⟨jO hfc,fun y c q=>(mem_clOf.mp (PySem.mem_of_lookup q)).2,fun y q=>?_,fun x hx=>?_,fun y hy e=>?_,eq_of_beq h2,fun y hy e=>?_,fun x hx=>eq_of_beq (h4 x hx),of_decide_eq_true h5,?_,fun k y q=>?_,fun y hy=>?_⟩
 ·have:(y,NameKind.free) ∈ scope.names:=by
   have mem:∃ k,(y,k) ∈ (relabel scope X.env).names∧(k=.cell∨k=.free):=by
    rcases q with q | q
    ·exact ⟨_,PySem.mem_of_lookup q,.inl rfl⟩
    ·exact ⟨_,PySem.mem_of_lookup q,.inr rfl⟩
   obtain ⟨k,hm,hk'⟩:=mem
   obtain ⟨⟨n,k0⟩,hn,e⟩:=List.mem_map.mp hm
   have ncell:k0 ≠ .cell:=fun z=>by
    have q:=h1 _ hn
    rw [Bool.and_eq_true,Bool.and_eq_true] at q
    exact absurd z (bne_iff_ne.mp q.1.1)
   dsimp only at e
   split at e
   ·rename_i hz
    rw [Bool.and_eq_true,Bool.and_eq_true] at hz
    obtain rfl:=eq_of_beq hz.1.1
    cases e
    exact hn
   ·cases e
    rcases hk' with z | z
    ·exact absurd z ncell
    ·rw [z] at hn; exact hn
  obtain ⟨c,hc'⟩:=hfc y this
  exact u8 (mem_clOf.mpr ⟨this,hc'⟩)
 ·cases q:(wL X.env.cells scope.names).lookup x with
  | none=>rfl
  | some c=>
   have z:=(hfree x (mem_clOf.mp (PySem.mem_of_lookup q)).1).2
   rw [List.contains_iff_mem.mpr hx] at z
   cases z
 ·have q:=h1 y hy
  rw [Bool.and_eq_true,Bool.and_eq_true] at q
  exact absurd e (bne_iff_ne.mp q.1.1)
 ·have q:=h1 y hy
  rw [Bool.and_eq_true,Bool.and_eq_true,e] at q
  exact eq_of_beq (show (scope.names.lookup y.1 == some .local)=true from q.1.2)
 ·have:=congrArg List.length hj
  rwa [List.length_map,List.length_map] at this
 ·have e:(js.map fun j=>X.N[j]?)[k]? = (caps.map some)[k]?:=by rw [hj]
  rw [List.getElem?_map,List.getElem?_map,q] at e
  obtain ⟨j,hj1,hj2⟩:=Option.map_eq_some_iff.mp e
  exact ⟨j,hj1,hj2⟩
 ·have q:=h7 y hy
  rw [Bool.and_eq_true] at q
  have q2:X.env.scope.names.lookup y=some .cell:=by rw [he]; exact eq_of_beq q.2
  exact ⟨yJ hk (eq_of_beq q.1) q2,q2⟩
theorem oF {K:PySem.W.Frag} {F:Hp} {W W2:Vw} {ρ:DS} {σ:St} {js:List Nat} {ds:List Dt} {vs:List V} (r:Rl K Z F W ρ σ) (s2:Same W.g W2.g) (i:AllIs K W2.g ds vs):Rl K (fun _=>none) W2.h W2 (ds.map Sl.some ++ tK ρ js) (vs.map some ++ uv σ js):=by
 have no:∀ (j:Nat) (es:List Dt),(ds.map Sl.some ++ tK ρ js)[j]? = some (.own es)→False:=fun j es q=>by
  have q:=List.mem_of_getElem? q
  rcases List.mem_append.mp q with q | q
  ·obtain ⟨_,_,e⟩:=List.mem_map.mp q
   cases e
  ·unfold tK at q
   obtain ⟨j,_,e⟩:=List.mem_map.mp q
   split at e <;> cases e
 have noA:∀ (j:Nat) (a:Addr) (es:List Dt),(ds.map Sl.some ++ tK ρ js)[j]? = some (.arg a es)→False:=fun j a es q=>by
  have q:=List.mem_of_getElem? q
  rcases List.mem_append.mp q with q | q
  ·obtain ⟨_,_,e⟩:=List.mem_map.mp q
   cases e
  ·unfold tK at q
   obtain ⟨j,_,e⟩:=List.mem_map.mp q
   split at e <;> cases e
 refine ⟨by unfold tK uv; rw [List.length_append,List.length_append,List.length_map,List.length_map,List.length_map,List.length_map,i.length],fun j e q=>?_,fun j ds q=>(no j ds q).elim,fun j j' ds ds' _ q _=>(no j ds q).elim,Same.refl _,(fun _ _ q=>nomatch q),fun j a ds q=>(noA j a ds q).elim⟩
 by_cases hj:j < ds.length
 ·rw [List.getElem?_append_left (by rw [List.length_map]; exact hj),List.getElem?_map] at q
  obtain ⟨d,hd,e1⟩:=Option.map_eq_some_iff.mp q
  cases e1
  obtain ⟨v,hv,iv⟩:=i.get hd
  exact ⟨v,by rw [List.getElem?_append_left (by rw [List.length_map,← i.length]; exact hj),List.getElem?_map,hv]; rfl,iv⟩
 ·have hj:ds.length ≤ j:=Nat.le_of_not_lt hj
  rw [List.getElem?_append_right (by rw [List.length_map]; exact hj),List.length_map] at q
  rw [List.getElem?_append_right (by rw [List.length_map,← i.length]; exact hj),List.length_map,← i.length]
  unfold tK at q
  rw [List.getElem?_map] at q
  obtain ⟨k,hk,e2⟩:=Option.map_eq_some_iff.mp q
  split at e2
  ·rename_i d' hd
   cases e2
   obtain ⟨u,hu,iu⟩:=r.at_ k e hd
   refine ⟨u,?_,Is.mono0 s2 iu⟩
   unfold uv
   rw [List.getElem?_map,hk]
   show some ((σ[k]?).getD none)=_
   rw [hu]
   rfl
  ·cases e2
abbrev DTI:=DS→(Nat→(Nat→Dt→Prop)→Prop)→Prop
def LiI (K:PySem.W.Frag) (Z:Hp) (wi:TI) (di:DTI):Prop:=∀ {F:Hp} (ρ:DS) (σ:St) (W:Vw) (Q:Nat→(Nat→Dt→Prop)→Prop),Rl K Z F W ρ σ→di ρ Q→∀ R:It→Hp→Prop,
 (∀ (J:It) (n:Nat) (vals:Nat→Dt→Prop) (W1:Vw),Le W W1→n ≤ 100000→(∀ W2:Vw,Same W1.g W2.g→(∀ i,i < n→J.go i W2.h∧∀ v H3,J.yld i W2.h v H3→H3=W2.h∧∃ e,vals i e∧Is K W1.g e v)∧J.stop n W2.h)→Q n vals→R J W1.h)→wi σ W.h R
def DI (X:Cx) (tg iter:Expr) (di:DTI):Prop:=∃ wi,PI X tg iter wi∧LiI X.K (Zx X) wi di
def LiG (K:PySem.W.Frag) (k:Nat) (gt:TG) (dg:Dt→List Dt→Prop):Prop:=∀ (e:Dt) (v:V) (σ0 τ:St) (W:Vw) (as:List Dt),σ0.length=k→Is K W.g e v→dg e as→∀ Q:St→Hp→Prop,
 (∀ vs,AllIs K W.g as vs→vs.length=k→Q (vs.map some ++ τ) W.h)→gt v (σ0 ++ τ) W.h Q
def eX:Dt→List Dt→Prop:=fun e as=>∃ a b,e=.tup [a,b]∧as=[a,b]
theorem jn {K:PySem.W.Frag}:LiG K 2 (eO K 2 (lD (oQ 0) (lD (oQ 1) eP))) eX:=by
 rintro e v σ0 τ W as hl i ⟨a,b,rfl,rfl⟩ Q q
 obtain ⟨T,us,rfl,hT,hu⟩:=is_tup.mp i
 obtain ⟨v1,v2,rfl,k1,k2⟩:=hu.two
 match σ0,hl with
 | [x,y],_=>exact ⟨T,_,rfl,.of (W.sub _ _ hT),rfl,v1,[v2],rfl,v2,[],rfl,rfl,q [v1,v2] hu rfl⟩
def DC (X:Cx) (ifs:List Expr) (t:DTT):Prop:=∃ tt,PC X ifs tt∧LiT X.K (Zx X) tt t
theorem gO {X:Cx} {c:Expr} {t:DTT} (h:DT X c t):DC X [c] t:=let ⟨_,p,l⟩:=h; ⟨_,gd p,l⟩
def ig (K:PySem.W.Frag) (t:DTT):TT:=fun σ H R=>∃ (F:Hp) (ρ:DS) (W:Vw) (Q:Bool→Prop),W.h=H∧Rl K (fun _=>none) F W ρ σ∧t ρ Q∧∀ d W',Le W W'→Q d→R d W'.h
theorem DC.up {X:Cx} {ifs:List Expr} {t:DTT} (h:DC X ifs t) (hz:X.stack.length=X.outer.length:=by rfl):PC X ifs (ig X.K t):=by
 obtain ⟨te,p,l⟩:=h
 intro pins s σ H R E hE I q
 obtain ⟨F,ρ,W,Q,rfl,r,h,k⟩:=q
 have r':Rl X.K (Zx X) F W ρ σ:=by unfold Zx; rw [if_pos (Or.inl hz)]; exact r
 exact p pins s σ W.h R E hE I (l ρ σ W Q r' h R k)
theorem lq {K:PySem.W.Frag} {t:DTT}:LiT K (fun _=>none) (ig K t) t:=fun ρ σ H Q r h R k=>⟨_,ρ,H,Q,rfl,r,h,k⟩
def oq (js:List Nat) (di:DTI) (dg:Dt→List Dt→Prop) (tt:DTT) (te:DTE):DTE:=fun ρ Q=>di ρ fun n vals=>∃ Pv:Nat→List Dt→Prop,Pv 0 []∧
 (∀ (i:Nat) e es,i < n→vals i e→Pv i es→∃ as,dg e as∧tt (as.map Sl.some ++ tK ρ js) fun b=>if b=true then te (as.map Sl.some ++ tK ρ js) fun y=>Pv (i + 1) (es ++ [y]) else Pv (i + 1) es)∧∀ es,Pv n es→Q (.lst es)
theorem ls {K:PySem.W.Frag} {wi:TI} {gt:TG} {tt:TT} {te:TE} {di:DTI} {dg:Dt→List Dt→Prop} {dt:DTT} {u:DTE} {k:Nat} {js:List Nat} (h1:LiI K Z wi di) (hg:LiG K k gt dg) (ht':LiT K (fun _=>none) tt dt) (h2:LiE K (fun _=>none) te u):LiF K Z (mw wi gt tt te k js) (oq js di dg dt u):=by
 intro F ρ σ H Q r h R kk
 refine h1 ρ σ H _ r h _ fun J n vals W1 s1 hn hJ ⟨Pv,h0,ht,hd⟩=>?_
 have r1:=r.mono s1
 refine ⟨n,fun i v=>∃ e,vals i e∧Is K W1.g e v,Nat.lt_of_le_of_lt hn (by decide),fun D hD=>?_⟩
 have gD:W1.g D=none:=W1.sub.free hD
 have stp:∀ {W2 W3:Vw} {ys:List V} {es:List Dt},Same W1.g W2.g∧Same W1.h (fun b=>if b=D then none else W2.h b)∧(∀ b,W1.h b ≠ none→W1.g b=none→W2.g b=none)∧W2.h D=some (.lst ys)∧W2.g D=none∧AllIs K W2.g es ys→Le W2 W3→
   Same W1.g W3.g∧Same W1.h (fun b=>if b=D then none else W3.h b)∧(∀ b,W1.h b ≠ none→W1.g b=none→W3.g b=none)∧W3.h D=some (.lst ys)∧W3.g D=none∧AllIs K W3.g es ys:=by
  rintro W2 W3 ys es ⟨s2,sh,sn,q1,q2,q3⟩ s3
  refine ⟨s2.trans s3.g,fun b o q=>?_,fun b z1 z2=>?_,s3.h _ _ q1,s3.n D (by rw [q1]; intro z; cases z) q2,q3.mono s3⟩
  ·have q':(if b=D then none else W2.h b)=some o:=sh b o q
   have hb:b ≠ D:=fun e=>by rw [e,hD] at q; cases q
   rw [if_neg hb] at q'
   show (if b=D then none else W3.h b)=some o
   rw [if_neg hb]
   exact s3.h _ _ q'
  ·have hb:b ≠ D:=fun e=>z1 (e ▸ hD)
   have z3:=sn b z1 z2
   refine s3.n b ?_ z3
   cases q:W1.h b with
   | none=>exact absurd q z1
   | some o=>
    have q':(if b=D then none else W2.h b)=some o:=sh b o q
    rw [if_neg hb] at q'
    rw [q']
    intro z; cases z
 refine ⟨fun i ys H2=>∃ (W2:Vw) (es:List Dt),W2.h=H2∧(Same W1.g W2.g∧Same W1.h (fun b=>if b=D then none else W2.h b)∧(∀ b,W1.h b ≠ none→W1.g b=none→W2.g b=none)∧W2.h D=some (.lst ys)∧W2.g D=none∧AllIs K W2.g es ys)∧ys.length ≤ i∧Pv i es,?_,?_,?_,?_,?_,?_⟩
 ·refine ⟨W1.mine D (.lst []) gD,[],rfl,⟨Same.refl _,fun b o q=>?_,fun b _ q=>q,zu,gD,allIs_nil.mpr rfl⟩,Nat.le_refl _,h0⟩
  have hb:b ≠ D:=fun e=>by rw [e,hD] at q; cases q
  show (if b=D then none else upd W1.h D (.lst []) b)=some o
  rw [if_neg hb,zr hb]
  exact q
 ·rintro i ys _ _ ⟨W2,es,rfl,⟨s2,_,_,q1,q2,_⟩,q4,_⟩
  exact ⟨q1,q4⟩
 ·rintro i ys _ hi ⟨W2,es,rfl,⟨s2,_⟩,_⟩
  exact (hJ W2 s2).1 i hi
 ·rintro ys _ ⟨W2,es,rfl,⟨s2,_⟩,_⟩
  exact (hJ W2 s2).2
 ·rintro i v ys _ σ0 hi ⟨e,he,ie⟩ ⟨W2,es,rfl,hW2,q4,q5⟩ hσ0
  obtain ⟨as,da,w⟩:=ht i e es hi he q5
  refine hg e v σ0 _ W2 as hσ0 (Is.mono0 hW2.1 ie) da _ fun vs ivs lvs=>⟨⟨vs.map some,rfl,by rw [List.length_map]; exact lvs⟩,?_⟩
  refine ht' (F:=W2.h) (as.map Sl.some ++ tK ρ js) (vs.map some ++ uv σ js) W2 _ (oF r1 hW2.1 ivs) w _ fun b W3 s3 w3=>?_
  have hW3:=stp hW2 s3
  cases b with
  | false=>exact ⟨W3,es,rfl,hW3,Nat.le_succ_of_le q4,w3⟩
  | true=>
   show te _ _ _
   refine h2 (F:=W3.h) (as.map Sl.some ++ tK ρ js) (vs.map some ++ uv σ js) W3 _ (oF r1 hW3.1 (ivs.mono s3)) w3 _ fun y w W4 s4 i4 q6=>?_
   obtain ⟨a1,a2,a3,a4,a5,a6⟩:=stp hW3 s4
   refine ⟨a4,W4.mine D (.lst (ys ++ [w])) a5,es ++ [y],rfl,⟨a1,fun b o q=>?_,a3,zu,a5,a6.append (allIs_cons.mpr ⟨w,[],rfl,i4,allIs_nil.mpr rfl⟩)⟩,by rw [List.length_append]; exact Nat.succ_le_succ q4,q6⟩
   have q':(if b=D then none else W4.h b)=some o:=a2 b o q
   have hb:b ≠ D:=fun e=>by rw [e,hD] at q; cases q
   rw [if_neg hb] at q'
   show (if b=D then none else upd W4.h D (.lst (ys ++ [w])) b)=some o
   rw [if_neg hb,zr hb]
   exact q'
 ·rintro ys _ ⟨W2,es,rfl,⟨s2,sh,sn,q1,q2,q3⟩,_,q5⟩
  refine kk es D ys W2 (s1.trans ⟨s2,fun b o q=>?_,sn⟩) (s1.h.free hD) q1 q2 q3 (hd es q5)
  have q':(if b=D then none else W2.h b)=some o:=sh b o q
  have hb:b ≠ D:=fun e=>by rw [e,hD] at q; cases q
  rwa [if_neg hb] at q'
def df (ta:DTE):DTI:=fun ρ Q=>ta ρ fun d=>∃ ds,xk d=some ds∧ds.length ≤ 100000∧Q ds.length fun i e=>ds[i]? = some e
section
variable {X:Cx} {fr:Fr} {osc scope:Scope} {bs caps:List Str} {js:List Nat} {N0:List Str} {L:Addr} {tg iter elt a:Expr} {ifs:List Expr} {ta te:DTE} {di:DTI} {tt:DTT} {dg:Dt→List Dt→Prop} {gt:TG} {px p0 pos pos1:Pos}
theorem jF (h:DE X iter ta):DI X tg iter (df ta):=by
 obtain ⟨te,p,l⟩:=h
 refine ⟨_,oH p,fun ρ σ W Q r h R k=>l ρ σ W _ r h _ fun d v W1 s1 i1 ⟨ds,el,hl,q⟩=>?_⟩
 obtain ⟨a,xs,rfl,hq,ha⟩:=u_ i1 el
 refine ⟨a,rfl,⟨xs,hq W1 (Same.refl _)⟩,k _ _ _ W1 s1 hl (fun W2 s2=>⟨fun i hi=>?_,?_⟩) q⟩
 ·rw [ha.length] at hi
  have hv:=List.getElem?_eq_getElem hi
  refine ⟨⟨xs,_,hq W2 s2,hv⟩,fun v' H3 ⟨e1,e2⟩=>⟨e1,?_⟩⟩
  obtain ⟨e,he,ie⟩:=ha.get' (e2 xs (hq W2 s2))
  exact ⟨e,he,ie⟩
 ·exact ⟨xs,hq W2 s2,by rw [ha.length]; exact Nat.le_refl _⟩
theorem lT (hc:X.calm=true) (S:rQ osc scope bs caps js N0=true) (hN0:X.N=N0) (he':X.env.scope=osc) (hcs:X.env.cells=cellsFrom (L + 1) osc.names []) (hl:DI X tg iter di)
  (hg:∀ C s H fp pins,PG (zy X scope (wL X.env.cells scope.names) bs caps C s H fp pins) tg gt) (lg:LiG X.K bs.length gt dg)
  (ht:∀ C s H fp pins,DC (zy X scope (wL X.env.cells scope.names) bs caps C s H fp pins) ifs tt)
  (he:∀ C s H fp pins,DE (zy X scope (wL X.env.cells scope.names) bs caps C s H fp pins) elt te) (hs:∀ y,foldedSetIterable iter X.env y=pure y:=by intro _; rfl):
  DF X (.ListComp elt [⟨tg,iter,ifs,0⟩] scope pos) (oq js di dg tt te):=by
 obtain ⟨wi,p,l⟩:=hl
 exact ⟨_,mX hc (jN (hN0 ▸ S) he' hcs) p hg (fun C s H fp pins=>(ht C s H fp pins).up) (fun C s H fp pins=>(he C s H fp pins).up) hs,ls l lg lq jo⟩
end
end OD
namespace OD
variable {Z:Hp}
open PySem PySem.Spec PyProof.Rows L2
section
variable {K:PySem.W.Frag} {F:Hp} {W W' W0:Vw}
theorem NewL.mono {d:Dt} {v:V} (h:NewL K F W d v) (s:Le W W'):NewL K F W' d v:=by
 obtain ⟨es,p,xs,h1,h2,h3,h4,h5,h6⟩:=h
 exact ⟨es,p,xs,h1,h2,h3,s.h _ _ h4,s.n p (by rw [h4]; intro z; cases z) h5,h6.mono s⟩
theorem Prt.mono {b:Bool} {d:Dt} {v:V} (h:Prt K F W b d v) (s:Le W W'):Prt K F W' b d v:=by
 cases b with
 | false=>exact Is.mono h s
 | true=>
  rcases h with h | ⟨h1,h2⟩
  ·exact .inl (h.mono s)
  ·exact .inr ⟨h1,Is.mono h2 s⟩
theorem Prt.frz {b:Bool} {d:Dt} {u:V} (le:Le W0 W) (h:Prt K W0.h W b d u):∃ W1:Vw,W1.h=W.h∧Same W.g W1.g∧Le W0 W1∧Is K W1.g d u∧
  ∀ b2 d2 u2,Prt K W0.h W b2 d2 u2→(∀ es fs,b=true→b2=true→d=.lst es→d2=.lst fs→u ≠ u2)→Prt K W0.h W1 b2 d2 u2:=by
 cases b with
 | false=>exact ⟨W,rfl,Same.refl _,le,h,fun _ _ _ k _=>k⟩
 | true=>
  rcases h with ⟨es,p,xs,rfl,rfl,h3,h4,h5,h6⟩ | ⟨_,h2⟩
  ·refine ⟨W.frz p _ h4,rfl,zF h5 _,vK le h3 h4 h5,is_lst.mpr ⟨p,xs,rfl,zu,AllIs.mono0 (zF h5 _) h6⟩,fun b2 d2 u2 k ne=>?_⟩
   cases b2 with
   | false=>exact Is.mono0 (zF h5 _) k
   | true=>
    rcases k with ⟨fs,q,ys,rfl,rfl,k3,k4,k5,k6⟩ | ⟨k1,k2⟩
    ·have hq:q ≠ p:=fun z=>ne es fs rfl rfl rfl rfl (by rw [z])
     exact .inl ⟨fs,q,ys,rfl,rfl,k3,k4,(zr hq).trans k5,AllIs.mono0 (zF h5 _) k6⟩
    ·exact .inr ⟨k1,Is.mono0 (zF h5 _) k2⟩
  ·exact ⟨W,rfl,Same.refl _,le,h2,fun _ _ _ k _=>k⟩
theorem Tld.frz {fr:Fr} {d:Dt} {v:V} (le:Le W0 W) (h:Tld K W0.h W fr d v):∃ W1:Vw,W1.h=W.h∧Le W0 W1∧Is K W1.g d v:=by
 match fr,h with
 | .d,h=>exact ⟨W,rfl,le,h⟩
 | .l,⟨es,p,xs,e1,e2,h3,h4,h5,h6⟩=>
  subst e1; subst e2
  exact ⟨W.frz p _ h4,rfl,vK le h3 h4 h5,is_lst.mpr ⟨p,xs,rfl,zu,AllIs.mono0 (zF h5 _) h6⟩⟩
 | .t a b,⟨d1,d2,q,u1,u2,e1,e2,hq,p1,p2,ne⟩=>
  subst e1; subst e2
  obtain ⟨W1,e1,s1,le1,i1,k1⟩:=p1.frz le
  obtain ⟨W2,e2,s2,le2,i2,_⟩:=(k1 b d2 u2 p2 ne).frz le1
  exact ⟨W2,e2.trans e1,le2,is_tup.mpr ⟨q,_,rfl,s2 _ _ (s1 _ _ hq),allIs_cons.mpr ⟨u1,_,rfl,Is.mono0 s2 i1,allIs_cons.mpr ⟨u2,_,rfl,i2,allIs_nil.mpr rfl⟩⟩⟩⟩
end
def o9 (K:PySem.W.Frag) (fr:Fr) (S:DSp):Sp:=fun vs H Q _=>∃ (W:Vw) (ds:List Dt) (Qd:Dt→Prop),W.h=H∧AllIs K W.g ds vs∧S ds Qd∧∀ d v W',Le W W'→Tld K W.h W' fr d v→Qd d→Q v W'.h
def kq (K:PySem.W.Frag) (fr:Fr) (S:y7):Sp:=fun vs H Q E=>∃ (W:Vw) (ds:List Dt) (Qd:Dt→Prop) (Ed:Addr→Prop),W.h=H∧AllIs K W.g ds vs∧S ds Qd Ed∧
 (∀ d v W',Le W W'→Tld K W.h W' fr d v→Qd d→Q v W'.h)∧∀ C H',Same W.h H'→Ed C→E (.ref C) none H'
structure TOk (P:Program) (w:World) (K:PySem.W.Frag) (mg:Str→Option Value) (base:Heap) (n:Nat) (x:Str) (fr:Fr) (S:DSp):Prop where
 ex:∃ f fd ps,mg x=some (.ref f)∧PySem.W.keepIn K (.ref f)=true∧Binds K fd ps []∧FnOk P w K mg base CX0 n f fd ps (o9 K fr S)
structure TOkX (P:Program) (w:World) (K:PySem.W.Frag) (mg:Str→Option Value) (base:Heap) (n:Nat) (x:Str) (fr:Fr) (S:y7):Prop where
 ex:∃ f fd ps,mg x=some (.ref f)∧PySem.W.keepIn K (.ref f)=true∧Binds K fd ps []∧FnOk P w K mg base (CX1 P w) n f fd ps (kq K fr S)
section
variable {P:Program} {w:World} {K:PySem.W.Frag} {mg:Str→Option Value} {base:Heap} {fr:Fr}
theorem okT {x qual:Str} {st:Stmt} {f:Addr} {fd:FuncData} {N ps:List Str} {k:Nat} {S:DSp} (F:Fun K x qual st f fd) (sc:zf N ps (defScope st)) (len:∀ ds Q,S ds Q→ds.length=ps.length)
  (hbody:∀ (cdv:Value) (A:Around) (outer:List Env) (s:Shared) (H:Hp) (E:XK),Room k (A.deeper (envOfC qual (defScope st) s.heap.objs.size f cdv))→∀ (ds:List Dt) (Q:Dt→Prop),S ds Q→
   ∃ t,DSs (yu CX0 P w K mg base N qual (defScope st) f cdv A outer s H E).nox fr (defBody st) t∧t { nx:=fun _=>False,rt:=Q } (yi N.length ds)):FnOk P w K mg base CX0 (k + 1) f fd ps (o9 K fr S):=by
 refine F.ok sc (fun vs H Q E h=>?_) (fun cdv A outer s H vs Q E hr h=>?_)
 ·obtain ⟨W,ds,Qd,_,ia,hS,_⟩:=h
  rw [← ia.length]
  exact len ds Qd hS
 obtain ⟨W,ds,Qd,rfl,ia,hS,kk⟩:=h
 obtain ⟨t,⟨ts,p,l⟩,ht⟩:=hbody cdv A outer s W.h E hr ds Qd hS
 exact ⟨ts,p,l W W.g (yi N.length ds) (start N vs) W { nx:=fun _=>False,rt:=Qd } _ (wj ia (uL (Nat.succ_ne_self _))) ⟨fun ρ σ W' a q=>q.elim,kk,fun _ _ _ _ q=>q.elim,fun _ _ _ _ q=>q.elim⟩ ht⟩
theorem TOk.mk' {x qual:Str} {st:Stmt} {f:Addr} {fd:FuncData} {ps:List Str} {n:Nat} {S:DSp} (F:Fun K x qual st f fd) (hm:mg x=some (.ref f)) (hb:Binds K fd ps []) (h:FnOk P w K mg base CX0 n f fd ps (o9 K fr S)):TOk P w K mg base n x fr S:=
 ⟨f,fd,ps,hm,F.kp,hb,h⟩
theorem TOkX.mk' {x qual:Str} {st:Stmt} {f:Addr} {fd:FuncData} {ps:List Str} {n:Nat} {S:y7} (F:Fun K x qual st f fd) (hm:mg x=some (.ref f)) (hb:Binds K fd ps []) (h:FnOk P w K mg base (CX1 P w) n f fd ps (kq K fr S)):TOkX P w K mg base n x fr S:=
 ⟨f,fd,ps,hm,F.kp,hb,h⟩
end
def LiR (K:PySem.W.Frag) (Z:Hp) (fr:Fr) (te:TE) (t:DTE):Prop:=
 ∀ {F:Hp} (ρ:DS) (σ:St) (H:Vw) (Q:Dt→Prop),Rl K Z F H ρ σ→t ρ Q→∀ R:VK,(∀ d v H',Le H H'→Tld K H.h H' fr d v→Q d→R v H'.h)→te σ H.h R
def DR (X:Cx) (fr:Fr) (e:Expr) (t:DTE):Prop:=∃ te,PE X e te∧LiR X.K (Zx X) fr te t
def LiP (K:PySem.W.Frag) (Z:Hp) (b:Bool) (te:TE) (t:DTE):Prop:=
 ∀ {F:Hp} (ρ:DS) (σ:St) (H:Vw) (Q:Dt→Prop),Rl K Z F H ρ σ→t ρ Q→∀ R:VK,(∀ d v H',Le H H'→Prt K F H' b d v→Q d→R v H'.h)→te σ H.h R
def DP (X:Cx) (b:Bool) (e:Expr) (t:DTE):Prop:=∃ te,PE X e te∧LiP X.K (Zx X) b te t
theorem iS {K:PySem.W.Frag} {F G:Hp} {W:Vw} {fr:Fr} {d:Dt} {v:V} (z:∀ p,F p=none→G p=none) (h:Tld K F W fr d v):Tld K G W fr d v:=by
 have pp:∀ {b:Bool} {d:Dt} {v:V},Prt K F W b d v→Prt K G W b d v:=fun {b d v} h=>by
  cases b with
  | false=>exact h
  | true=>exact h.imp (fun h=>h.le z) id
 match fr,h with
 | .d,h=>exact h
 | .l,h=>exact NewL.le h z
 | .t a b,⟨d1,d2,q,u1,u2,e1,e2,hq,p1,p2,ne⟩=>exact ⟨d1,d2,q,u1,u2,e1,e2,hq,pp p1,pp p2,ne⟩
section
variable {X:Cx} {fr:Fr} {a b:Bool} {e e1 e2:Expr} {es:List Expr} {t t1 t2:DTE} {ta:DTA} {n:Nat} {x y:Str} {S:DSp} {SX:y7} {p pos p0 p1 p2:Pos} {i j:Nat}
theorem oX (G:TOk X.prog X.w X.K X.mg X.base n x fr S) (hr:Room n X.A) (hg:Gl X x) (ha:DA X (e :: es) ta) (hdb:(x == ("__debug__":Str))=false:=by decide)
  (he:starEach (e :: es) X.env=(false,eval e X.env) :: starEach es X.env:=by rfl) (hpl:(backTo pos (starEach es X.env)).any (·.1)=false:=by rfl):DR X fr (.Call (.Name x p) (e :: es) [] pos) (o6 S ta):=by
 obtain ⟨f,fd,ps,hm,hk,hb,F⟩:=G.ex
 obtain ⟨te,p1,l1⟩:=ha
 refine ⟨_,wV F hr hg hm hk hb .nil sE p1 hdb he hpl,fun ρ σ H Q r h R k=>l1 ρ σ H _ r h _ fun ds vs H1 s1 i1 q1=>?_⟩
 rw [List.append_nil]
 exact ⟨H1,ds,Q,rfl,i1,q1,fun d v H2 s2 t2 q2=>k d v H2 (s1.trans s2) (iS (fun _ z=>s1.h.free z) t2) q2⟩
theorem eV (h:DE X e t):DP X false e t:=let ⟨te,p,l⟩:=h; ⟨te,p,fun ρ σ H Q r h R k=>l ρ σ H Q r h R k⟩
def eZ (t:DTE):DTE:=fun ρ Q=>t ρ fun d=>mD d=true∧Q d
theorem cx (h:DE X e t):DP X true e (eZ t):=let ⟨te,p,l⟩:=h; ⟨te,p,fun ρ σ H Q r h R k=>l ρ σ H _ r h R fun d v H' s i ⟨z,q⟩=>k d v H' s (.inr ⟨z,i⟩) q⟩
def db (i:Nat):DTE:=fun ρ Q=>(∃ ds,ρ[i]? = some (.own ds)∧Q (.lst ds))∨∃ d,ρ[i]? = some (.some d)∧mD d=true∧Q d
theorem eU (i:Nat) (hN:X.N[i]? = some x:=by rfl) (hv:Vis X.env.scope x:=by first | exact Or.inl rfl | exact Or.inr (Or.inl rfl) | exact Or.inr (Or.inr rfl)) (hd:(x == ("__debug__":Str))=false:=by decide)
  (hcd:(x == ("__classdict__":Str))=false:=by decide):DP X true (.Name x p0) (db i):=by
 refine ⟨_,y3 hN hv hd hcd,fun ρ σ H Q r h R k=>?_⟩
 rcases h with ⟨ds,e,q⟩ | ⟨d,e,z,q⟩
 ·obtain ⟨b,xs,e1,e2,e3,e4,e5⟩:=r.ow i ds e
  exact ⟨.ref b,e1,k (.lst ds) _ H (Le.refl H) (.inl ⟨ds,b,xs,rfl,rfl,e4,e2,e3,e5⟩) q⟩
 ·obtain ⟨v,h1,h2⟩:=r.at_ i d e
  exact ⟨v,h1,k d v H (Le.refl H) (.inr ⟨z,h2⟩) q⟩
def e7 (t1 t2:DTE):DTS:=fun D ρ=>t1 ρ fun d1=>t2 ρ fun d2=>D.rt (.tup [d1,d2])
theorem oW {x1} (h1:DP X a e1 t1) (h2:DP X b e2 t2) (hne:a=false∨b=false:=by first | exact .inl rfl | exact .inr rfl)
  (hst:starEach [e1,e2] X.env=(false,eval e1 X.env) :: starEach [e2] X.env:=by rfl) (hst2:starEach [e2] X.env=(false,eval e2 X.env) :: starEach [] X.env:=by rfl):
  DSt X (.t a b) (.Return (some (.Tuple [e1,e2] x1 p0)) pos) (e7 t1 t2):=by
 obtain ⟨te1,q1,l1⟩:=h1
 obtain ⟨te2,q2,l2⟩:=h2
 refine ⟨_,rp (mU (zL q1 (zL q2 yF hst2) hst)),fun W0 G ρ σ W D D' at_ s h=>?_⟩
 refine l1 ρ σ W _ at_.rl h _ fun d1 u1 W1 s1 pt1 h=>?_
 refine l2 ρ σ W1 _ (at_.rl.mono s1) h _ fun d2 u2 W2 s2 pt2 q=>?_
 refine ⟨by show 2 ≤ _; decide,fun p hp=>?_⟩
 have s3:=x6 hp (.tup [u1,u2])
 refine s.tl (.tup [d1,d2]) (.ref p) (W2.new p (.tup [u1,u2])) ((at_.le.trans s1).trans (s2.trans s3)) ⟨d1,d2,p,u1,u2,rfl,rfl,zu,(pt1.mono s2).mono s3,pt2.mono s3,fun _ _ z1 z2=>?_⟩ q
 rcases hne with z | z
 ·rw [z1] at z; cases z
 ·rw [z2] at z; cases z
def slP:Bool→Dt→Sl
 | true,.lst es=>.own es
 | _,d=>.some d
theorem Rl.ownN {K:PySem.W.Frag} {F:Hp} {W:Vw} {ρ:DS} {σ:St} (r:Rl K Z F W ρ σ) {p:Addr} {xs:List V} {ds:List Dt} (i:Nat) (nep:∀ (j:Nat) (es:List Dt),ρ[j]? = some (Sl.own es)→σ[j]? ≠ some (some (V.ref p))) (nea:∀ (j:Nat) (a:Addr) (es:List Dt),ρ[j]? = some (Sl.arg a es)→a ≠ p)
  (hF:F p=none) (h1:W.h p=some (.lst xs)) (h2:W.g p=none) (h3:AllIs K W.g ds xs):Rl K Z F W (ρ.set i (.own ds)) (σ.set i (some (.ref p))):=by
 refine ⟨by rw [List.length_set,List.length_set]; exact r.len,fun j e q=>?_,fun j es q=>?_,fun j k es es' hjk q1 q2=>?_,r.fr,r.z,fun j a fs q=>?_⟩
 ·rcases zm q with ⟨_,_,e1⟩ | ⟨hij,q⟩
  ·cases e1
  ·rw [List.getElem?_set_ne hij]
   exact r.at_ j e q
 ·rcases zm q with ⟨rfl,hl,e1⟩ | ⟨hij,q⟩
  ·cases e1
   exact ⟨p,xs,by rw [List.getElem?_set_self (by rw [← r.len]; exact hl)],h1,h2,hF,h3⟩
  ·rw [List.getElem?_set_ne hij]
   exact r.ow j es q
 ·rcases zm q1 with ⟨rfl,hl,e1⟩ | ⟨hij,q1⟩
  ·rcases zm q2 with ⟨rfl,_,_⟩ | ⟨hik,q2⟩
   ·exact absurd rfl hjk
   ·rw [List.getElem?_set_self (by rw [← r.len]; exact hl),List.getElem?_set_ne hik]
    exact fun z=>nep k es' q2 z.symm
  ·rcases zm q2 with ⟨rfl,hl,_⟩ | ⟨hik,q2⟩
   ·rw [List.getElem?_set_self (by rw [← r.len]; exact hl),List.getElem?_set_ne hij]
    exact nep j es q1
   ·rw [List.getElem?_set_ne hij,List.getElem?_set_ne hik]
    exact r.ne j k es es' hjk q1 q2
 ·rcases zm q with ⟨_,_,e1⟩ | ⟨hij,q⟩
  ·cases e1
  obtain ⟨⟨ys,g1,g2⟩,k1,k2⟩:=r.ar j a fs q
  refine ⟨⟨ys,by rw [List.getElem?_set_ne hij]; exact g1,g2⟩,fun k es q'=>?_,fun k c es q'=>?_⟩
  ·rcases zm q' with ⟨rfl,hl,e1⟩ | ⟨hik,q'⟩
   ·rw [List.getElem?_set_self (by rw [← r.len]; exact hl)]
    intro z
    cases z
    exact nea j _ fs q rfl
   ·rw [List.getElem?_set_ne hik]
    exact k1 k es q'
  ·rcases zm q' with ⟨_,_,e1⟩ | ⟨hik,q'⟩
   ·cases e1
   exact k2 k c es q'
theorem Rl.part {K:PySem.W.Frag} {F F':Hp} {W:Vw} {ρ:DS} {σ:St} (r:Rl K Z F W ρ σ) {b:Bool} {d:Dt} {v:V} (i:Nat) (h:Prt K F' W b d v) (hF:∀ p,F' p=none→F p=none)
  (nep:∀ (p:Addr) (j:Nat) (es fs:List Dt),b=true→d=.lst fs→v=.ref p→F' p=none→ρ[j]? = some (Sl.own es)→σ[j]? ≠ some (some (V.ref p))) (nea:∀ (p:Addr) (j:Nat) (a:Addr) (es:List Dt),F' p=none→ρ[j]? = some (Sl.arg a es)→a ≠ p):
  Rl K Z F W (ρ.set i (slP b d)) (σ.set i (some v)):=by
 cases b with
 | false=>cases d <;> exact r.set i h
 | true=>
  rcases h with ⟨es,p,xs,rfl,rfl,h3,h4,h5,h6⟩ | ⟨z,h2⟩
  ·exact r.ownN i (fun j fs e=>nep p j fs es rfl rfl rfl h3 e) (fun j a fs e=>nea p j a fs h3 e) (hF p h3) h4 h5 h6
  ·cases d <;> first | exact r.set i h2 | cases z
def iB (a b:Bool) (i j:Nat) (te:DTE):DTS:=fun D ρ=>te ρ fun d=>∃ d1 d2,d=.tup [d1,d2]∧D.nx ((ρ.set i (slP a d1)).set j (slP b d2))
theorem oV {px py pt:Pos} {kt:Nat} (hc:X.calm=true) (hN:X.N.Nodup) (hi:X.N[i]? = some x) (hj:X.N[j]? = some y) (hx:Loc X.env.scope x) (hy:Loc X.env.scope y) (h:DR X (.t a b) e t)
  (hf:X.fn x=true∨X.env.scope.names.lookup x=some .local:=by first | exact .inl rfl | exact .inr rfl | assumption) (hf2:X.fn y=true∨X.env.scope.names.lookup y=some .local:=by first | exact .inl rfl | exact .inr rfl | assumption)
  (hs:swapsWithSole [.Tuple [.Name x px,.Name y py] kt pt] e pos.line X.env=pure false:=by rfl) (hw:swappedStores [.Tuple [.Name x px,.Name y py] kt pt] e X.env=pure none:=by rfl):
  DSt X fr (.Assign [.Tuple [.Name x px,.Name y py] kt pt] e pos) (iB a b i j t):=by
 obtain ⟨tt,p,l⟩:=h
 refine ⟨_,pL p (uV hc (ye (zS hN hi hx hf) (ye (zS hN hj hy hf2) wU))) hs hw,fun W0 G ρ σ W D D' at_ s h=>l ρ σ W _ at_.rl h _ fun d v W1 s1 ⟨d1,d2,q,u1,u2,e1,e2,hq,pt1,pt2,ne⟩ ⟨d1',d2',ed,qq⟩=>?_⟩
 subst e2
 rw [ed] at e1
 cases e1
 refine ⟨q,_,rfl,.of (W1.sub _ _ hq),rfl,u1,[u2],rfl,u2,[],rfl,rfl,?_⟩
 have a1:=at_.step s1
 have hz:∀ p,W.h p=none→W0.h p=none:=fun p z=>at_.le.h.free z
 have nep:∀ (p:Addr) (k:Nat) (es:List Dt),W.h p=none→ρ[k]? = some (Sl.own es)→σ[k]? ≠ some (some (V.ref p)):=fun p k es z e z'=>by
  obtain ⟨c,xs,k1,k2,_⟩:=at_.rl.ow k es e
  rw [z'] at k1
  cases k1
  rw [z] at k2
  cases k2
 have nea:∀ (p:Addr) (k:Nat) (a:Addr) (es:List Dt),W.h p=none→ρ[k]? = some (Sl.arg a es)→a ≠ p:=fun p k a es z e z'=>by
  obtain ⟨⟨xs,k1,k2,_⟩,_,_⟩:=at_.rl.ar k a es e
  rw [z',z] at k2
  cases k2
 have r1:=a1.rl.part i pt1 hz (fun p k es _ _ _ _ z e=>nep p k es z e) (fun p k a es z e=>nea p k a es z e)
 have r2:=r1.part j pt2 hz (fun p k es fs hb2 hd2 hu z e=>?_) (fun p k a' es z e=>?_)
 ·exact s.nx _ _ W1 ⟨a1.le,a1.gs,r2⟩ qq
 ·rcases zm e with ⟨rfl,hl,e1⟩ | ⟨hik,e⟩
  ·rw [List.getElem?_set_self (by rw [← at_.rl.len]; exact hl)]
   cases a with
   | false=>cases d1 <;> cases e1
   | true=>
    cases d1 with
    | lst gs=>exact fun z'=>ne gs fs rfl hb2 rfl hd2 (by rw [hu]; exact Option.some.inj (Option.some.inj z'))
    | _=>cases e1
  ·rw [List.getElem?_set_ne hik]
   exact nep p k es z e
 ·rcases zm e with ⟨rfl,hl,e1⟩ | ⟨hik,e⟩
  ·cases a with
   | false=>cases d1 <;> cases e1
   | true=>cases d1 <;> cases e1
  ·exact nea p k a' es z e
end
end OD
namespace L2
open PySem PySem.Spec PyProof.Rows
def Cx.arg (X:Cx):Cx:={ X with fn:=fun y=>!(y == "") }
section
variable {X:Cx} {pins:List (Addr × Obj)} {σ:St} {H:Hp} {s:Shared}
theorem Inv.arg (I:Inv X pins σ H s) (hf:∀ y,X.fn y=true):Inv X.arg pins σ H s:=
 ⟨⟨I.ok.mod,I.ok.kind,I.ok.glob,I.ok.blt,I.ok.above,I.ok.inj,I.ok.has,fun x c _=>I.ok.cab x c (hf x),I.ok.hd,I.ok.frames,I.ok.stk,I.ok.exf,I.ok.bs,I.ok.bsz,I.ok.noex,I.ok.exfs,I.ok.funs,I.ok.frf⟩,I.os,I.bare,I.base,I.loc,I.cell,I.free,I.freeC,I.pin,I.hok,I.len⟩
end
end L2
namespace OD
variable {Z:Hp}
open PySem PySem.Spec PyProof.Rows L2
def Vw.del (W:Vw) (a:Addr) (hg:W.g a=none):Vw:=⟨W.g,fun b=>if b=a then none else W.h b,fun b o q=>by
 have:b ≠ a:=fun e=>by rw [e,hg] at q; cases q
 show (if b=a then none else W.h b)=some o
 rw [if_neg this]
 exact W.sub _ _ q⟩
abbrev ASp:=Dt→List Dt→List Dt→(List Dt→Prop)→Prop
def iL (K:PySem.W.Frag) (S:ASp):Sp:=fun vs H Q _=>∃ (W:Vw) (d0:Dt) (es0 ds:List Dt) (Qd:List Dt→Prop) (v0:V) (a:Addr) (xs vs':List V) (hg:W.g a=none),W.h=H∧vs=v0 :: .ref a :: vs'∧W.h a=some (.lst xs)∧Is K W.g d0 v0∧AllIs K W.g es0 xs∧AllIs K W.g ds vs'∧S d0 es0 ds Qd∧
 ∀ es ys W',Le (W.del a hg) W'→W'.h a=some (.lst ys)→W'.g a=none→AllIs K W'.g es ys→Qd es→Q .non W'.h
structure AOk (P:Program) (w:World) (K:PySem.W.Frag) (mg:Str→Option Value) (base:Heap) (n:Nat) (x:Str) (S:ASp):Prop where
 ex:∃ f fd ps,mg x=some (.ref f)∧PySem.W.keepIn K (.ref f)=true∧Binds K fd ps []∧FnOk P w K mg base CX0 n f fd ps (iL K S)
section
variable {P:Program} {w:World} {K:PySem.W.Frag} {mg:Str→Option Value} {base:Heap}
theorem AOk.mk' {x qual:Str} {st:Stmt} {f:Addr} {fd:FuncData} {ps:List Str} {n:Nat} {S:ASp} (F:Fun K x qual st f fd) (hm:mg x=some (.ref f)) (hb:Binds K fd ps []) (h:FnOk P w K mg base CX0 n f fd ps (iL K S)):AOk P w K mg base n x S:=
 ⟨f,fd,ps,hm,F.kp,hb,h⟩
end
section
variable {X:Cx} {fr:Fr} {e e0 k:Expr} {es:List Expr} {t te tk:DTE} {ta:DTA} {n:Nat} {x y:Str} {S:ASp} {p pos p0 p1 p2 p3:Pos} {i:Nat}
end
end OD
namespace OD
variable {Z:Hp}
open PySem PySem.Spec PyProof.Rows L2
section
variable {X:Cx} {tg:Expr}
variable {a b c:Expr} {ta:DTA} {p0 pos1:Pos}
end
end OD
namespace My
open PySem L2 OD
local macro_rules | `(tactic| walk_at "rd1") => `(tactic| first | refine ⟨_, rfl, ?_⟩ | refine ⟨_, _, rfl, rfl, ?_⟩ | refine ⟨_, _, _, _, rfl, rfl, rfl, ?_⟩ | refine ⟨_, _, _, rfl, rfl, rfl, ?_⟩ | refine cp ?_ | refine cq ?_ | refine ⟨rfl, rfl, ?_⟩ | refine ⟨rfl, ?_⟩ | refine ⟨kf (by decide), ?_⟩ | refine ⟨sR (by decide), ?_⟩ | refine ⟨dH (by decide), ?_⟩ | refine ⟨gq (by decide), ?_⟩ | refine ⟨jl (by decide), ?_⟩ | refine ⟨_, _, rfl, ?_⟩)
local macro_rules | `(tactic| walk_at "rd") => `(tactic| repeat (walk_at "rd1"))
theorem ifT {b:Bool} {A B:Prop} (e:b=true) (h:A):if b=true then A else B:=by rw [if_pos e]; exact h
theorem ifF {b:Bool} {A B:Prop} (e:b=false) (h:B):if b=true then A else B:=by rw [if_neg (by rw [e]; exact Bool.false_ne_true)]; exact h
theorem ifB {b:Bool} {A B:Prop} (h1:b=true→A) (h2:b=false→B):if b=true then A else B:=by
 cases b with
 | true=>exact ifT rfl (h1 rfl)
 | false=>exact ifF rfl (h2 rfl)
theorem eqI {a b:Int} (h:a=b):eqD (.int a) (.int b)=true:=by rw [yQ]; exact beq_iff_eq.mpr h
theorem neI {a b:Int} (h:a ≠ b):eqD (.int a) (.int b)=false:=by rw [yQ]; exact beq_eq_false_iff_ne.mpr h
theorem u4 {a b:Int} (h:eqD (.int a) (.int b)=true):a=b:=by rw [yQ] at h; exact beq_iff_eq.mp h
theorem vG {a b:Int} (h:eqD (.int a) (.int b)=false):a ≠ b:=by rw [yQ] at h; exact beq_eq_false_iff_ne.mp h
theorem nT {b:Bool} (h:b=true):(!b)=false:=by rw [h]; rfl
theorem nF {b:Bool} (h:b=false):(!b)=true:=by rw [h]; rfl
theorem f_ {b:Bool} (h:(!b)=true):b=false:=by cases b <;> first | rfl | cases h
theorem eh {b:Bool} (h:(!b)=false):b=true:=by cases b <;> first | rfl | cases h
theorem l8 {t u:DTT} {ρ:DS} {Q:Bool→Prop} (b1 b2:Bool) (h1:∀ R:Bool→Prop,R b1→t ρ R) (h2:∀ R:Bool→Prop,R b2→u ρ R) (q:Q (b1 && b2)):jL t u ρ Q:=h1 _ (by cases b1 <;> first | exact ifT rfl (h2 _ q) | exact ifF rfl q)
def zC (ns:List Int):Dt:=.lst (ns.map Dt.int)
def trim (ns:List Int):List Int:=(ns.reverse.dropWhile (· == 0)).reverse
def kD:DSp:=fun ds Q=>∃ ns k,ds=[.scr ns,.int k]∧0 ≤ k∧∀ z:Int,Q (.int z)
def nj:DSp:=fun ds Q=>∃ ns:List Int,ds=[.scr ns]∧ns.length ≤ 63∧Q (.bl true)
theorem vj {xs:List Int} {k:Int} (h0:0 ≤ k) (h:k < xs.length):atI (xs.map Dt.int) k=some (.int (xs.getD k.toNat 0)):=by
 have e:((k.toNat:Nat):Int)=k:=Int.toNat_of_nonneg h0
 have hl:k.toNat < xs.length:=by omega
 have:=rT (j:=k.toNat) (xs:=xs.map Dt.int) (v:=.int (xs.getD k.toNat 0)) (by
  rw [List.getElem?_map,List.getElem?_eq_getElem hl,List.getD_eq_getElem?_getD,List.getElem?_eq_getElem hl]
  rfl)
 rwa [e] at this
theorem wC {ns:List Int} {i:Nat} (h:i < ns.length):atI (ns.map Dt.int) (i:Int)=some (.int (ns.getD i 0)):=by
 refine rT ?_
 rw [List.getElem?_map,List.getElem?_eq_getElem h,List.getD_eq_getElem?_getD,List.getElem?_eq_getElem h]
 rfl
theorem jr {n:Nat} {k:Int} (h0:0 ≤ k) (h:k < n):ixN n k=some k.toNat:=by
 unfold ixN
 rw [if_pos h0,if_pos h]
theorem lx {n:Nat} (h:0 < n):ixN n (-1)=some (n - 1):=by
 unfold ixN
 rw [if_neg (by decide),if_pos (by omega)]
 congr 1
 omega
theorem wk {xs:List Int} {z:Int}:atI ((xs ++ [z]).map Dt.int) (-1)=some (.int z):=by
 unfold atI
 rw [lx (by rw [List.length_map,List.length_append]; exact Nat.succ_pos _)]
 show ((xs ++ [z]).map Dt.int)[((xs ++ [z]).map Dt.int).length - 1]? = _
 rw [List.length_map,List.length_append,List.map_append,List.getElem?_append_right (by rw [List.length_map]; exact Nat.le_of_eq (Nat.add_sub_cancel ..).symm)]
 rw [List.length_map,show xs.length + [z].length - 1 - xs.length=0 by simp]
 rfl
theorem g8 {ns:List Int} {n:Nat}:(ns.map Dt.int).all (okE n)=true:=by
 rw [List.all_eq_true]
 intro x hx
 obtain ⟨z,_,e⟩:=List.mem_map.mp hx
 subst e
 cases n <;> rfl
theorem z9 (ns:List Int):okE 40 (zC ns)=true:=g8 (n:=39)
theorem ka (ms:List Int) (lo hi:Option Int):∃ ms':List Int,uu (ms.map Dt.int) lo hi=ms'.map Dt.int∧ms'.length ≤ ms.length∧∀ z ∈ ms',z ∈ ms:=by
 unfold uu
 rw [← List.map_drop,← List.map_take]
 refine ⟨_,rfl,?_,fun t ht=>List.mem_of_mem_drop (List.mem_of_mem_take ht)⟩
 rw [List.length_take,List.length_drop]
 omega
theorem lC {ns:List Int} {i:Nat} {x:Dt} (h:(ns.map Dt.int)[i]? = some x):x=.int (ns.getD i 0)∧i < ns.length:=by
 rw [List.getElem?_map] at h
 cases q:ns[i]? with
 | none=>rw [q] at h; cases h
 | some z=>
  rw [q] at h
  have hl:i < ns.length:=by
   rcases Nat.lt_or_ge i ns.length with h | h
   ·exact h
   ·rw [List.getElem?_eq_none h] at q; cases q
  rw [List.getD_eq_getElem?_getD,q]
  exact ⟨(Option.some.inj h).symm,hl⟩
theorem mI (k:Nat) (z:Int):(List.replicate k [Dt.int z]).flatten=(List.replicate k z).map Dt.int:=by
 induction k with
 | zero=>rfl
 | succ k ih=>rw [List.replicate_succ,List.flatten_cons,ih]; rfl
theorem ko (xs:List Int) (z:Int):xs.map Dt.int ++ [.int z]=(xs ++ [z]).map Dt.int:=by rw [List.map_append]; rfl
theorem tJ (xs ys:List Int):xs.map Dt.int ++ ys.map Dt.int=(xs ++ ys).map Dt.int:=by rw [List.map_append]
theorem mC (xs:List Int) (j:Nat) (z:Int):(xs.map Dt.int).set j (.int z)=(xs.set j z).map Dt.int:=by rw [List.map_set]
theorem sQ (xs:List Int):(xs.map Dt.int).dropLast=xs.dropLast.map Dt.int:=by rw [List.map_dropLast]
theorem zG (xs:List Int):(xs.map Dt.int).length=xs.length:=List.length_map _
theorem qk:trim []=[]:=rfl
theorem wo (xs:List Int):trim (xs ++ [0])=trim xs:=by
 unfold trim
 rw [List.reverse_append]
 rfl
theorem uw {xs:List Int} {z:Int} (h:z ≠ 0):trim (xs ++ [z])=xs ++ [z]:=by
 unfold trim
 rw [List.reverse_append]
 show (List.dropWhile _ (z :: xs.reverse)).reverse=_
 rw [List.dropWhile_cons,if_neg (by simpa using h),List.reverse_cons,List.reverse_reverse]
theorem zE (xs:List Int):xs=[]∨∃ l z,xs=l ++ [z]:=by
 rcases List.eq_nil_or_concat xs with h | ⟨l,z,h⟩
 ·exact .inl h
 ·exact .inr ⟨l,z,by rw [h,List.concat_eq_append]⟩
theorem uM (xs:List Int):(trim xs).length ≤ xs.length:=by
 unfold trim
 rw [List.length_reverse]
 refine Nat.le_trans (List.dropWhile_sublist _).length_le ?_
 rw [List.length_reverse]
 exact Nat.le_refl _
theorem q9 {i:Nat} {D:DEnds} {ρ:DS} {ms:List Int} (hi:ρ[i]? = some (.own (ms.map Dt.int))) (q:D.nx (ρ.set i (.own ((trim ms).map Dt.int)))):
  ol (jL (xM (dOp (gI fun i j=>Dt.bl (decide (j < i))) (iE i) (dC (Dt.int 0)))) (xM (dOp gEq (gY i (gU (dC (Dt.int 1)))) (dC (Dt.int 0))))) (gR i) D ρ:=by
 have hl:i < ρ.length:=by
  rcases Nat.lt_or_ge i ρ.length with h | h
  ·exact h
  ·rw [List.getElem?_eq_none h] at hi; cases hi
 refine ⟨fun m ρ'=>∃ l:List Int,ρ'=ρ.set i (.own (l.map Dt.int))∧l.length=m∧trim l=trim ms,⟨_,ms,?_,rfl,rfl⟩,?_⟩
 ·apply List.ext_getElem?
  intro j
  by_cases hj:i=j
  ·subst hj; rw [List.getElem?_set_self hl]; exact hi
  ·rw [List.getElem?_set_ne hj]
 ·rintro m ρ' ⟨l,rfl,rfl,ht⟩
  have hg:(ρ.set i (.own (l.map Dt.int)))[i]? = some (.own (l.map Dt.int)):=List.getElem?_set_self hl
  refine ⟨_,hg,_,_,rfl,rfl,_,rfl,?_⟩
  rcases zE l with rfl | ⟨l',z,rfl⟩
  ·refine ifF rfl (ifF rfl ?_)
   rw [← ht,qk] at q
   exact q
  ·refine ifT (by rw [decide_eq_true_iff,List.length_map,List.length_append]; simp) ?_
   refine ⟨_,hg,_,rfl,_,_,rfl,wk,rfl,rfl,_,rfl,?_⟩
   by_cases hz:z=0
   ·refine ifT (eqI hz) ?_
    subst hz
    refine ⟨_,hg,by simp,l'.length,by rw [List.length_append]; exact Nat.lt_succ_self _,l',?_,rfl,?_⟩
    ·rw [sQ,List.dropLast_concat,List.set_set]
    ·rw [← ht,wo]
   ·refine ifF (neI hz) ?_
    rw [← ht,uw hz] at q
    exact q
theorem qi {i:Nat} {D:DEnds} {ρ:DS} {ms:List Int} (hi:ρ[i]? = some (.own (ms.map Dt.int))) (q:D.nx (ρ.set i (.own ((trim ms).map Dt.int)))):
  ol (jL (iC i) (xM (dOp gEq (gY i (gU (dC (Dt.int 1)))) (dC (Dt.int 0))))) (gR i) D ρ:=by
 have hl:i < ρ.length:=by
  rcases Nat.lt_or_ge i ρ.length with h | h
  ·exact h
  ·rw [List.getElem?_eq_none h] at hi; cases hi
 refine ⟨fun m ρ'=>∃ l:List Int,ρ'=ρ.set i (.own (l.map Dt.int))∧l.length=m∧trim l=trim ms,⟨_,ms,?_,rfl,rfl⟩,?_⟩
 ·apply List.ext_getElem?
  intro j
  by_cases hj:i=j
  ·subst hj; rw [List.getElem?_set_self hl]; exact hi
  ·rw [List.getElem?_set_ne hj]
 ·rintro m ρ' ⟨l,rfl,rfl,ht⟩
  have hg:(ρ.set i (.own (l.map Dt.int)))[i]? = some (.own (l.map Dt.int)):=List.getElem?_set_self hl
  refine ⟨_,hg,?_⟩
  rcases zE l with rfl | ⟨l',z,rfl⟩
  ·refine ifF rfl (ifF rfl ?_)
   rw [← ht,qk] at q
   exact q
  ·refine ifT (by simp) ?_
   refine ⟨_,hg,_,rfl,_,_,rfl,wk,rfl,rfl,_,rfl,?_⟩
   by_cases hz:z=0
   ·refine ifT (eqI hz) ?_
    subst hz
    refine ⟨_,hg,by simp,l'.length,by rw [List.length_append]; exact Nat.lt_succ_self _,l',?_,rfl,?_⟩
    ·rw [sQ,List.dropLast_concat,List.set_set]
    ·rw [← ht,wo]
   ·refine ifF (neI hz) ?_
    rw [← ht,uw hz] at q
    exact q
inductive Kd where | plain | below | balanced | growing | falling | pairs
def Kd.num:Kd→Int
 | .plain=>0 | .below=>1 | .balanced=>2 | .growing=>3 | .falling=>4 | .pairs=>5
def Kd.fld:Kd→Str
 | .plain=>"base" | .below=>"base" | .balanced=>"half" | .growing=>"first" | .falling=>"most" | .pairs=>"most"
def Kd.lo:Kd→Int
 | .plain=>2 | .below=>2 | .balanced=>1 | .growing=>2 | .falling=>1 | .pairs=>1
def Kd.hi:Kd→Int
 | .plain=>60 | .below=>60 | .balanced=>30 | .growing=>60 | .falling=>9 | .pairs=>9
def Kd.ok (k:Kd) (n:Int):Prop:=k.lo ≤ n∧n ≤ k.hi
def yw:Dt→Option Bool
 | .int _=>some true
 | .bl _=>some false
 | .tup _=>some false
 | .lst _=>some false
 | _=>none
def yS:DSp:=fun ds Q=>∃ d b,ds=[d]∧yw d=some b∧Q (.bl b)
def yz:DSp:=fun ds Q=>∃ n lo hi,ds=[.int n,.int lo,.int hi]∧lo ≤ n∧n ≤ hi∧Q (.int n)
inductive Nm where | i (n:Int) | p (a b:Int)
def Nm.dt:Nm→Dt
 | .i n=>.int n
 | .p a b=>.tup [.int a,.int b]
def Nm.re:Nm→Int
 | .i n=>n
 | .p a _=>a
def Nm.im:Nm→Int
 | .i _=>0
 | .p _ b=>b
def Nm.mul:Nm→Nm→Nm
 | .i a,.i b=>.i (a * b)
 | m,n=>.p (m.re * n.re - m.im * n.im) (m.re * n.im + m.im * n.re)
def Nm.mulOk (m n:Nm):Prop:=IntMulOk m.re n.re∧IntMulOk m.im n.im∧IntMulOk m.re n.im∧IntMulOk m.im n.re
def u5:Dt→Option Nm
 | .int a=>some (.i a)
 | .tup [.int a,.int b]=>some (.p a b)
 | _=>none
def xt:DSp:=fun ds Q=>∃ d m,ds=[d]∧u5 d=some m∧Q (.tup [.int m.re,.int m.im])
def rY:DSp:=fun ds Q=>∃ d e m n,ds=[d,e]∧u5 d=some m∧u5 e=some n∧m.mulOk n∧Q (m.mul n).dt
theorem yA {d:Dt} {m:Nm} (h:u5 d=some m):d=m.dt:=by
 unfold u5 at h
 split at h
 ·cases h; rfl
 ·cases h; rfl
 ·cases h
theorem z_ (m:Nm):u5 m.dt=some m:=by cases m <;> rfl
theorem rF (m:Nm):okE 40 m.dt=true:=by cases m <;> rfl
theorem small {n:Int} (h0:-1000000 ≤ n) (h1:n ≤ 1000000) (c:Int):IntMulOk c n:=gq (by rw [decide_eq_true_iff]; omega)
theorem xS {n:Int} (h0:-1000000 ≤ n) (h1:n ≤ 1000000) (c:Int):IntMulOk n c:=jl (by rw [decide_eq_true_iff]; omega)
def Kd.four:Kd→Bool
 | .plain=>true | .below=>true | .balanced=>true | .growing=>true | _=>false
def Kd.five:Kd→Bool
 | .falling=>false | _=>true
def Kd.low:Kd→Int→Int→Int
 | .balanced,n,_=>-n
 | _,_,_=>0
def Kd.high:Kd→Int→Int→Int
 | .plain,n,_=>n - 1
 | .below,n,_=>n - 1
 | .balanced,n,_=>n
 | .growing,n,p=>n + p - 1
 | .falling,n,_=>n
 | .pairs,n,_=>n * n
def Kd.rat:Kd→Int→Int→Int
 | .plain,n,_=>n
 | .below,n,_=>-n
 | .balanced,n,_=>2 * n + 1
 | .growing,n,p=>n + p
 | _,_,_=>0
def Kd.ratN:Kd→Int→Int→Nm
 | .pairs,n,_=>.p (-n) 1
 | k,n,p=>.i (k.rat n p)
def Nm.add:Nm→Nm→Nm
 | .i a,.i b=>.i (a + b)
 | m,n=>.p (m.re + n.re) (m.im + n.im)
def uI:DSp:=fun ds Q=>∃ d e m n,ds=[d,e]∧u5 d=some m∧u5 e=some n∧Q (m.add n).dt
def Kd.zero:Kd→Nm
 | .pairs=>.p 0 0
 | _=>.i 0
def wtF (n:Int):Nat→Int × Int
 | 0=>(1,1)
 | j + 1=>((wtF n j).2,n * (wtF n j).2 + (wtF n j).1)
def wtR (k:Kd) (n:Int):Nat→Nm
 | 0=>k.zero.add (.i 1)
 | j + 1=>(k.ratN n j).mul (wtR k n j)
def wt:Kd→Int→Nat→Nm
 | .falling,n,j=>.i (wtF n j).2
 | k,n,j=>wtR k n j
def wts (k:Kd) (n:Int) (m:Nat):List Dt:=(List.range m).map fun j=>(wt k n j).dt
theorem qc (k:Kd) (n:Int) (m:Nat):wts k n (m + 1)=wts k n m ++ [(wt k n m).dt]:=by
 unfold wts
 rw [List.range_succ,List.map_append]
 rfl
theorem yV (k:Kd) (n:Int) (m:Nat):(wts k n m).length=m:=by
 unfold wts
 rw [List.length_map,List.length_range]
theorem iN {k:Kd} {n:Int} {m j:Nat} (h:j < m):(wts k n m)[j]? = some (wt k n j).dt:=by
 unfold wts
 rw [List.getElem?_map,List.getElem?_range h]
 rfl
theorem xL {k:Kd} {n:Int} (h:k.ok n):1 ≤ n∧n ≤ 60:=by
 obtain ⟨h1,h2⟩:=h
 cases k <;> simp only [Kd.lo,Kd.hi] at * <;> omega
theorem mK {k:Kd} {n p:Int} (h:k.ok n) (p0:0 ≤ p) (p1:p ≤ 1000):-1000000 ≤ (k.ratN n p).re∧(k.ratN n p).re ≤ 1000000∧-1000000 ≤ (k.ratN n p).im∧(k.ratN n p).im ≤ 1000000:=by
 obtain ⟨h1,h2⟩:=xL h
 cases k <;> simp only [Kd.ratN,Kd.rat,Nm.re,Nm.im] <;> omega
theorem kQ {k:Kd} {n p:Int} (h:k.ok n) (p0:0 ≤ p) (p1:p ≤ 1000) (m:Nm):(k.ratN n p).mulOk m:=by
 obtain ⟨a,b,c,d⟩:=mK h p0 p1
 exact ⟨xS a b _,xS c d _,xS a b _,xS c d _⟩
theorem oB {k:Kd} {n:Int} {j:Nat} (h:k.five=true):wt k n j=wtR k n j:=by cases k <;> first | rfl | cases h
theorem io {a:Int} {k:Nat} (h:a.natAbs < 2 ^ k):Builtin.Int.intBits a ≤ k:=by
 rw [intBits_le_iff]
 exact h
def bdN (m:Nm) (k:Nat):Prop:=m.re.natAbs < 2 ^ k∧m.im.natAbs < 2 ^ k
theorem vI {a b:Int} {i j:Nat} (h:a.natAbs < 2 ^ i) (h':b.natAbs < 2 ^ j) (hij:i + j ≤ 134217728):IntMulOk a b:=IntMulOk.of_le (io h) (io h') hij
theorem ln {m n:Nm} {i j:Nat} (h:bdN m i) (h':bdN n j) (hij:i + j ≤ 134217728):m.mulOk n:=⟨vI h.1 h'.1 hij,vI h.2 h'.2 hij,vI h.1 h'.2 hij,vI h.2 h'.1 hij⟩
def yL (k:Kd) (n:Int) (ns:List Int):Nat→Nm
 | 0=>k.zero
 | j + 1=>(yL k n ns j).add ((Nm.i (ns.getD j 0)).mul (wt k n j))
def bdR (ns:List Int):Prop:=∀ t ∈ ns,t.natAbs < 2 ^ 5000
theorem kO {ns:List Int} {i:Nat} {x:Dt} (h:(ns.map Dt.int)[i]? = some x):x=.int (ns.getD i 0)∧i < ns.length:=by
 rw [List.getElem?_map] at h
 cases q:ns[i]? with
 | none=>rw [q] at h; cases h
 | some z=>
  rw [q] at h
  have hl:i < ns.length:=by
   rcases Nat.lt_or_ge i ns.length with h | h
   ·exact h
   ·rw [List.getElem?_eq_none h] at q; cases q
  rw [List.getD_eq_getElem?_getD,q]
  exact ⟨(Option.some.inj h).symm,hl⟩
theorem rS {ns:List Int} (h:bdR ns) (i:Nat):(ns.getD i 0).natAbs < 2 ^ 5000:=by
 rw [List.getD_eq_getElem?_getD]
 cases q:ns[i]? with
 | none=>exact Nat.two_pow_pos 5000
 | some z=>exact h z (List.mem_of_getElem? q)
theorem oz {k:Kd} {n:Int} {m i:Nat} {y:Dt} (h:(wts k n m)[i]? = some y):y=(wt k n i).dt:=by
 have hl:i < m:=by
  rcases Nat.lt_or_ge i m with q | q
  ·exact q
  ·rw [List.getElem?_eq_none (by rw [yV]; exact q)] at h; cases h
 rw [iN hl] at h
 exact (Option.some.inj h).symm
theorem md {n:Int} (h1:1 ≤ n) (h2:n ≤ 60):∀ j:Nat,(wtF n j).1.natAbs < 2 ^ (12 * j + 1)∧(wtF n j).2.natAbs < 2 ^ (12 * j + 1)
 | 0=>⟨(by decide:(1:Int).natAbs < 2 ^ 1),(by decide:(1:Int).natAbs < 2 ^ 1)⟩
 | j + 1=>by
  obtain ⟨a,b⟩:=md h1 h2 j
  have pw:2 ^ (12 * (j + 1) + 1)=2 ^ (12 * j + 1) * 4096:=by rw [show 12 * (j + 1) + 1=(12 * j + 1) + 12 by omega,Nat.pow_add]
  rw [pw]
  unfold wtF
  dsimp only
  generalize 2 ^ (12 * j + 1)=B at *
  have hm:(n * (wtF n j).2).natAbs ≤ 60 * (wtF n j).2.natAbs:=by
   rw [Int.natAbs_mul]
   exact Nat.mul_le_mul_right _ (by omega)
  have hs:=Int.natAbs_add_le (n * (wtF n j).2) (wtF n j).1
  exact ⟨by omega,by omega⟩
theorem gm (r w:Nm):(r.mul w).re=r.re * w.re - r.im * w.im:=by cases r <;> cases w <;> simp [Nm.mul,Nm.re,Nm.im]
theorem gp (r w:Nm):(r.mul w).im=r.re * w.im + r.im * w.re:=by cases r <;> cases w <;> simp [Nm.mul,Nm.re,Nm.im]
theorem ma {k:Kd} {n:Int} (h:k.ok n):∀ j:Nat,j ≤ 1000→bdN (wtR k n j) (12 * j + 1)
 | 0,_=>by cases k <;> exact ⟨(by decide:(1:Int).natAbs < 2 ^ 1),(by decide:(0:Int).natAbs < 2 ^ 1)⟩
 | j + 1,hj=>by
  obtain ⟨a,b⟩:=ma h j (by omega)
  have pw:2 ^ (12 * (j + 1) + 1)=2 ^ (12 * j + 1) * 4096:=by rw [show 12 * (j + 1) + 1=(12 * j + 1) + 12 by omega,Nat.pow_add]
  obtain ⟨r1,r2,r3,r4⟩:=mK (p:=(j:Int)) h (by omega) (by omega)
  have hr:(k.ratN n j).re.natAbs ≤ 2000∧(k.ratN n j).im.natAbs ≤ 1:=by
   obtain ⟨h1,h2⟩:=xL h
   cases k <;> simp only [Kd.ratN,Kd.rat,Nm.re,Nm.im] <;> constructor <;> omega
  unfold bdN
  rw [pw]
  unfold wtR
  generalize 2 ^ (12 * j + 1)=B at *
  generalize k.ratN n j=r at *
  generalize wtR k n j=w at *
  obtain ⟨c,d⟩:=hr
  have m1:(r.re * w.re).natAbs ≤ 2000 * w.re.natAbs:=by rw [Int.natAbs_mul]; exact Nat.mul_le_mul_right _ c
  have m2:(r.im * w.im).natAbs ≤ 1 * w.im.natAbs:=by rw [Int.natAbs_mul]; exact Nat.mul_le_mul_right _ d
  have m3:(r.re * w.im).natAbs ≤ 2000 * w.im.natAbs:=by rw [Int.natAbs_mul]; exact Nat.mul_le_mul_right _ c
  have m4:(r.im * w.re).natAbs ≤ 1 * w.re.natAbs:=by rw [Int.natAbs_mul]; exact Nat.mul_le_mul_right _ d
  have s1:(r.re * w.re - r.im * w.im).natAbs ≤ (r.re * w.re).natAbs + (r.im * w.im).natAbs:=by omega
  have s2:=Int.natAbs_add_le (r.re * w.im) (r.im * w.re)
  rw [gm,gp]
  exact ⟨by omega,by omega⟩
theorem jY {k:Kd} {n:Int} (h:k.ok n) {j:Nat} (hj:j ≤ 1000):bdN (wt k n j) (12 * j + 1):=by
 by_cases h5:k.five=true
 ·rw [oB h5]; exact ma h j hj
 ·cases k with
  | falling=>
   obtain ⟨h1,h2⟩:=xL h
   exact ⟨(md h1 h2 j).2,show (0:Int).natAbs < _ from Nat.two_pow_pos _⟩
  | _=>exact absurd rfl h5
theorem cK {a:Int} {i:Nat} (h:a.natAbs < 2 ^ i):bdN (.i a) i:=⟨h,Nat.two_pow_pos _⟩
theorem wt4 {k:Kd} {n:Int} (h:k.four=true):∀ j,∃ w,wtR k n j=.i w
 | 0=>by cases k <;> cases h <;> exact ⟨_,rfl⟩
 | j + 1=>by
  obtain ⟨w,e⟩:=wt4 (n:=n) h j
  unfold wtR
  rw [e]
  cases k <;> cases h <;> exact ⟨_,rfl⟩
theorem wt2 {n:Int}:∀ j,∃ x y,wtR .pairs n j=.p x y
 | 0=>⟨_,_,rfl⟩
 | j + 1=>by
  obtain ⟨x,y,e⟩:=wt2 (n:=n) j
  unfold wtR
  rw [e]
  exact ⟨_,_,rfl⟩
theorem wtI {k:Kd} {n:Int} (h:k ≠ .pairs) (j:Nat):∃ w,wt k n j=.i w:=by
 cases k with
 | pairs=>exact absurd rfl h
 | falling=>exact ⟨_,rfl⟩
 | _=>exact wt4 rfl _
def sF (k:Kd) (n:Int) (j:Nat) (t:Nm):Int:=match k with
 | .pairs=>(t.re + n * t.im).fmod (n * n + 1)
 | k=>k.low n j + (t.re - k.low n j).fmod (k.high n j - k.low n j + 1)
def sC (k:Kd) (n:Int) (j:Nat) (t:Nm):Nm:=match k with
 | .pairs=>.p (((t.re - sF .pairs n j t) * (-n) - t.im * (-1)).fdiv (n * n + 1)) (((t.re - sF .pairs n j t) * (-1) + t.im * (-n)).fdiv (n * n + 1))
 | k=>.i ((t.re - sF k n j t).fdiv (k.rat n j))
def Nm.ty (k:Kd) (m:Nm):Prop:=match k with
 | .pairs=>∃ a b,m=.p a b
 | _=>∃ a,m=.i a
def tot (k:Kd) (m:Nm):Prop:=k ≠ .pairs→∃ a,m=.i a
def cAt (k:Kd) (n:Int) (ts:List Nm):Nat→Nm
 | 0=>k.zero
 | j + 1=>sC k n j ((cAt k n ts j).add (ts.getD j (.i 0)))
def fAt (k:Kd) (n:Int) (ts:List Nm) (j:Nat):Int:=sF k n j ((cAt k n ts j).add (ts.getD j (.i 0)))
def wa (k:Kd) (n:Int) (ts:List Nm) (j:Nat):List Int:=(List.range j).map (fAt k n ts)
def crs (k:Kd) (n:Int) (ts:List Nm) (j:Nat):List Nm:=(List.range j).map (cAt k n ts)
def ya:Kd→Nm→Bool
 | .below,.i _=>true
 | .balanced,.i _=>true
 | .pairs,.p _ _=>true
 | .pairs,.i _=>false
 | _,.i a=>decide (0 ≤ a)
 | _,.p _ _=>false
structure Fin (k:Kd) (n:Int) (ts:List Nm) (J:Nat):Prop where
 le:ts.length ≤ J
 z:cAt k n ts J=k.zero
 nz:∀ j,ts.length ≤ j→j < J→cAt k n ts j ≠ k.zero∧ya k (cAt k n ts j)=true
def wN (k:Kd) (n:Int) (ts:List Nm):Nat→Nm
 | 0=>k.zero
 | j + 1=>(wN k n ts j).add ((ts.getD j (.i 0)).mul (wt k n j))
def wF (k:Kd) (n:Int) (f:Nat→Int):Nat→Nm
 | 0=>k.zero
 | j + 1=>(wF k n f j).add ((Nm.i (f j)).mul (wt k n j))
theorem yt (m n:Nm):(m.add n).re=m.re + n.re:=by cases m <;> cases n <;> simp [Nm.add,Nm.re]
theorem yH (m n:Nm):(m.add n).im=m.im + n.im:=by cases m <;> cases n <;> simp [Nm.add,Nm.im]
theorem zH (r w:Nm):(r.mul w).re=r.re * w.re - r.im * w.im:=by cases r <;> cases w <;> simp [Nm.mul,Nm.re,Nm.im]
theorem zM (r w:Nm):(r.mul w).im=r.re * w.im + r.im * w.re:=by cases r <;> cases w <;> simp [Nm.mul,Nm.re,Nm.im]
theorem xN {k:Kd} {m:Nm} (h:k ≠ .pairs) (t:m.ty k):∃ a,m=.i a:=by
 cases k <;> first | exact t | exact absurd rfl h
theorem wS {k:Kd} {a:Int} (h:k ≠ .pairs):(Nm.i a).ty k:=by
 cases k <;> first | exact ⟨_,rfl⟩ | exact absurd rfl h
theorem yK (k:Kd):(k.zero).ty k:=by cases k <;> first | exact ⟨_,rfl⟩ | exact ⟨_,_,rfl⟩
theorem z6 (k:Kd):(k.zero).re=0:=by cases k <;> rfl
theorem ym (k:Kd):(k.zero).im=0:=by cases k <;> rfl
theorem u7 {k:Kd} {m m':Nm} (t:m.ty k) (t':m'.ty k) (h1:m.re=m'.re) (h2:m.im=m'.im):m=m':=by
 by_cases hk:k=.pairs
 ·subst hk
  obtain ⟨a,b,rfl⟩:=t
  obtain ⟨a',b',rfl⟩:=t'
  simp only [Nm.re,Nm.im] at h1 h2
  rw [h1,h2]
 ·obtain ⟨a,rfl⟩:=xN hk t
  obtain ⟨a',rfl⟩:=xN hk t'
  simp only [Nm.re] at h1
  rw [h1]
theorem mF (k:Kd) (n:Int) (j:Nat) (t:Nm):(sC k n j t).ty k:=by
 cases k <;> first | exact ⟨_,rfl⟩ | exact ⟨_,_,rfl⟩
theorem wg (k:Kd) (n:Int) (ts:List Nm):∀ j,(cAt k n ts j).ty k
 | 0=>yK k
 | j + 1=>mF k n j _
theorem wM {k:Kd} {c t:Nm} (h:c.ty k) (h':tot k t):(c.add t).ty k:=by
 by_cases hk:k=.pairs
 ·subst hk
  obtain ⟨a,b,rfl⟩:=h
  cases t <;> exact ⟨_,_,rfl⟩
 ·obtain ⟨a,rfl⟩:=xN hk h
  obtain ⟨b,rfl⟩:=h' hk
  exact wS hk
theorem xQ {k:Kd} {ts:List Nm} (h:∀ t ∈ ts,tot k t) (j:Nat):tot k (ts.getD j (.i 0)):=by
 rw [List.getD_eq_getElem?_getD]
 cases q:ts[j]? with
 | none=>exact fun _=>⟨0,rfl⟩
 | some t=>exact h t (List.mem_of_getElem? q)
theorem nC {lo t n:Int} (hn:0 < n):lo ≤ lo + (t - lo).fmod n∧lo + (t - lo).fmod n ≤ lo + n - 1∧(lo + (t - lo).fmod n) + ((t - (lo + (t - lo).fmod n)).fdiv n) * n=t:=by
 have h0:=Int.fmod_nonneg_of_pos (t - lo) hn
 have h1:=Int.fmod_lt_of_pos (t - lo) hn
 have e:t - (lo + (t - lo).fmod n)=n * (t - lo).fdiv n:=by
  have:=Int.fmod_def (t - lo) n
  omega
 refine ⟨by omega,by omega,?_⟩
 have d:(t - (lo + (t - lo).fmod n)).fdiv n=(t - lo).fdiv n:=by
  rw [e]
  exact Int.mul_fdiv_cancel_left _ (by omega)
 rw [d,Int.mul_comm]
 omega
theorem nD {lo t n:Int} (hn:0 < n):lo ≤ lo + (t - lo).fmod n∧lo + (t - lo).fmod n ≤ lo + n - 1∧(lo + (t - lo).fmod n) + ((t - (lo + (t - lo).fmod n)).fdiv (-n)) * (-n)=t:=by
 have h0:=Int.fmod_nonneg_of_pos (t - lo) hn
 have h1:=Int.fmod_lt_of_pos (t - lo) hn
 have e:t - (lo + (t - lo).fmod n)=(-n) * (-((t - lo).fdiv n)):=by
  have:=Int.fmod_def (t - lo) n
  rw [Int.neg_mul_neg]
  omega
 refine ⟨by omega,by omega,?_⟩
 have d:(t - (lo + (t - lo).fmod n)).fdiv (-n)=-((t - lo).fdiv n):=by
  rw [e]
  exact Int.mul_fdiv_cancel_left _ (by omega)
 rw [d,Int.neg_mul_neg,Int.mul_comm]
 have:=Int.fmod_def (t - lo) n
 omega
theorem uN {a b m:Int} (N:Int) (hN:N=m * m + 1) (f:Int) (hf:f=(a + m * b).fmod N) (t0 t1:Int) (h0:t0=(a - f) * (-m) - b * (-1)) (h1:t1=(a - f) * (-1) + b * (-m)):
  0 ≤ f∧f ≤ m * m∧f - m * (t0.fdiv N) - t1.fdiv N=a∧t0.fdiv N - m * (t1.fdiv N)=b:=by
 have sq:0 ≤ m * m:=by
  rcases Int.le_total 0 m with h | h
  ·exact Int.mul_nonneg h h
  ·exact Int.mul_nonneg_of_nonpos_of_nonpos h h
 have hp:0 < N:=by omega
 have g0:=Int.fmod_nonneg_of_pos (a + m * b) hp
 have g1:=Int.fmod_lt_of_pos (a + m * b) hp
 have e:=Int.fmod_def (a + m * b) N
 rw [← hf] at e g0 g1
 generalize (a + m * b).fdiv N=q at e
 have e0:t0=N * (b - m * q):=by subst hN; grind
 have e1:t1=N * (-q):=by subst hN; grind
 have d0:t0.fdiv N=b - m * q:=by rw [e0]; exact Int.mul_fdiv_cancel_left _ (by omega)
 have d1:t1.fdiv N=-q:=by rw [e1]; exact Int.mul_fdiv_cancel_left _ (by omega)
 rw [d0,d1]
 refine ⟨g0,by omega,?_,?_⟩ <;> subst hN <;> grind
def Kd.size:Kd→Int→Int→Int
 | .plain,n,_=>n
 | .below,n,_=>n
 | .balanced,n,_=>2 * n + 1
 | .growing,n,p=>n + p
 | _,_,_=>0
theorem uA {k:Kd} (h5:k.five=true) (hk:k ≠ .pairs):k.four=true:=by
 cases k <;> first | rfl | exact absurd rfl hk | cases h5
theorem rb {k:Kd} (h:k.four=true) (n p:Int):k.high n p - k.low n p + 1=k.size n p∧(k.rat n p=k.size n p∨k.rat n p=-(k.size n p)):=by
 cases k <;> cases h <;> simp only [Kd.high,Kd.low,Kd.size,Kd.rat] <;> refine ⟨by omega,?_⟩ <;> first | exact .inl rfl | exact .inr rfl | exact .inr trivial | exact .inl trivial
theorem uP {k:Kd} {n:Int} (h:k.four=true) (hn:k.ok n) (j:Nat):2 ≤ k.size n j:=by
 obtain ⟨h1,h2⟩:=hn
 cases k <;> cases h <;> simp only [Kd.lo,Kd.hi,Kd.size] at * <;> omega
theorem uO {k:Kd} {n:Int} {j:Nat} {t:Nm} (h5:k.five=true) (hn:k.ok n) (ht:t.ty k):
  k.low n j ≤ sF k n j t∧sF k n j t ≤ k.high n j∧t.re=sF k n j t + ((k.ratN n j).mul (sC k n j t)).re∧t.im=((k.ratN n j).mul (sC k n j t)).im:=by
 by_cases hk:k=.pairs
 ·subst hk
  obtain ⟨g1,g2,g3,g4⟩:=uN (a:=t.re) (b:=t.im) (m:=n) (n * n + 1) rfl _ rfl _ _ rfl rfl
  refine ⟨g1,g2,?_,?_⟩
  ·rw [zH]
   show t.re=_ + (-n * _ - 1 * _)
   unfold sC sF Nm.re Nm.im at *
   dsimp only at *
   grind
  ·rw [zM]
   show t.im=(-n * _ + 1 * _)
   unfold sC sF Nm.re Nm.im at *
   dsimp only at *
   grind
 ·have h4:=uA h5 hk
  obtain ⟨e1,e2⟩:=rb h4 n j
  have hp:=uP h4 hn j
  obtain ⟨a,rfl⟩:=xN hk ht
  have eF:sF k n j (.i a)=k.low n j + (a - k.low n j).fmod (k.size n j):=by rw [← e1]; cases k <;> first | rfl | exact absurd rfl hk
  have eC:sC k n j (.i a)=.i ((a - sF k n j (.i a)).fdiv (k.rat n j)):=by cases k <;> first | rfl | exact absurd rfl hk
  have eR:k.ratN n j=.i (k.rat n j):=by cases k <;> first | rfl | exact absurd rfl hk
  have s1:=nC (lo:=k.low n j) (t:=a) (n:=k.size n j) (by omega)
  have s2:=nD (lo:=k.low n j) (t:=a) (n:=k.size n j) (by omega)
  rw [eC,eR,eF]
  refine ⟨s1.1,by have:=s1.2.1; omega,?_,rfl⟩
  show a=_ + k.rat n j * _
  rw [Int.mul_comm (k.rat n j)]
  rcases e2 with e | e
  ·rw [e]; exact s1.2.2.symm
  ·rw [e]; exact s2.2.2.symm
theorem z7 {k:Kd} {n:Int} (h5:k.five=true) (j:Nat):wt k n (j + 1)=(k.ratN n j).mul (wt k n j):=by
 cases k <;> first | rfl | cases h5
theorem nA {T1 T2 F1 F2 w1 w2 c1 c2 t1 t2 f r1 r2 d1 d2:Int} (h1:T1=F1 + (w1 * c1 - w2 * c2)) (h2:T2=F2 + (w1 * c2 + w2 * c1)) (s1:c1 + t1=f + (r1 * d1 - r2 * d2)) (s2:c2 + t2=r1 * d2 + r2 * d1):
  T1 + (t1 * w1 - t2 * w2)=F1 + (f * w1 - 0 * w2) + ((r1 * w1 - r2 * w2) * d1 - (r1 * w2 + r2 * w1) * d2)∧T2 + (t1 * w2 + t2 * w1)=F2 + (f * w2 + 0 * w1) + ((r1 * w1 - r2 * w2) * d2 + (r1 * w2 + r2 * w1) * d1):=by
 have e1:c1=f + (r1 * d1 - r2 * d2) - t1:=by omega
 have e2:c2=r1 * d2 + r2 * d1 - t2:=by omega
 subst e1 e2 h1 h2
 constructor <;> grind
theorem fm {k:Kd} {n:Int} {ts:List Nm} (h5:k.five=true) (hn:k.ok n) (ht:∀ t ∈ ts,tot k t):∀ j,
  (wN k n ts j).re=(wF k n (fAt k n ts) j).re + ((wt k n j).mul (cAt k n ts j)).re∧(wN k n ts j).im=(wF k n (fAt k n ts) j).im + ((wt k n j).mul (cAt k n ts j)).im
 | 0=>by
  unfold wN wF cAt
  rw [zH,zM,z6,ym]
  constructor <;> grind
 | j + 1=>by
  obtain ⟨i1,i2⟩:=fm h5 hn ht j
  obtain ⟨_,_,s1,s2⟩:=uO (j:=j) h5 hn (wM (wg k n ts j) (xQ ht j))
  have ec:cAt k n ts (j + 1)=sC k n j ((cAt k n ts j).add (ts.getD j (.i 0))):=rfl
  have ef:fAt k n ts j=sF k n j ((cAt k n ts j).add (ts.getD j (.i 0))):=rfl
  rw [← ec,← ef] at s1
  rw [← ec] at s2
  rw [yt] at s1
  rw [yH] at s2
  have e1:(wN k n ts (j + 1))=(wN k n ts j).add ((ts.getD j (.i 0)).mul (wt k n j)):=rfl
  have e2:(wF k n (fAt k n ts) (j + 1))=(wF k n (fAt k n ts) j).add ((Nm.i (fAt k n ts j)).mul (wt k n j)):=rfl
  rw [e1,e2,z7 h5]
  rw [zH] at s1
  rw [zM] at s2
  rw [zH] at i1
  rw [zM] at i2
  have R:=nA i1 i2 s1 s2
  simp only [zH,zM,yt,yH]
  exact R
theorem dJ {k:Kd} {c:Nm} (h:c.ty k):c.add (.i 0)=c:=by
 by_cases hk:k=.pairs
 ·subst hk
  obtain ⟨a,b,rfl⟩:=h
  show Nm.p (a + 0) (b + 0)=_
  rw [Int.add_zero,Int.add_zero]
 ·obtain ⟨a,rfl⟩:=xN hk h
  show Nm.i (a + 0)=_
  rw [Int.add_zero]
theorem fh {k:Kd} {c:Nm} (h:c.ty k):k.zero.add c=c:=by
 by_cases hk:k=.pairs
 ·subst hk
  obtain ⟨a,b,rfl⟩:=h
  show Nm.p (0 + a) (0 + b)=_
  rw [Int.zero_add,Int.zero_add]
 ·obtain ⟨a,rfl⟩:=xN hk h
  have:k.zero=.i 0:=by cases k <;> first | rfl | exact absurd rfl hk
  rw [this]
  show Nm.i (0 + a)=_
  rw [Int.zero_add]
theorem jP {k:Kd} {n:Int} {ts:List Nm} {j:Nat} (h:ts.length ≤ j):cAt k n ts (j + 1)=sC k n j (cAt k n ts j):=by
 have e:ts.getD j (.i 0)=.i 0:=by rw [List.getD_eq_getElem?_getD,List.getElem?_eq_none h]; rfl
 show sC k n j ((cAt k n ts j).add (ts.getD j (.i 0)))=_
 rw [e,dJ (wg k n ts j)]
theorem qx {s t f a:Int} (hs:2 ≤ s) (f1:0 ≤ f) (f2:f ≤ s - 1) (q:t=f + s * a):2 * a.natAbs ≤ t.natAbs + 1∧(0 ≤ t→0 ≤ a)∧(t.natAbs ≤ 1→0 ≤ t→a=0):=by
 have hm:∀ x:Int,0 ≤ x→2 * x ≤ s * x:=fun x hx=>Int.mul_le_mul_of_nonneg_right hs hx
 have e2:s * (-a)=-(s * a):=Int.mul_neg ..
 have e3:s * (-a - 1)=-(s * a) - s:=by rw [Int.mul_sub,Int.mul_one,e2]
 rcases (by omega:0 ≤ a∨a ≤ -1) with z | z
 ·have:=hm a z
  exact ⟨by omega,fun _=>z,fun _ _=>by omega⟩
 ·have:=hm (-a - 1) (by omega)
  exact ⟨by omega,fun _=>by omega,fun _ _=>by omega⟩
theorem sA {k:Kd} {n:Int} {j:Nat} {t a:Int} (h4:k.four=true) (hn:k.ok n) (e:sC k n j (.i t)=.i a):
  2 * a.natAbs ≤ t.natAbs + 1∧(ya k (.i t)=true→ya k (.i a)=true)∧(t.natAbs ≤ 1→ya k (.i t)=true→a=0∨(t=-1∧a=1)):=by
 have h5:k.five=true:=by cases k <;> first | rfl | cases h4
 have hk:k ≠ .pairs:=fun z=>by rw [z] at h4; cases h4
 obtain ⟨f1,f2,q,_⟩:=uO (j:=j) h5 hn (t:=.i t) (wS hk)
 rw [e,zH] at q
 have hs:=uP h4 hn j
 obtain ⟨h1,h2⟩:=hn
 generalize sF k n j (.i t)=f at *
 cases k with
 | falling=>cases h4
 | pairs=>cases h4
 | plain=>
  simp only [Kd.ratN,Kd.rat,Nm.re,Nm.im,Kd.low,Kd.high,Kd.size,ya,decide_eq_true_iff] at *
  obtain ⟨p1,p2,p3⟩:=qx (t:=t) (a:=a) hs f1 f2 (by omega)
  exact ⟨p1,p2,fun x y=>.inl (p3 x y)⟩
 | below=>
  simp only [Kd.ratN,Kd.rat,Nm.re,Nm.im,Kd.low,Kd.high,Kd.size,ya] at *
  have q':t=f - n * a:=by rw [q,Int.neg_mul]; omega
  have hm:∀ x:Int,0 ≤ x→2 * x ≤ n * x:=fun x hx=>Int.mul_le_mul_of_nonneg_right hs hx
  have e1:n * (a - 1)=n * a - n:=by rw [Int.mul_sub,Int.mul_one]
  have e2:n * (-a)=-(n * a):=Int.mul_neg ..
  have e3:n * (-a - 1)=-(n * a) - n:=by rw [Int.mul_sub,Int.mul_one,e2]
  refine ⟨?_,fun _=>trivial,fun h3 _=>?_⟩
  ·rcases (by omega:1 ≤ a∨a=0∨a ≤ -1) with z | z | z
   ·have:=hm (a - 1) (by omega); omega
   ·omega
   ·have:=hm (-a) (by omega); omega
  ·rcases (by omega:2 ≤ a∨a=1∨a=0∨a ≤ -1) with z | z | z | z
   ·have:=hm (a - 1) (by omega); omega
   ·subst z; omega
   ·exact .inl z
   ·have:=hm (-a) (by omega); omega
 | balanced=>
  simp only [Kd.ratN,Kd.rat,Nm.re,Nm.im,Kd.low,Kd.high,Kd.size,ya,Kd.lo] at *
  have q':t=f + 2 * (n * a) + a:=by rw [q,Int.add_mul,Int.mul_assoc]; omega
  have hm:∀ x:Int,0 ≤ x→x ≤ n * x:=fun x hx=>by
   have:=Int.mul_le_mul_of_nonneg_right h1 hx
   omega
  have e1:n * (a - 1)=n * a - n:=by rw [Int.mul_sub,Int.mul_one]
  have e2:n * (-a)=-(n * a):=Int.mul_neg ..
  have e3:n * (-a - 1)=-(n * a) - n:=by rw [Int.mul_sub,Int.mul_one,e2]
  have key:2 * a.natAbs ≤ t.natAbs:=by
   rcases (by omega:1 ≤ a∨a=0∨a ≤ -1) with z | z | z
   ·have:=hm (a - 1) (by omega); have:=hm a (by omega); omega
   ·omega
   ·have:=hm (-a - 1) (by omega); have:=hm (-a) (by omega); omega
  exact ⟨by omega,fun _=>trivial,fun _ _=>.inl (by omega)⟩
 | growing=>
  simp only [Kd.ratN,Kd.rat,Nm.re,Nm.im,Kd.low,Kd.high,Kd.size,ya,decide_eq_true_iff] at *
  obtain ⟨p1,p2,p3⟩:=qx (t:=t) (a:=a) (s:=n + (j:Int)) hs f1 (by omega) (by omega)
  exact ⟨p1,p2,fun x y=>.inl (p3 x y)⟩
theorem jX {k:Kd} (h4:k.four=true):k.zero=.i 0:=by cases k <;> first | rfl | cases h4
theorem sC4 {k:Kd} {n:Int} {j:Nat} {t:Nm} (h4:k.four=true):∃ a,sC k n j t=.i a:=xN (fun z=>by rw [z] at h4; cases h4) (mF k n j t)
theorem ir {k:Kd} {n:Int} (h4:k.four=true) (hn:k.ok n):∀ (b:Nat) (j:Nat) (c:Nat→Nm) (t:Int),c 0=.i t→(∀ i,c (i + 1)=sC k n (j + i) (c i))→ya k (.i t)=true→t.natAbs ≤ 2 ^ b→∃ m,m ≤ b + 2∧c m=k.zero
 | 0,j,c,t,h0,hc,hh,hb=>by
  obtain ⟨a,ea⟩:=sC4 (n:=n) (j:=j) (t:=.i t) h4
  have e1:c 1=.i a:=by rw [hc 0,h0]; exact ea
  obtain ⟨_,s2,s3⟩:=sA h4 hn ea
  rcases s3 hb hh with z | ⟨_,z⟩
  ·exact ⟨1,by omega,by rw [e1,z,jX h4]⟩
  ·obtain ⟨a2,ea2⟩:=sC4 (n:=n) (j:=j + 1) (t:=.i a) h4
   have e2:c 2=.i a2:=by rw [hc 1,e1]; exact ea2
   obtain ⟨_,_,s5⟩:=sA h4 hn ea2
   rcases s5 (by omega) (s2 hh) with y | ⟨y,_⟩
   ·exact ⟨2,by omega,by rw [e2,y,jX h4]⟩
   ·omega
 | b + 1,j,c,t,h0,hc,hh,hb=>by
  obtain ⟨a,ea⟩:=sC4 (n:=n) (j:=j) (t:=.i t) h4
  have e1:c 1=.i a:=by rw [hc 0,h0]; exact ea
  obtain ⟨s1,s2,_⟩:=sA h4 hn ea
  have hp:2 ^ (b + 1)=2 * 2 ^ b:=by rw [Nat.pow_succ]; omega
  obtain ⟨m,hm,e⟩:=ir h4 hn b (j + 1) (fun i=>c (i + 1)) a e1 (fun i=>by rw [hc (i + 1),show j + (i + 1)=j + 1 + i by omega]) (s2 hh) (by omega)
  exact ⟨m + 1,by omega,e⟩
theorem ql {k:Kd} {n:Int} (h4:k.four=true) (hn:k.ok n) {j:Nat} {c:Nat→Nm} {t:Int} (h0:c 0=.i t) (hc:∀ i,c (i + 1)=sC k n (j + i) (c i)) (hh:ya k (.i t)=true):∀ i,∃ a,c i=.i a∧ya k (.i a)=true
 | 0=>⟨t,h0,hh⟩
 | i + 1=>by
  obtain ⟨a,e,h⟩:=ql h4 hn h0 hc hh i
  obtain ⟨a',e'⟩:=sC4 (n:=n) (j:=j + i) (t:=.i a) h4
  exact ⟨a',by rw [hc i,e]; exact e',(sA h4 hn e').2.1 h⟩
def pA (n a b:Int):Int:=((a - (a + n * b).fmod (n * n + 1)) * (-n) - b * (-1)).fdiv (n * n + 1)
def pB (n a b:Int):Int:=((a - (a + n * b).fmod (n * n + 1)) * (-1) + b * (-n)).fdiv (n * n + 1)
theorem kN (n:Int) (j:Nat) (a b:Int):sC .pairs n j (.p a b)=.p (pA n a b) (pB n a b):=rfl
def pz (n:Int):Nat→Int→Int→Bool
 | 0,a,b=>a == 0 && b == 0
 | m + 1,a,b=>(a == 0 && b == 0) || pz n m (pA n a b) (pB n a b)
theorem iY:(List.range 9).all (fun n=>(List.range 31).all fun a=>(List.range 31).all fun b=>pz ((n:Int) + 1) 14 ((a:Int) - 15) ((b:Int) - 15))=true:=by decide +kernel
theorem mM {n a b:Int} (n1:1 ≤ n) (n2:n ≤ 9) (a1:-15 ≤ a) (a2:a ≤ 15) (b1:-15 ≤ b) (b2:b ≤ 15):pz n 14 a b=true:=by
 have h:=List.all_eq_true.mp iY (n - 1).toNat (List.mem_range.mpr (by omega))
 have h:=List.all_eq_true.mp h (a + 15).toNat (List.mem_range.mpr (by omega))
 have h:=List.all_eq_true.mp h (b + 15).toNat (List.mem_range.mpr (by omega))
 rw [show (((n - 1).toNat:Nat):Int) + 1=n by omega,show (((a + 15).toNat:Nat):Int) - 15=a by omega,show (((b + 15).toNat:Nat):Int) - 15=b by omega] at h
 exact h
theorem rn {n:Int}:∀ (m j:Nat) (c:Nat→Nm) (a b:Int),c 0=.p a b→(∀ i,c (i + 1)=sC .pairs n (j + i) (c i))→pz n m a b=true→∃ i,i ≤ m∧c i=Kd.zero .pairs
 | 0,j,c,a,b,h0,hc,h=>by
  unfold pz at h
  rw [Bool.and_eq_true,beq_iff_eq,beq_iff_eq] at h
  exact ⟨0,Nat.le_refl _,by rw [h0,h.1,h.2]; rfl⟩
 | m + 1,j,c,a,b,h0,hc,h=>by
  unfold pz at h
  rw [Bool.or_eq_true] at h
  rcases h with h | h
  ·rw [Bool.and_eq_true,beq_iff_eq,beq_iff_eq] at h
   exact ⟨0,by omega,by rw [h0,h.1,h.2]; rfl⟩
  ·obtain ⟨i,hi,e⟩:=rn m (j + 1) (fun i=>c (i + 1)) _ _ (by rw [hc 0,h0]; exact kN n _ a b) (fun i=>by rw [hc (i + 1),show j + (i + 1)=j + 1 + i by omega]) h
   exact ⟨i + 1,by omega,e⟩
theorem oJ {n a b:Int}:∃ f,0 ≤ f∧f ≤ n * n∧(a - f) * (a - f) + b * b=(n * n + 1) * (pA n a b * pA n a b + pB n a b * pB n a b):=by
 obtain ⟨g1,g2,g3,g4⟩:=uN (a:=a) (b:=b) (m:=n) (n * n + 1) rfl _ rfl _ _ rfl rfl
 refine ⟨_,g1,g2,?_⟩
 have e1:pA n a b=((a - (a + n * b).fmod (n * n + 1)) * (-n) - b * (-1)).fdiv (n * n + 1):=rfl
 have e2:pB n a b=((a - (a + n * b).fmod (n * n + 1)) * (-1) + b * (-n)).fdiv (n * n + 1):=rfl
 rw [← e1,← e2] at g3
 rw [← e1,← e2] at g4
 generalize (a + n * b).fmod (n * n + 1)=f at *
 generalize pA n a b=x at *
 generalize pB n a b=y at *
 have ea:a - f=-(n * x) - y:=by omega
 have eb:b=x - n * y:=by omega
 rw [ea,eb]
 grind
theorem zQ (x:Int):0 ≤ x * x:=by
 rcases Int.le_total 0 x with h | h
 ·exact Int.mul_nonneg h h
 ·exact Int.mul_nonneg_of_nonpos_of_nonpos h h
theorem lI {n a b f:Int} (n1:1 ≤ n) (n2:n ≤ 9) (f0:0 ≤ f) (f1:f ≤ n * n) (h:¬ (-15 ≤ a∧a ≤ 15∧-15 ≤ b∧b ≤ 15)):8 * ((a - f) * (a - f) + b * b) ≤ 5 * ((n * n + 1) * (a * a + b * b)):=by
 have e1:(a - f) * (a - f)=a * a - 2 * (a * f) + f * f:=by grind
 have e2:(n * n + 1) * (a * a + b * b)=(n * n) * (a * a + b * b) + (a * a + b * b):=by grind
 rw [e1,e2]
 have q1:1 ≤ n * n:=by have:=Int.mul_le_mul n1 n1 (by omega) (by omega); omega
 have q2:n * n ≤ 81:=by have:=Int.mul_le_mul n2 n2 (by omega) (by omega); omega
 have hff:f * f ≤ (n * n) * (n * n):=Int.mul_le_mul f1 f1 f0 (by omega)
 have hf0:0 ≤ f * f:=zQ f
 have haf:-(a.natAbs:Int) * (n * n) ≤ a * f:=by
  rcases Int.le_total 0 a with z | z
  ·have z1:0 ≤ a * f:=Int.mul_nonneg z f0
   have z2:0 ≤ a * (n * n):=Int.mul_nonneg z (by omega)
   rw [show (a.natAbs:Int)=a by omega,Int.neg_mul]
   omega
  ·rw [show (a.natAbs:Int)=-a by omega,Int.neg_neg]
   exact Int.mul_le_mul_of_nonpos_left z f1
 have hA:(a.natAbs:Int) * a.natAbs=a * a:=by
  rcases Int.le_total 0 a with z | z
  ·rw [show (a.natAbs:Int)=a by omega]
  ·rw [show (a.natAbs:Int)=-a by omega,Int.neg_mul_neg]
 have hB:(b.natAbs:Int) * b.natAbs=b * b:=by
  rcases Int.le_total 0 b with z | z
  ·rw [show (b.natAbs:Int)=b by omega]
  ·rw [show (b.natAbs:Int)=-b by omega,Int.neg_mul_neg]
 have hAB:16 ≤ (a.natAbs:Int)∨16 ≤ (b.natAbs:Int):=by omega
 have hA0:(0:Int) ≤ (a.natAbs:Int):=Int.natCast_nonneg _
 rw [← hA,← hB]
 generalize (a.natAbs:Int)=A at *
 generalize (b.natAbs:Int)=B at *
 have sB:=zQ B
 have s4:=zQ (A - 4)
 have s2:=zQ (A - 2)
 have x4:(A - 4) * (A - 4)=A * A - 8 * A + 16:=by grind
 have x2:(A - 2) * (A - 2)=A * A - 4 * A + 4:=by grind
 rw [x4] at s4
 rw [x2] at s2
 have hb16:16 ≤ B→256 ≤ B * B:=fun z=>by have:=Int.mul_le_mul z z (by decide) (by omega); omega
 have ha16:16 ≤ A→16 * A ≤ A * A:=fun z=>Int.mul_le_mul_of_nonneg_right z (by omega)
 rcases (by omega:n=1∨n=2∨n=3∨n=4∨n=5∨n=6∨n=7∨n=8∨n=9) with z | z | z | z | z | z | z | z | z <;> subst z <;> rcases hAB with z | z <;> first | (have:=ha16 z; omega) | (have:=hb16 z; omega)
theorem qF {n a b:Int} (n1:1 ≤ n) (n2:n ≤ 9) (h:¬ (-15 ≤ a∧a ≤ 15∧-15 ≤ b∧b ≤ 15)):8 * (pA n a b * pA n a b + pB n a b * pB n a b) ≤ 5 * (a * a + b * b):=by
 obtain ⟨f,f0,f1,e⟩:=oJ (n:=n) (a:=a) (b:=b)
 have k:=lI n1 n2 f0 f1 h
 rw [e] at k
 have q1:0 < n * n + 1:=by have:=zQ n; omega
 generalize pA n a b * pA n a b + pB n a b * pB n a b=X at *
 generalize a * a + b * b=Y at *
 generalize n * n + 1=N at *
 have k':N * (8 * X) ≤ N * (5 * Y):=by
  have r1:N * (8 * X)=8 * (N * X):=by grind
  have r2:N * (5 * Y)=5 * (N * Y):=by grind
  rw [r1,r2]; exact k
 exact Int.le_of_mul_le_mul_left k' q1
theorem eS {n:Int} (n1:1 ≤ n) (n2:n ≤ 9):∀ (d j:Nat) (c:Nat→Nm) (a b:Int),c 0=.p a b→(∀ i,c (i + 1)=sC .pairs n (j + i) (c i))→a * a + b * b ≤ ((2 ^ d:Nat):Int)→∃ m,m ≤ 2 * d + 16∧c m=Kd.zero .pairs:=by
 intro d
 induction d with
 | zero=>
  intro j c a b h0 hc hb
  have sa:=zQ a
  have sb:=zQ b
  have hb':a * a + b * b ≤ 1:=hb
  have ha:-15 ≤ a∧a ≤ 15:=by
   constructor
   ·rcases Int.lt_or_le a (-15) with z | z
    ·have:=Int.mul_le_mul (show 16 ≤ -a by omega) (show 16 ≤ -a by omega) (by decide) (by omega)
     rw [Int.neg_mul_neg] at this; omega
    ·exact z
   ·rcases Int.lt_or_le 15 a with z | z
    ·have:=Int.mul_le_mul (show 16 ≤ a by omega) (show 16 ≤ a by omega) (by decide) (by omega)
     omega
    ·exact z
  have hbb:-15 ≤ b∧b ≤ 15:=by
   constructor
   ·rcases Int.lt_or_le b (-15) with z | z
    ·have:=Int.mul_le_mul (show 16 ≤ -b by omega) (show 16 ≤ -b by omega) (by decide) (by omega)
     rw [Int.neg_mul_neg] at this; omega
    ·exact z
   ·rcases Int.lt_or_le 15 b with z | z
    ·have:=Int.mul_le_mul (show 16 ≤ b by omega) (show 16 ≤ b by omega) (by decide) (by omega)
     omega
    ·exact z
  obtain ⟨i,hi,e⟩:=rn 14 j c a b h0 hc (mM n1 n2 ha.1 ha.2 hbb.1 hbb.2)
  exact ⟨i,by omega,e⟩
 | succ d ih=>
  intro j c a b h0 hc hb
  by_cases hin:-15 ≤ a∧a ≤ 15∧-15 ≤ b∧b ≤ 15
  ·obtain ⟨i,hi,e⟩:=rn 14 j c a b h0 hc (mM n1 n2 hin.1 hin.2.1 hin.2.2.1 hin.2.2.2)
   exact ⟨i,by omega,e⟩
  ·have e1:c 1=.p (pA n a b) (pB n a b):=by rw [hc 0,h0]; exact kN n _ a b
   have k1:=qF n1 n2 hin
   by_cases hin2:-15 ≤ pA n a b∧pA n a b ≤ 15∧-15 ≤ pB n a b∧pB n a b ≤ 15
   ·obtain ⟨i,hi,e⟩:=rn 14 (j + 1) (fun i=>c (i + 1)) _ _ e1 (fun i=>by rw [hc (i + 1),show j + (i + 1)=j + 1 + i by omega]) (mM n1 n2 hin2.1 hin2.2.1 hin2.2.2.1 hin2.2.2.2)
    exact ⟨i + 1,by omega,e⟩
   ·have k2:=qF n1 n2 hin2
    have e2:c 2=.p (pA n (pA n a b) (pB n a b)) (pB n (pA n a b) (pB n a b)):=by rw [hc 1,e1]; exact kN n _ _ _
    have hp:((2 ^ (d + 1):Nat):Int)=2 * ((2 ^ d:Nat):Int):=by rw [Nat.pow_succ]; omega
    have h2:(0:Int) ≤ ((2 ^ d:Nat):Int):=Int.natCast_nonneg _
    obtain ⟨m,hm,e⟩:=ih (j + 2) (fun i=>c (i + 2)) _ _ e2 (fun i=>by rw [hc (i + 2),show j + (i + 2)=j + 2 + i by omega]) (by omega)
    exact ⟨m + 2,by omega,e⟩
theorem iX {k:Kd} {n:Int} {j:Nat} {c t:Nm} {T:Nat} (h4:k.four=true) (hn:k.ok n) (hc:c.ty k) (ht:tot k t) (b1:c.re.natAbs ≤ T + 1) (b2:t.re.natAbs ≤ T):(sC k n j (c.add t)).re.natAbs ≤ T + 1:=by
 have hk:k ≠ .pairs:=fun z=>by rw [z] at h4; cases h4
 obtain ⟨x,rfl⟩:=xN hk hc
 obtain ⟨y,rfl⟩:=ht hk
 obtain ⟨a,ea⟩:=sC4 (n:=n) (j:=j) (t:=.i (x + y)) h4
 have e:(Nm.i x).add (.i y)=.i (x + y):=rfl
 rw [e,ea]
 have:=(sA h4 hn ea).1
 simp only [Nm.re] at *
 omega
theorem o8 {k:Kd} {n:Int} {ts:List Nm} {T:Nat} (h4:k.four=true) (hn:k.ok n) (ht:∀ t ∈ ts,tot k t) (hb:∀ t ∈ ts,t.re.natAbs ≤ T):∀ j,(cAt k n ts j).re.natAbs ≤ T + 1
 | 0=>by
  show (k.zero).re.natAbs ≤ _
  rw [z6]
  exact Nat.zero_le _
 | j + 1=>by
  refine iX h4 hn (wg k n ts j) (xQ ht j) (o8 h4 hn ht hb j) ?_
  rw [List.getD_eq_getElem?_getD]
  cases q:ts[j]? with
  | none=>exact Nat.zero_le _
  | some t=>exact hb t (List.mem_of_getElem? q)
theorem j5 {x T:Int} (h1:-T ≤ x) (h2:x ≤ T):x * x ≤ T * T:=by
 rcases Int.le_total 0 x with z | z
 ·exact Int.mul_le_mul h2 h2 z (by omega)
 ·have:=Int.mul_le_mul (show -x ≤ T by omega) (show -x ≤ T by omega) (by omega) (by omega)
  rwa [Int.neg_mul_neg] at this
theorem nP {n a b x y T:Int} (hT:81 ≤ T) (n1:1 ≤ n) (n2:n ≤ 9) (hx1:-T ≤ x) (hx2:x ≤ T) (hy1:-T ≤ y) (hy2:y ≤ T) (h:a * a + b * b ≤ 30 * (T * T)):
  pA n (a + x) (b + y) * pA n (a + x) (b + y) + pB n (a + x) (b + y) * pB n (a + x) (b + y) ≤ 30 * (T * T):=by
 obtain ⟨f,f0,f1,e⟩:=oJ (n:=n) (a:=a + x) (b:=b + y)
 have q1:1 ≤ n * n:=by have:=Int.mul_le_mul n1 n1 (by omega) (by omega); omega
 have q2:n * n ≤ 81:=by have:=Int.mul_le_mul n2 n2 (by omega) (by omega); omega
 generalize pA n (a + x) (b + y) * pA n (a + x) (b + y) + pB n (a + x) (b + y) * pB n (a + x) (b + y)=X at *
 have hX:2 * X ≤ (n * n + 1) * X∨X < 0:=by
  rcases Int.lt_or_le X 0 with z | z
  ·exact .inr z
  ·exact .inl (Int.mul_le_mul_of_nonneg_right (by omega) z)
 have r1:2 * ((a + x - f) * (a + x - f)) ≤ 3 * (a * a) + 6 * ((x - f) * (x - f)):=by
  have:=zQ (a - 2 * (x - f))
  have e1:(a - 2 * (x - f)) * (a - 2 * (x - f))=a * a - 4 * (a * (x - f)) + 4 * ((x - f) * (x - f)):=by grind
  have e2:(a + x - f) * (a + x - f)=a * a + 2 * (a * (x - f)) + (x - f) * (x - f):=by grind
  omega
 have r2:2 * ((b + y) * (b + y)) ≤ 3 * (b * b) + 6 * (y * y):=by
  have:=zQ (b - 2 * y)
  have e1:(b - 2 * y) * (b - 2 * y)=b * b - 4 * (b * y) + 4 * (y * y):=by grind
  have e2:(b + y) * (b + y)=b * b + 2 * (b * y) + y * y:=by grind
  omega
 have s1:(x - f) * (x - f) ≤ (2 * T) * (2 * T):=j5 (by omega) (by omega)
 have s2:y * y ≤ T * T:=j5 hy1 hy2
 have s3:(2 * T) * (2 * T)=4 * (T * T):=by grind
 have s4:=zQ T
 omega
theorem o7 {n:Int} {ts:List Nm} {T:Nat} (hT:81 ≤ T) (hn:Kd.pairs.ok n) (hb:∀ t ∈ ts,t.re.natAbs ≤ T∧t.im.natAbs ≤ T):∀ j,∃ a b,cAt .pairs n ts j=.p a b∧a * a + b * b ≤ 30 * ((T:Int) * T)
 | 0=>⟨0,0,rfl,by have:=zQ (T:Int); omega⟩
 | j + 1=>by
  obtain ⟨a,b,e,h⟩:=o7 hT hn hb j
  have ht:(ts.getD j (.i 0)).re.natAbs ≤ T∧(ts.getD j (.i 0)).im.natAbs ≤ T:=by
   rw [List.getD_eq_getElem?_getD]
   cases q:ts[j]? with
   | none=>exact ⟨Nat.zero_le _,Nat.zero_le _⟩
   | some t=>exact hb t (List.mem_of_getElem? q)
  have ea:(Nm.p a b).add (ts.getD j (.i 0))=.p (a + (ts.getD j (.i 0)).re) (b + (ts.getD j (.i 0)).im):=by
   cases ts.getD j (.i 0) <;> rfl
  refine ⟨_,_,by show sC .pairs n j ((cAt .pairs n ts j).add _)=_; rw [e,ea]; exact kN ..,?_⟩
  have h1:(1:Int) ≤ n:=hn.1
  have h2:n ≤ 9:=hn.2
  exact nP (by omega) h1 h2 (by omega) (by omega) (by omega) (by omega) h
theorem eD {P:Nat→Prop}:∀ (m:Nat),P m→∃ i,i ≤ m∧P i∧∀ l,l < i→¬ P l:=by
 intro m
 induction m using Nat.strongRecOn with
 | ind m ih=>
  intro h
  by_cases hx:∃ l,l < m∧P l
  ·obtain ⟨l,hl,pl⟩:=hx
   obtain ⟨i,hi,h2⟩:=ih l hl pl
   exact ⟨i,by omega,h2⟩
  ·exact ⟨m,Nat.le_refl _,h,fun l hl pl=>hx ⟨l,hl,pl⟩⟩
theorem kL {k:Kd} {n:Int} {ts:List Nm} {b:Nat} (h5:k.five=true) (hn:k.ok n) (ht:∀ t ∈ ts,tot k t) (hb:∀ t ∈ ts,t.re.natAbs ≤ 2 ^ b∧t.im.natAbs ≤ 2 ^ b) (b7:7 ≤ b) (hh:ya k (cAt k n ts ts.length)=true):
  ∃ J,Fin k n ts J∧J ≤ ts.length + 4 * b + 30:=by
 have hpow:2 ^ (b + 1)=2 * 2 ^ b:=by rw [Nat.pow_succ]; omega
 have h128:128 ≤ 2 ^ b:=Nat.pow_le_pow_right (by decide:0 < 2) b7
 have main:∃ m,m ≤ 4 * b + 30∧cAt k n ts (ts.length + m)=k.zero∧∀ i,ya k (cAt k n ts (ts.length + i))=true:=by
  have hc:∀ i,cAt k n ts (ts.length + (i + 1))=sC k n (ts.length + i) (cAt k n ts (ts.length + i)):=fun i=>jP (j:=ts.length + i) (by omega)
  by_cases hk:k=.pairs
  ·subst hk
   obtain ⟨x,y,e,hxy⟩:=o7 (T:=2 ^ b) (by omega) hn hb ts.length
   have hbig:30 * (((2 ^ b:Nat):Int) * ((2 ^ b:Nat):Int)) ≤ ((2 ^ (2 * b + 5):Nat):Int):=by
    have:2 ^ (2 * b + 5)=32 * (2 ^ b * 2 ^ b):=by rw [← Nat.pow_add,show 2 * b + 5=(b + b) + 5 by omega,Nat.pow_add]; omega
    rw [this,← Int.natCast_mul]
    omega
   obtain ⟨m,hm,em⟩:=eS hn.1 hn.2 (2 * b + 5) ts.length (fun i=>cAt .pairs n ts (ts.length + i)) x y e hc (Int.le_trans hxy hbig)
   refine ⟨m,by omega,em,fun i=>?_⟩
   obtain ⟨u,v,e'⟩:=wg .pairs n ts (ts.length + i)
   rw [e']
   rfl
  ·have h4:=uA h5 hk
   obtain ⟨t,et⟩:=xN hk (wg k n ts ts.length)
   rw [et] at hh
   have bd:=o8 h4 hn ht (fun t h=>(hb t h).1) ts.length
   rw [et] at bd
   have bd':t.natAbs ≤ 2 ^ b + 1:=bd
   obtain ⟨m,hm,em⟩:=ir h4 hn (b + 1) ts.length (fun i=>cAt k n ts (ts.length + i)) t et hc hh (by omega)
   refine ⟨m,by omega,em,fun i=>?_⟩
   obtain ⟨a,e',h'⟩:=ql h4 hn (c:=fun i=>cAt k n ts (ts.length + i)) et hc hh i
   have e':cAt k n ts (ts.length + i)=.i a:=e'
   rw [e']
   exact h'
 obtain ⟨m,hm,em,hall⟩:=main
 obtain ⟨i,hi,pi,hl⟩:=eD (P:=fun i=>cAt k n ts (ts.length + i)=k.zero) m em
 refine ⟨ts.length + i,⟨by omega,pi,fun j h1 h2=>?_⟩,by omega⟩
 have e:j=ts.length + (j - ts.length):=by omega
 rw [e]
 exact ⟨hl _ (by omega),hall _⟩
theorem w9 (k:Kd) (n:Int) (ts:List Nm) (j:Nat):(wa k n ts j).length=j:=by unfold wa; rw [List.length_map,List.length_range]
theorem qL {k:Kd} {n:Int} {ts:List Nm} {j i:Nat} (h:i < j):(wa k n ts j).getD i 0=fAt k n ts i:=by
 unfold wa
 rw [List.getD_eq_getElem?_getD,List.getElem?_map,List.getElem?_range h]
 rfl
theorem nZ (k:Kd) (n:Int) (ts:List Nm) (j:Nat):wa k n ts (j + 1)=wa k n ts j ++ [fAt k n ts j]:=by
 unfold wa
 rw [List.range_succ,List.map_append]
 rfl
theorem kd (k:Kd) (n:Int) (ts:List Nm) (j:Nat):crs k n ts (j + 1)=crs k n ts j ++ [cAt k n ts j]:=by
 unfold crs
 rw [List.range_succ,List.map_append]
 rfl
theorem jM (k:Kd) (n:Int) (ts:List Nm) (j:Nat):(crs k n ts j).length=j:=by unfold crs; rw [List.length_map,List.length_range]
def Kd.isF:Kd→Bool
 | .falling=>true
 | _=>false
structure Legal (k:Kd) (n:Int) (r:List Int):Prop where
 fig:∀ p,p < r.length→k.low n p ≤ r.getD p 0∧r.getD p 0 ≤ k.high n p
 fal:k.isF=true→∀ p,p + 1 < r.length→r.getD (p + 1) 0=n→r.getD p 0=0
 end_:r=[]∨r.getD (r.length - 1) 0 ≠ 0
open Classical in
noncomputable def qG (k:Kd) (n:Int) (r:List Int):Bool:=decide (Legal k n r)
open Classical in
theorem rL {k:Kd} {n:Int} {r:List Int} (h:Legal k n r):qG k n r=true:=by unfold qG; exact decide_eq_true h
open Classical in
theorem uy {k:Kd} {n:Int} {r:List Int} (h:¬ Legal k n r):qG k n r=false:=by unfold qG; exact decide_eq_false h
structure Lg (k:Kd) (n:Int) (r:List Int):Prop where
 fig:∀ p,p < r.length→k.low n p ≤ r.getD p 0∧r.getD p 0 ≤ k.high n p
 fal:k.isF=true→∀ p,p + 1 < r.length→r.getD (p + 1) 0=n→r.getD p 0=0
theorem rJ {k:Kd} {n:Int} (h:k.ok n) (p:Nat):k.low n p ≤ 0∧0 ≤ k.high n p:=by
 obtain ⟨h1,h2⟩:=h
 cases k <;> simp only [Kd.lo,Kd.hi,Kd.low,Kd.high] at * <;> first | omega | exact ⟨Int.le_refl _,Int.mul_nonneg (by omega) (by omega)⟩
theorem zD {r:List Int} {z:Int} {p:Nat} (h:p < r.length):(r ++ [z]).getD p 0=r.getD p 0:=by
 rw [List.getD_eq_getElem?_getD,List.getD_eq_getElem?_getD,List.getElem?_append_left h]
theorem getD_snoc_eq {r:List Int} {z:Int}:(r ++ [z]).getD r.length 0=z:=by
 rw [List.getD_eq_getElem?_getD,List.getElem?_append_right (Nat.le_refl _)]
 simp
theorem Lg.nil (k:Kd) (n:Int):Lg k n []:=⟨fun p h=>absurd h (Nat.not_lt_zero _),fun _ p h=>absurd h (Nat.not_lt_zero _)⟩
theorem Lg.pop {k:Kd} {n:Int} {r:List Int} {z:Int} (h:Lg k n (r ++ [z])):Lg k n r:=by
 refine ⟨fun p hp=>?_,fun hk p hp=>?_⟩
 ·have:=h.fig p (by rw [List.length_append]; omega)
  rwa [zD hp] at this
 ·have:=h.fal hk p (by rw [List.length_append]; omega)
  rwa [zD hp,zD (by omega)] at this
theorem Lg.trim {k:Kd} {n:Int}:∀ {r:List Int},Lg k n r→Legal k n (trim r):=by
 intro r
 generalize hl:r.length=m
 induction m generalizing r with
 | zero=>
  intro h
  obtain rfl:r=[]:=List.length_eq_zero_iff.mp hl
  exact ⟨h.fig,h.fal,.inl rfl⟩
 | succ m ih=>
  intro h
  rcases zE r with rfl | ⟨l,z,rfl⟩
  ·cases hl
  ·by_cases hz:z=0
   ·subst hz
    rw [wo]
    exact ih (by rw [List.length_append] at hl; exact Nat.succ.inj hl) h.pop
   ·rw [uw hz]
    exact ⟨h.fig,h.fal,.inr (by rw [List.length_append]; exact fun e=>hz (by rw [← e]; exact getD_snoc_eq.symm))⟩
theorem Lg.push {k:Kd} {n z:Int} {r:List Int} (h:Lg k n r) (hz:k.low n r.length ≤ z∧z ≤ k.high n r.length) (hf:k.isF=true→z=n→r=[]∨r.getD (r.length - 1) 0=0):Lg k n (r ++ [z]):=by
 refine ⟨fun p hp=>?_,fun hk p hp e=>?_⟩
 ·rw [List.length_append] at hp
  rcases (by simp at hp; omega:p < r.length∨p=r.length) with q | q
  ·rw [zD q]; exact h.fig p q
  ·subst q; rw [getD_snoc_eq]; exact hz
 ·rw [List.length_append] at hp
  rcases (by simp at hp; omega:p + 1 < r.length∨p + 1=r.length) with q | q
  ·rw [zD q] at e
   rw [zD (by omega)]
   exact h.fal hk p q e
  ·rw [q,getD_snoc_eq] at e
   rw [zD (by omega)]
   rcases hf hk e with z | z
   ·rw [z] at q; cases q
   ·rw [show r.length - 1=p by omega] at z; exact z
theorem yk {r:List Int} {i j:Nat} {z:Int} (h:i ≠ j):(r.set i z).getD j 0=r.getD j 0:=by
 rw [List.getD_eq_getElem?_getD,List.getD_eq_getElem?_getD,List.getElem?_set_ne h]
theorem yl {r:List Int} {i:Nat} {z:Int} (h:i < r.length):(r.set i z).getD i 0=z:=by
 rw [List.getD_eq_getElem?_getD,List.getElem?_set_self h]
 rfl
theorem Lg.zero {k:Kd} {n:Int} {r:List Int} (hn:k.ok n) (h:Lg k n r):Lg k n (r.set (r.length - 1) 0):=by
 refine ⟨fun p hp=>?_,fun hk p hp e=>?_⟩
 ·rw [List.length_set] at hp
  by_cases q:r.length - 1=p
  ·subst q; rw [yl hp]; exact rJ hn _
  ·rw [yk q]; exact h.fig p hp
 ·rw [List.length_set] at hp
  have n1:n ≠ 0:=by have:=hn.1; cases k <;> simp only [Kd.lo] at this <;> omega
  by_cases q:r.length - 1=p + 1
  ·rw [← q,yl (by omega)] at e; exact absurd e.symm n1
  ·rw [yk q] at e
   rw [yk (by omega)]
   exact h.fal hk p hp e
theorem xu (k:Kd) (n:Int) (ns:List Int):∀ j,yL k n ns j=wF k n (fun i=>ns.getD i 0) j
 | 0=>rfl
 | j + 1=>by unfold yL wF; rw [xu k n ns j]
theorem wR {k:Kd} {n:Int} {f g:Nat→Int}:∀ j,(∀ i,i < j→f i=g i)→wF k n f j=wF k n g j
 | 0,_=>rfl
 | j + 1,h=>by
  unfold wF
  rw [wR j fun i hi=>h i (by omega),h j (by omega)]
theorem qd (k:Kd) (n:Int) (j:Nat):(wt k n j).ty k:=by
 by_cases hk:k=.pairs
 ·subst hk; exact wt2 j
 ·obtain ⟨w,e⟩:=wtI (n:=n) hk j
  rw [e]
  exact wS hk
theorem vH {k:Kd} {t w:Nm} (ht:tot k t) (hw:w.ty k):(t.mul w).ty k:=by
 by_cases hk:k=.pairs
 ·subst hk
  obtain ⟨a,b,rfl⟩:=hw
  cases t <;> exact ⟨_,_,rfl⟩
 ·obtain ⟨a,rfl⟩:=ht hk
  obtain ⟨b,rfl⟩:=xN hk hw
  exact wS hk
theorem z8 {k:Kd} {m:Nm} (h:m.ty k):tot k m:=fun hk=>xN hk h
theorem j4 (k:Kd) (a:Int):tot k (.i a):=fun _=>⟨a,rfl⟩
theorem mn (k:Kd) (n:Int) (f:Nat→Int):∀ j,(wF k n f j).ty k
 | 0=>yK k
 | j + 1=>wM (mn k n f j) (z8 (vH (j4 k _) (qd k n j)))
theorem ml {k:Kd} {n:Int} {ts:List Nm} (ht:∀ t ∈ ts,tot k t):∀ j,(wN k n ts j).ty k
 | 0=>yK k
 | j + 1=>wM (ml ht j) (z8 (vH (xQ ht j) (qd k n j)))
theorem qW {k:Kd} {m w:Nm} (hm:m.ty k) (hw:w.ty k):m.add ((Nm.i 0).mul w)=m:=by
 refine u7 (wM hm (z8 (vH (j4 k 0) hw))) hm ?_ ?_
 ·rw [yt,zH]; show m.re + (0 * w.re - 0 * w.im)=_; rw [Int.zero_mul,Int.zero_mul]; omega
 ·rw [yH,zM]; show m.im + (0 * w.im + 0 * w.re)=_; rw [Int.zero_mul,Int.zero_mul]; omega
theorem mm {k:Kd} {n:Int} {ts:List Nm} (ht:∀ t ∈ ts,tot k t):∀ i,wN k n ts (ts.length + i)=wN k n ts ts.length
 | 0=>rfl
 | i + 1=>by
  have e:ts.getD (ts.length + i) (.i 0)=.i 0:=by rw [List.getD_eq_getElem?_getD,List.getElem?_eq_none (by omega)]; rfl
  show (wN k n ts (ts.length + i)).add ((ts.getD (ts.length + i) (.i 0)).mul (wt k n (ts.length + i)))=_
  rw [e,qW (ml ht _) (qd k n _)]
  exact mm ht i
def s9 (k:Kd) (n:Int) (ts:List Nm):Nm:=wN k n ts ts.length
def zj (k:Kd) (n:Int) (r:List Int):Nm:=yL k n r r.length
theorem Fin.worth {k:Kd} {n:Int} {ts:List Nm} {J:Nat} (F:Fin k n ts J) (h5:k.five=true) (hn:k.ok n) (ht:∀ t ∈ ts,tot k t):zj k n (wa k n ts J)=s9 k n ts:=by
 unfold zj s9
 rw [w9,xu,wR (g:=fAt k n ts) J (fun i hi=>qL hi)]
 have e:wN k n ts J=wN k n ts ts.length:=by
  rw [show J=ts.length + (J - ts.length) by have:=F.le; omega]
  exact mm ht _
 obtain ⟨t1,t2⟩:=fm h5 hn ht J
 rw [F.z,zH,z6,ym] at t1
 rw [F.z,zM,z6,ym] at t2
 rw [← e]
 refine u7 (mn k n _ J) (ml ht J) ?_ ?_
 ·rw [t1,Int.mul_zero,Int.mul_zero]; omega
 ·rw [t2,Int.mul_zero,Int.mul_zero]; omega
theorem s8 {k:Kd} {n:Int} {l:List Int} {z:Int} {j:Nat} (h:j ≤ l.length):yL k n (l ++ [z]) j=yL k n l j:=by
 rw [xu,xu]
 exact wR j fun i hi=>zD (by omega)
theorem xP (k:Kd) (n:Int) (l:List Int) (z:Int):zj k n (l ++ [z])=(zj k n l).add ((Nm.i z).mul (wt k n l.length)):=by
 unfold zj
 rw [List.length_append]
 show (yL k n (l ++ [z]) l.length).add ((Nm.i ((l ++ [z]).getD l.length 0)).mul (wt k n l.length))=_
 rw [s8 (Nat.le_refl _),getD_snoc_eq]
theorem yU (k:Kd) (n:Int) (r:List Int):(zj k n r).ty k:=by
 unfold zj
 rw [xu]
 exact mn k n _ _
theorem vV (k:Kd) (n:Int) (r:List Int):zj k n (trim r)=zj k n r:=by
 generalize hl:r.length=m
 induction m generalizing r with
 | zero=>
  obtain rfl:r=[]:=List.length_eq_zero_iff.mp hl
  rfl
 | succ m ih=>
  rcases zE r with rfl | ⟨l,z,rfl⟩
  ·cases hl
  ·by_cases hz:z=0
   ·subst hz
    rw [wo,ih l (by rw [List.length_append] at hl; exact Nat.succ.inj hl),xP,qW (yU k n l) (qd k n _)]
   ·rw [uw hz]
theorem tu {k:Kd} (h5:k.five=true):k.isF=false:=by cases k <;> first | rfl | cases h5
theorem jx {k:Kd} {n:Int} {ts:List Nm} (h5:k.five=true) (hn:k.ok n) (ht:∀ t ∈ ts,tot k t) (J:Nat):Lg k n (wa k n ts J):=by
 refine ⟨fun p hp=>?_,fun hF=>?_⟩
 ·rw [w9] at hp
  rw [qL hp]
  obtain ⟨a,b,_⟩:=uO (j:=p) h5 hn (wM (wg k n ts p) (xQ ht p))
  exact ⟨a,b⟩
 ·rw [tu h5] at hF
  cases hF
def tO (k:Kd) (n:Int) (ts:List Nm) (J:Nat):List Int:=trim (wa k n ts J)
theorem pf {k:Kd} {n:Int} {ts:List Nm} {J:Nat} (h5:k.five=true) (hn:k.ok n) (ht:∀ t ∈ ts,tot k t):Legal k n (tO k n ts J):=(jx h5 hn ht J).trim
theorem pe {k:Kd} {n:Int} {ts:List Nm} {J:Nat} (F:Fin k n ts J) (h5:k.five=true) (hn:k.ok n) (ht:∀ t ∈ ts,tot k t):zj k n (tO k n ts J)=s9 k n ts:=by
 unfold tO
 rw [vV,F.worth h5 hn ht]
theorem q8 {k:Kd} {n:Int} {m:Nm} (hm:m.ty k) (h5:k.five=true):s9 k n [m]=m:=by
 show (k.zero.add (m.mul (wt k n 0)))=m
 have e:wt k n 0=k.zero.add (.i 1):=by cases k <;> first | rfl | cases h5
 have r1:(wt k n 0).re=1:=by rw [e,yt,z6]; rfl
 have r2:(wt k n 0).im=0:=by rw [e,yH,ym]; rfl
 refine u7 (wM (yK k) (z8 (vH (z8 hm) (qd k n 0)))) hm ?_ ?_
 ·rw [yt,zH,z6,r1,r2,Int.mul_one,Int.mul_zero]; omega
 ·rw [yH,zM,ym,r1,r2,Int.mul_one,Int.mul_zero]; omega
theorem x8 {k:Kd} {m:Nm} (h:ya k m=true):m.ty k:=by
 cases k <;> cases m <;> first | exact ⟨_,rfl⟩ | exact ⟨_,_,rfl⟩ | cases h
theorem mz {k:Kd} {n:Int} {m:Nm} {b:Nat} (h5:k.five=true) (hn:k.ok n) (hm:ya k m=true) (hb:m.re.natAbs ≤ 2 ^ b∧m.im.natAbs ≤ 2 ^ b) (b7:7 ≤ b):∃ J,Fin k n [m] J∧J ≤ 4 * b + 31:=by
 have ht:∀ t ∈ [m],tot k t:=fun t h=>by rw [List.mem_singleton.mp h]; exact z8 (x8 hm)
 have e1:cAt k n [m] 1=sC k n 0 m:=by
  show sC k n 0 (k.zero.add m)=_
  rw [fh (x8 hm)]
 obtain ⟨J,F,hJ⟩:=kL (b:=b) h5 hn ht (fun t h=>by rw [List.mem_singleton.mp h]; exact hb) b7 (by
  show ya k (cAt k n [m] 1)=true
  rw [e1]
  by_cases hk:k=.pairs
  ·subst hk
   obtain ⟨x,y,e⟩:=mF .pairs n 0 m
   rw [e]; rfl
  ·have h4:=uA h5 hk
   obtain ⟨t,rfl⟩:=xN hk (x8 hm)
   obtain ⟨a,ea⟩:=sC4 (n:=n) (j:=0) (t:=.i t) h4
   rw [ea]
   exact (sA h4 hn ea).2.1 hm)
 exact ⟨J,F,by simp at hJ; omega⟩
def wP (k:Kd):DSp:=fun ds Q=>∃ o d m,ds=[o,d]∧u5 d=some m∧Q (.bl (ya k m))
def isP:Nm→Bool
 | .p _ _=>true
 | _=>false
def vT:DSp:=fun ds Q=>∃ d m,ds=[d]∧u5 d=some m∧Q (.bl (isP m))
def ox:DSp:=fun ds Q=>∃ r,ds=[zC r]∧Q (zC (trim r))
def tM:DSp:=fun ds Q=>∃ xs p,ds=[.lst xs,.int p]∧0 ≤ p∧Q (xs.getD p.toNat (.int 0))
def kH (ts:List Nm):Dt:=.lst (ts.map Nm.dt)
def qU (k:Kd) (n:Int) (ts:List Nm) (j:Nat):List Dt:=(crs k n ts j).map Nm.dt
theorem ju (ts:List Nm) (j:Nat):(ts.map Nm.dt).getD j (.int 0)=(ts.getD j (.i 0)).dt:=by
 rw [List.getD_eq_getElem?_getD,List.getD_eq_getElem?_getD,List.getElem?_map]
 cases ts[j]? <;> rfl
theorem gG {k:Kd} {m m':Nm} (h:m.ty k) (h':m'.ty k):eqD m.dt m'.dt=true ↔ m=m':=by
 by_cases hk:k=.pairs
 ·subst hk
  obtain ⟨a,b,rfl⟩:=h
  obtain ⟨c,d,rfl⟩:=h'
  show eqD (.tup [.int a,.int b]) (.tup [.int c,.int d])=true ↔ _
  rw [va,xp,xp,w_,yQ,yQ,Bool.and_eq_true,Bool.and_eq_true,beq_iff_eq,beq_iff_eq]
  constructor
  ·rintro ⟨rfl,rfl,_⟩; rfl
  ·intro e; cases e; exact ⟨rfl,rfl,rfl⟩
 ·obtain ⟨a,rfl⟩:=xN hk h
  obtain ⟨c,rfl⟩:=xN hk h'
  show eqD (.int a) (.int c)=true ↔ _
  rw [yQ,beq_iff_eq]
  constructor
  ·rintro rfl; rfl
  ·intro e; cases e; rfl
def wf (n:Int) (j:Nat):Int:=(wtF n j).2
theorem s_ (n:Int):wf n 0=1:=rfl
theorem mi (n:Int):wf n 1=n + 1:=by show n * 1 + 1=_; rw [Int.mul_one]
theorem q_ (n:Int) (j:Nat):wf n (j + 2)=n * wf n (j + 1) + wf n j:=rfl
theorem zX {n:Int} (h:1 ≤ n):∀ j,1 ≤ wf n j∧wf n j ≤ wf n (j + 1)
 | 0=>by rw [s_,mi]; omega
 | j + 1=>by
  obtain ⟨a,b⟩:=zX h j
  have:wf n (j + 1) ≤ n * wf n (j + 1):=by
   have:=Int.mul_le_mul_of_nonneg_right h (show 0 ≤ wf n (j + 1) by omega)
   omega
  rw [q_]
  omega
theorem sv {n:Int} (h:1 ≤ n):∀ b:Nat,((2 ^ b:Nat):Int) ≤ wf n (2 * b)
 | 0=>by rw [show 2 * 0=0 from rfl,s_]; decide
 | b + 1=>by
  have ih:=sv h b
  obtain ⟨a1,b1⟩:=zX h (2 * b)
  have:wf n (2 * b + 1) ≤ n * wf n (2 * b + 1):=by
   have:=Int.mul_le_mul_of_nonneg_right h (show 0 ≤ wf n (2 * b + 1) by omega)
   omega
  have e:wf n (2 * (b + 1))=n * wf n (2 * b + 1) + wf n (2 * b):=q_ n (2 * b)
  have hp:((2 ^ (b + 1):Nat):Int)=2 * ((2 ^ b:Nat):Int):=by rw [Nat.pow_succ]; omega
  omega
theorem mh {n:Int} (h:1 ≤ n) (h9:n ≤ 9):∀ j,wf n j ≤ ((2 ^ (4 * j):Nat):Int)
 | 0=>by rw [s_]; decide
 | j + 1=>by
  have ih:=mh h h9 j
  have p:=zX h j
  have hp:((2 ^ (4 * (j + 1)):Nat):Int)=16 * ((2 ^ (4 * j):Nat):Int):=by rw [show 4 * (j + 1)=4 * j + 4 by omega,Nat.pow_add]; omega
  have k:n * wf n j ≤ 9 * wf n j:=Int.mul_le_mul_of_nonneg_right h9 (by omega)
  have e:wf n (j + 1) ≤ n * wf n j + wf n j:=by
   cases j with
   | zero=>rw [mi,s_]; omega
   | succ q=>rw [q_]; have:=(zX h q).2; omega
  omega
theorem nG (g:Nat→Int) (L:Nat):((List.range L).map fun q=>g (L - 1 - q)).reverse=(List.range L).map g:=by
 apply List.ext_getElem?
 intro i
 by_cases hi:i < L
 ·rw [List.getElem?_reverse (by rw [List.length_map,List.length_range]; exact hi),List.length_map,List.length_range,List.getElem?_map,List.getElem?_range (by omega),List.getElem?_map,List.getElem?_range hi]
  show some (g (L - 1 - (L - 1 - i)))=some (g i)
  rw [show L - 1 - (L - 1 - i)=i by omega]
 ·rw [List.getElem?_eq_none (by rw [List.length_reverse,List.length_map,List.length_range]; omega),List.getElem?_eq_none (by rw [List.length_map,List.length_range]; omega)]
def rs (n m:Int) (L:Nat):Nat→Int
 | 0=>m
 | i + 1=>(rs n m L i).fmod (wf n (L - 1 - i))
def gs (n m:Int) (L:Nat) (p:Nat):Int:=(rs n m L (L - 1 - p)).fdiv (wf n p)
theorem n0 (a b:Int):a=b * a.fdiv b + a.fmod b:=by have:=Int.fmod_def a b; omega
theorem oE {n m:Int} {L:Nat} (h:1 ≤ n) (h0:0 ≤ m) (hL:m < wf n L):∀ i,i ≤ L→0 ≤ rs n m L i∧rs n m L i < wf n (L - i)
 | 0,_=>⟨h0,hL⟩
 | i + 1,hi=>by
  have p:=(zX h (L - 1 - i)).1
  have e:L - (i + 1)=L - 1 - i:=by omega
  rw [e]
  exact ⟨Int.fmod_nonneg_of_pos _ (by omega),Int.fmod_lt_of_pos _ (by omega)⟩
theorem lA {n m:Int} {L p:Nat} (hp:p < L):rs n m L (L - (p + 1))=wf n p * gs n m L p + rs n m L (L - p):=by
 have e1:L - (p + 1)=L - 1 - p:=by omega
 have e2:L - p=(L - 1 - p) + 1:=by omega
 have e3:L - 1 - (L - 1 - p)=p:=by omega
 rw [e1,e2]
 show _=wf n p * (rs n m L (L - 1 - p)).fdiv (wf n p) + (rs n m L (L - 1 - p)).fmod (wf n (L - 1 - (L - 1 - p)))
 rw [e3]
 exact n0 _ _
theorem p5 {n m:Int} {L p:Nat} (h:1 ≤ n) (h0:0 ≤ m) (hL:m < wf n L) (hp:p < L):0 ≤ gs n m L p∧gs n m L p ≤ n∧(gs n m L p=n→1 ≤ p→rs n m L (L - p) < wf n (p - 1))∧(gs n m L p=n→p=0→True):=by
 have e:=lA (n:=n) (m:=m) hp
 obtain ⟨a1,a2⟩:=oE h h0 hL (L - (p + 1)) (by omega)
 obtain ⟨b1,b2⟩:=oE h h0 hL (L - p) (by omega)
 rw [show L - (L - (p + 1))=p + 1 by omega] at a2
 rw [show L - (L - p)=p by omega] at b2
 have wp:=(zX h p).1
 generalize gs n m L p=g at *
 have g0:0 ≤ g:=by
  rcases Int.lt_or_le g 0 with z | z
  ·have:=Int.mul_le_mul_of_nonneg_left (show g ≤ -1 by omega) (show 0 ≤ wf n p by omega)
   omega
  ·exact z
 have gn:g ≤ n:=by
  rcases Int.lt_or_le n g with z | z
  ·have k:=Int.mul_le_mul_of_nonneg_left (show n + 1 ≤ g by omega) (show 0 ≤ wf n p by omega)
   have k2:wf n p * (n + 1)=n * wf n p + wf n p:=by rw [Int.mul_add,Int.mul_one,Int.mul_comm]
   have k3:wf n (p + 1) ≤ n * wf n p + wf n p:=by
    cases p with
    | zero=>rw [mi,s_]; omega
    | succ q=>rw [q_]; have:=(zX h q).2; omega
   omega
  ·exact z
 refine ⟨g0,gn,fun eg h1=>?_,fun _ _=>trivial⟩
 subst eg
 obtain ⟨q,rfl⟩:∃ q,p=q + 1:=⟨p - 1,by omega⟩
 rw [q_,Int.mul_comm] at a2
 show _ < wf g q
 omega
theorem qJ {n m:Int} {L:Nat} (h:1 ≤ n) (h0:0 ≤ m) (hL:m < wf n L):∀ j,j ≤ L→wF .falling n (gs n m L) j=.i (rs n m L (L - j))
 | 0,_=>by
  show Nm.i 0=_
  have:rs n m L L=0:=by
   obtain ⟨a,b⟩:=oE h h0 hL L (Nat.le_refl _)
   rw [show L - L=0 by omega,s_] at b
   omega
  rw [show L - 0=L by omega,this]
 | j + 1,hj=>by
  unfold wF
  rw [qJ h h0 hL j (by omega),lA (by omega:j < L)]
  show Nm.i (_ + gs n m L j * wf n j)=_
  rw [Int.mul_comm,Int.add_comm]
def sN (n m:Int):List Int:=(List.range (2 * Builtin.Int.intBits m)).map (gs n m (2 * Builtin.Int.intBits m))
def tw (n m:Int):List Int:=trim (sN n m)
theorem jQ (m:Int):m.natAbs < 2 ^ Builtin.Int.intBits m:=(intBits_le_iff).mp (Nat.le_refl _)
theorem oS {n m:Int} (h:1 ≤ n) (h0:0 ≤ m):m < wf n (2 * Builtin.Int.intBits m):=by
 have a:=sv h (Builtin.Int.intBits m)
 have b:=jQ m
 omega
theorem wZ {f:Nat→Int} {L p:Nat} (h:p < L):((List.range L).map f).getD p 0=f p:=by
 rw [List.getD_eq_getElem?_getD,List.getElem?_map,List.getElem?_range h]
 rfl
theorem lJ {n m:Int} (hn:Kd.falling.ok n) (h0:0 ≤ m):Lg .falling n (sN n m):=by
 have h1:1 ≤ n:=hn.1
 have hL:=oS h1 h0
 unfold sN
 generalize 2 * Builtin.Int.intBits m=L at *
 refine ⟨fun p hp=>?_,fun _ p hp e=>?_⟩
 ·rw [List.length_map,List.length_range] at hp
  rw [wZ hp]
  obtain ⟨a,b,_⟩:=p5 h1 h0 hL hp
  exact ⟨a,b⟩
 ·rw [List.length_map,List.length_range] at hp
  rw [wZ hp] at e
  rw [wZ (by omega)]
  have c:=(p5 h1 h0 hL hp).2.2.1 e (by omega)
  have e2:=lA (n:=n) (m:=m) (show p < L by omega)
  obtain ⟨a,_⟩:=p5 h1 h0 hL (show p < L by omega)
  obtain ⟨b1,b2⟩:=oE h1 h0 hL (L - p) (by omega)
  have wp:=(zX h1 p).1
  have c:rs n m L (L - (p + 1)) < wf n p:=c
  rcases Int.lt_or_le 0 (gs n m L p) with z | z
  ·have:=Int.mul_le_mul_of_nonneg_left (show 1 ≤ gs n m L p by omega) (show 0 ≤ wf n p by omega)
   omega
  ·omega
theorem qN {n m:Int} (hn:Kd.falling.ok n) (h0:0 ≤ m):Legal .falling n (tw n m):=(lJ hn h0).trim
theorem qM {n m:Int} (hn:Kd.falling.ok n) (h0:0 ≤ m):zj .falling n (tw n m)=.i m:=by
 have h1:1 ≤ n:=hn.1
 have hL:=oS h1 h0
 unfold tw
 rw [vV]
 unfold zj sN
 rw [List.length_map,List.length_range]
 generalize 2 * Builtin.Int.intBits m=L at *
 rw [xu,wR (g:=gs n m L) L (fun i hi=>wZ hi),qJ h1 h0 hL L (Nat.le_refl _),show L - L=0 by omega]
 rfl
theorem n4 (n m:Int):(tw n m).length ≤ 2 * Builtin.Int.intBits m:=by
 refine Nat.le_trans (uM _) ?_
 unfold sN
 rw [List.length_map,List.length_range]
 exact Nat.le_refl _
def Wr (k:Kd) (n:Int) (m:Nm) (r:List Int):Prop:=match k with
 | .falling=>r=tw n m.re∧Builtin.Int.intBits m.re ≤ 500
 | k=>∃ J,J ≤ 50000∧Fin k n [m] J∧r=tO k n [m] J
theorem rq {k:Kd} {m:Nm} (hm:ya k m=true):∀ t ∈ [m],tot k t:=fun t h=>by rw [List.mem_singleton.mp h]; exact z8 (x8 hm)
theorem jZ {k:Kd} {n:Int} {m:Nm} {b:Nat} (hn:k.ok n) (hm:ya k m=true) (hb:m.re.natAbs ≤ 2 ^ b∧m.im.natAbs ≤ 2 ^ b) (b7:7 ≤ b) (b4:b ≤ 400):∃ r,Wr k n m r∧r.length ≤ 4 * b + 31:=by
 by_cases hk:k=.falling
 ·subst hk
  have hbit:Builtin.Int.intBits m.re ≤ b + 1:=intBits_le_iff.mpr (by rw [Nat.pow_succ]; have:=Nat.two_pow_pos b; omega)
  exact ⟨_,⟨rfl,by omega⟩,by have:=n4 n m.re; omega⟩
 ·have h5:k.five=true:=by cases k <;> first | rfl | exact absurd rfl hk
  obtain ⟨J,F,hJ⟩:=mz h5 hn hm hb b7
  refine ⟨tO k n [m] J,?_,?_⟩
  ·cases k <;> first | exact ⟨J,by omega,F,rfl⟩ | exact absurd rfl hk
  ·unfold tO
   have:=uM (wa k n [m] J)
   rw [w9] at this
   omega
theorem qe {k:Kd} {n:Int} {m:Nm} {r:List Int} (hn:k.ok n) (hm:ya k m=true) (h:Wr k n m r):Legal k n r:=by
 by_cases hk:k=.falling
 ·subst hk
  obtain ⟨a,rfl⟩:∃ a,m=.i a:=x8 hm
  obtain ⟨rfl,_⟩:=h
  exact qN hn (of_decide_eq_true hm)
 ·have h5:k.five=true:=by cases k <;> first | rfl | exact absurd rfl hk
  obtain ⟨J,_,F,rfl⟩:∃ J,J ≤ 50000∧Fin k n [m] J∧r=tO k n [m] J:=by cases k <;> first | exact h | exact absurd rfl hk
  exact pf h5 hn (rq hm)
theorem mf {k:Kd} {n:Int} {m:Nm} {r:List Int} (hn:k.ok n) (hm:ya k m=true) (h:Wr k n m r):zj k n r=m:=by
 by_cases hk:k=.falling
 ·subst hk
  obtain ⟨a,rfl⟩:∃ a,m=.i a:=x8 hm
  obtain ⟨rfl,_⟩:=h
  exact qM hn (of_decide_eq_true hm)
 ·have h5:k.five=true:=by cases k <;> first | rfl | exact absurd rfl hk
  obtain ⟨J,_,F,rfl⟩:∃ J,J ≤ 50000∧Fin k n [m] J∧r=tO k n [m] J:=by cases k <;> first | exact h | exact absurd rfl hk
  rw [pe F h5 hn (rq hm),q8 (x8 hm) h5]
def Vt (k:Kd) (n:Int):Nat→List Int→Nm
 | _,[]=>k.zero
 | j,f :: r=>(Nm.i f).add ((k.ratN n j).mul (Vt k n (j + 1) r))
theorem mJ {k:Kd} {n:Int} {j:Nat} (h5:k.five=true):(k.ratN n j).ty k:=by
 cases k <;> first | exact ⟨_,rfl⟩ | exact ⟨_,_,rfl⟩ | cases h5
theorem qI {k:Kd} {f:Int} {m:Nm} (h:m.ty k):((Nm.i f).add m).ty k:=by
 by_cases hk:k=.pairs
 ·subst hk
  obtain ⟨a,b,rfl⟩:=h
  exact ⟨_,_,rfl⟩
 ·obtain ⟨a,rfl⟩:=xN hk h
  exact wS hk
theorem qX {k:Kd} {n:Int} (h5:k.five=true):∀ (r:List Int) (j:Nat),(Vt k n j r).ty k
 | [],_=>yK k
 | _ :: r,j=>qI (vH (z8 (mJ h5)) (qX h5 r (j + 1)))
theorem kG {P1 P2 w1 w2 f r1 r2 v1 v2:Int}:P1 + (f * w1 - 0 * w2) + ((r1 * w1 - r2 * w2) * v1 - (r1 * w2 + r2 * w1) * v2)=P1 + (w1 * (f + (r1 * v1 - r2 * v2)) - w2 * (0 + (r1 * v2 + r2 * v1)))∧P2 + (f * w2 + 0 * w1) + ((r1 * w1 - r2 * w2) * v2 + (r1 * w2 + r2 * w1) * v1)=P2 + (w1 * (0 + (r1 * v2 + r2 * v1)) + w2 * (f + (r1 * v1 - r2 * v2))):=by
 constructor <;> grind
theorem qg {k:Kd} {n:Int} (h5:k.five=true):∀ (r pre:List Int),
  (zj k n (pre ++ r)).re=(zj k n pre).re + ((wt k n pre.length).mul (Vt k n pre.length r)).re∧(zj k n (pre ++ r)).im=(zj k n pre).im + ((wt k n pre.length).mul (Vt k n pre.length r)).im
 | [],pre=>by
  rw [List.append_nil]
  unfold Vt
  rw [zH,zM,z6,ym,Int.mul_zero,Int.mul_zero]
  exact ⟨by omega,by omega⟩
 | f :: r,pre=>by
  obtain ⟨i1,i2⟩:=qg h5 r (pre ++ [f])
  have e:pre ++ f :: r=(pre ++ [f]) ++ r:=by rw [List.append_assoc]; rfl
  have el:(pre ++ [f]).length=pre.length + 1:=by rw [List.length_append]; rfl
  have ev:Vt k n pre.length (f :: r)=(Nm.i f).add ((k.ratN n pre.length).mul (Vt k n (pre.length + 1) r)):=rfl
  rw [e,i1,i2,el,xP,z7 h5,ev]
  simp only [zH,zM,yt,yH]
  have fr:(Nm.i f).re=f:=rfl
  have fi:(Nm.i f).im=0:=rfl
  rw [fr,fi]
  exact kG
theorem qh {k:Kd} {n:Int} (h5:k.five=true) (r:List Int):zj k n r=Vt k n 0 r:=by
 obtain ⟨a,b⟩:=qg (n:=n) h5 r []
 have e:wt k n 0=k.zero.add (.i 1):=by cases k <;> first | rfl | cases h5
 have r1:(wt k n 0).re=1:=by rw [e,yt,z6]; rfl
 have r2:(wt k n 0).im=0:=by rw [e,yH,ym]; rfl
 have z1:(zj k n []).re=0:=z6 k
 have z2:(zj k n []).im=0:=ym k
 simp only [List.length_nil,List.nil_append] at a b
 rw [zH,r1,r2,z1] at a
 rw [zM,r1,r2,z2] at b
 refine u7 (yU k n r) (qX h5 r 0) ?_ ?_
 ·rw [a]; omega
 ·rw [b]; omega
theorem sD {lo n r t f c:Int} (hr:r=n∨r=-n) (h1:lo ≤ f) (h2:f ≤ lo + n - 1) (h3:lo ≤ t) (h4:t ≤ lo + n - 1) (e:f + c * r=t):c=0∧f=t:=by
 have hc:c=0:=by
  rcases (by omega:c=0∨1 ≤ c∨c ≤ -1) with h | h | h
  ·exact h
  ·rcases hr with rfl | rfl
   ·have:=Int.mul_le_mul_of_nonneg_right h (show 0 ≤ r by omega)
    omega
   ·have:=Int.mul_le_mul_of_nonneg_right h (show 0 ≤ n by omega)
    rw [Int.mul_neg] at e
    omega
  ·rcases hr with rfl | rfl
   ·have:=Int.mul_le_mul_of_nonneg_right h (show 0 ≤ r by omega)
    omega
   ·have:=Int.mul_le_mul_of_nonneg_right h (show 0 ≤ n by omega)
    rw [Int.mul_neg] at e
    omega
 subst hc
 omega
theorem sG {k:Kd} {n f g:Int} {j:Nat} {c d:Nm} (h5:k.five=true) (hn:k.ok n) (f1:k.low n j ≤ f) (f2:f ≤ k.high n j) (g1:k.low n j ≤ g) (g2:g ≤ k.high n j) (tc:c.ty k) (td:d.ty k)
  (e:(Nm.i f).add ((k.ratN n j).mul c)=(Nm.i g).add ((k.ratN n j).mul d)):f=g∧c=d:=by
 have e1:=congrArg Nm.re e
 have e2:=congrArg Nm.im e
 rw [yt,yt,zH,zH] at e1
 rw [yH,yH,zM,zM] at e2
 by_cases hk:k=.pairs
 ·subst hk
  obtain ⟨a,b,rfl⟩:=tc
  obtain ⟨x,y,rfl⟩:=td
  simp only [Kd.ratN,Nm.re,Nm.im,Kd.low,Kd.high] at *
  have q1:f - n * (a - x) - (b - y)=g:=by rw [Int.mul_sub]; simp only [Int.neg_mul,Int.one_mul] at e1; omega
  have q2:(a - x) - n * (b - y)=0:=by rw [Int.mul_sub]; simp only [Int.neg_mul,Int.one_mul] at e2; omega
  generalize hu:a - x=u at *
  generalize hv:b - y=v at *
  have eu:u=n * v:=by omega
  rw [eu] at q1
  have e3:f + (-v) * (n * n + 1)=g:=by
   have r1:n * (n * v)=v * (n * n):=by grind
   have r2:(-v) * (n * n + 1)=-(v * (n * n)) - v:=by grind
   omega
  obtain ⟨h1,h2⟩:=sD (lo:=0) (n:=n * n + 1) (.inl rfl) f1 (by omega) g1 (by omega) e3
  have v0:v=0:=by omega
  rw [v0,Int.mul_zero] at eu
  exact ⟨h2,by rw [show a=x by omega,show b=y by omega]⟩
 ·have h4:=uA h5 hk
  obtain ⟨a,rfl⟩:=xN hk tc
  obtain ⟨x,rfl⟩:=xN hk td
  have eR:k.ratN n j=.i (k.rat n j):=by cases k <;> first | rfl | exact absurd rfl hk
  rw [eR] at e1
  obtain ⟨z1,z2⟩:=rb h4 n j
  have q:f + (a - x) * k.rat n j=g:=by
   have e1':f + (k.rat n j * a - 0 * 0)=g + (k.rat n j * x - 0 * 0):=e1
   rw [Int.sub_mul,Int.mul_comm a,Int.mul_comm x]
   omega
  obtain ⟨h1,h2⟩:=sD (lo:=k.low n j) (n:=k.size n j) z2 f1 (by omega) g1 (by omega) q
  exact ⟨h2,by rw [show a=x by omega]⟩
def Figs (k:Kd) (n:Int) (j:Nat) (r:List Int):Prop:=∀ p,p < r.length→k.low n ((j + p:Nat):Int) ≤ r.getD p 0∧r.getD p 0 ≤ k.high n ((j + p:Nat):Int)
theorem Figs.cons {k:Kd} {n f:Int} {j:Nat} {r:List Int} (h:Figs k n j (f :: r)):(k.low n j ≤ f∧f ≤ k.high n j)∧Figs k n (j + 1) r:=by
 refine ⟨h 0 (by simp),fun p hp=>?_⟩
 have:=h (p + 1) (by simp; exact hp)
 rw [show j + (p + 1)=j + 1 + p by omega] at this
 exact this
theorem g9 {k:Kd} {n:Int} (h5:k.five=true) (hn:k.ok n):∀ (r s:List Int) (j:Nat),Figs k n j r→Figs k n j s→Vt k n j r=Vt k n j s→∀ p,r.getD p 0=s.getD p 0:=by
 have zz:∀ j:Nat,k.zero=(Nm.i 0).add ((k.ratN n j).mul k.zero):=fun j=>by
  refine u7 (yK k) (qI (vH (z8 (mJ h5)) (yK k))) ?_ ?_
  ·rw [yt,zH,z6,ym,Int.mul_zero,Int.mul_zero]; rfl
  ·rw [yH,zM,z6,ym,Int.mul_zero,Int.mul_zero]; rfl
 have nilc:∀ (s:List Int) (j:Nat),Figs k n j s→k.zero=Vt k n j s→∀ p,(0:Int)=s.getD p 0:=by
  intro s
  induction s with
  | nil=>intro j _ _ p; rfl
  | cons g s ih=>
   intro j hs e p
   obtain ⟨⟨g1,g2⟩,hs'⟩:=hs.cons
   obtain ⟨l1,l2⟩:=rJ hn j
   rw [zz j] at e
   obtain ⟨q1,q2⟩:=sG h5 hn l1 l2 g1 g2 (yK k) (qX h5 s (j + 1)) e
   cases p with
   | zero=>exact q1
   | succ p=>exact ih (j + 1) hs' q2 p
 intro r
 induction r with
 | nil=>intro s j _ hs e p; exact nilc s j hs e p
 | cons f r ih=>
  intro s j hr hs e p
  cases s with
  | nil=>exact (nilc (f :: r) j hr e.symm p).symm
  | cons g s=>
   obtain ⟨⟨f1,f2⟩,hr'⟩:=hr.cons
   obtain ⟨⟨g1,g2⟩,hs'⟩:=hs.cons
   obtain ⟨q1,q2⟩:=sG h5 hn f1 f2 g1 g2 (qX h5 r (j + 1)) (qX h5 s (j + 1)) e
   cases p with
   | zero=>exact q1
   | succ p=>exact ih s (j + 1) hr' hs' q2 p
theorem qK {r:List Int} {p:Nat} (h:r.length ≤ p):r.getD p 0=0:=by rw [List.getD_eq_getElem?_getD,List.getElem?_eq_none h]; rfl
theorem kP {r s:List Int} (h:∀ p,r.getD p 0=s.getD p 0) (hr:r=[]∨r.getD (r.length - 1) 0 ≠ 0) (hs:s=[]∨s.getD (s.length - 1) 0 ≠ 0):r=s:=by
 have hl:r.length=s.length:=by
  rcases (by omega:r.length=s.length∨r.length < s.length∨s.length < r.length) with z | z | z
  ·exact z
  ·rcases hs with hs | hs
   ·rw [hs] at z; simp at z
   ·exact absurd (by rw [← h]; exact qK (by omega)) hs
  ·rcases hr with hr | hr
   ·rw [hr] at z; simp at z
   ·exact absurd (by rw [h]; exact qK (by omega)) hr
 apply List.ext_getElem hl
 intro i h1 h2
 have:=h i
 rw [List.getD_eq_getElem?_getD,List.getD_eq_getElem?_getD,List.getElem?_eq_getElem h1,List.getElem?_eq_getElem h2] at this
 exact this
theorem yj (n:Int) (l:List Int) (z:Int):(zj .falling n (l ++ [z])).re=(zj .falling n l).re + z * wf n l.length:=by
 rw [xP,yt]
 rfl
theorem Lg.nonneg {n:Int} {r:List Int} (h:Lg .falling n r) (h1:1 ≤ n):0 ≤ (zj .falling n r).re:=by
 generalize hl:r.length=m
 induction m generalizing r with
 | zero=>obtain rfl:r=[]:=List.length_eq_zero_iff.mp hl; exact Int.le_refl 0
 | succ m ih=>
  rcases zE r with rfl | ⟨l,z,rfl⟩
  ·cases hl
  ·have hz:=h.fig l.length (by rw [List.length_append]; simp)
   rw [getD_snoc_eq] at hz
   have hz0:0 ≤ z:=hz.1
   have:=ih h.pop (by rw [List.length_append] at hl; exact Nat.succ.inj hl)
   rw [yj]
   have:=Int.mul_nonneg hz0 (show 0 ≤ wf n l.length by have:=(zX h1 l.length).1; omega)
   omega
theorem Lg.lt {n:Int} (h1:1 ≤ n):∀ (m:Nat) (r:List Int),r.length=m→Lg .falling n r→(zj .falling n r).re < wf n m:=by
 intro m
 induction m using Nat.strongRecOn with
 | ind m ih=>
  intro r hl h
  rcases zE r with rfl | ⟨l,z,rfl⟩
  ·subst hl; show (0:Int) < wf n 0; rw [s_]; decide
  ·have el:l.length + 1=m:=by rw [List.length_append] at hl; exact hl
   have hz:=h.fig l.length (by rw [List.length_append]; simp)
   rw [getD_snoc_eq] at hz
   have hz0:0 ≤ z:=hz.1
   have hz1:z ≤ n:=hz.2
   have il:=ih l.length (by omega) l rfl h.pop
   have wp:=(zX h1 l.length).1
   rw [yj,← el]
   rcases (by omega:z ≤ n - 1∨z=n) with c | c
   ·have k1:=Int.mul_le_mul_of_nonneg_right c (show 0 ≤ wf n l.length by omega)
    have k2:(n - 1) * wf n l.length=n * wf n l.length - wf n l.length:=by rw [Int.sub_mul,Int.one_mul]
    have k3:n * wf n l.length < wf n (l.length + 1):=by
     cases l.length with
     | zero=>rw [mi,s_]; omega
     | succ q=>rw [q_]; have:=(zX h1 q).1; omega
    omega
   ·subst c
    rcases zE l with rfl | ⟨l',y,rfl⟩
    ·show (0:Int) + z * wf z 0 < wf z 1
     rw [s_,mi]; omega
    ·have hy:=h.fal rfl l'.length (by rw [List.length_append,List.length_append]; simp) (by
      have:=getD_snoc_eq (r:=l' ++ [y]) (z:=z)
      rw [List.length_append] at this
      exact this)
     rw [zD (by rw [List.length_append]; simp),getD_snoc_eq] at hy
     subst hy
     have i2:=ih l'.length (by rw [List.length_append] at el; simp at el; omega) l' rfl h.pop.pop
     rw [yj,Int.zero_mul,Int.add_zero,List.length_append]
     show _ + z * wf z (l'.length + 1) < wf z (l'.length + 2)
     rw [q_]
     omega
theorem sy {n:Int} (h1:1 ≤ n):∀ (m:Nat) (r s:List Int),r.length=m→s.length=m→Lg .falling n r→Lg .falling n s→(zj .falling n r).re=(zj .falling n s).re→r=s
 | 0,r,s,hr,hs,_,_,_=>by rw [List.length_eq_zero_iff.mp hr,List.length_eq_zero_iff.mp hs]
 | m + 1,r,s,hr,hs,Lr,Ls,e=>by
  rcases zE r with rfl | ⟨l,z,rfl⟩
  ·cases hr
  rcases zE s with rfl | ⟨l',z',rfl⟩
  ·cases hs
  have e1:l.length=m:=by rw [List.length_append] at hr; exact Nat.succ.inj hr
  have e2:l'.length=m:=by rw [List.length_append] at hs; exact Nat.succ.inj hs
  rw [yj,yj,e1,e2] at e
  have a1:=Lr.pop.nonneg h1
  have a2:=Lr.pop.lt h1 m l e1
  have b1:=Ls.pop.nonneg h1
  have b2:=Ls.pop.lt h1 m l' e2
  have wp:=(zX h1 m).1
  have hz:z=z':=by
   rcases (by omega:z=z'∨z + 1 ≤ z'∨z' + 1 ≤ z) with c | c | c
   ·exact c
   ·have:=Int.mul_le_mul_of_nonneg_right c (show 0 ≤ wf n m by omega)
    rw [Int.add_mul,Int.one_mul] at this
    omega
   ·have:=Int.mul_le_mul_of_nonneg_right c (show 0 ≤ wf n m by omega)
    rw [Int.add_mul,Int.one_mul] at this
    omega
  subst hz
  rw [sy h1 m l l' e1 e2 Lr.pop Ls.pop (by omega)]
theorem Legal.lg {k:Kd} {n:Int} {r:List Int} (h:Legal k n r):Lg k n r:=⟨h.fig,h.fal⟩
theorem Legal.geF {n:Int} {r:List Int} (h:Legal .falling n r) (h1:1 ≤ n) (hr:r ≠ []):wf n (r.length - 1) ≤ (zj .falling n r).re:=by
 rcases zE r with rfl | ⟨l,z,rfl⟩
 ·exact absurd rfl hr
 ·have hz:=h.fig l.length (by rw [List.length_append]; simp)
  rw [getD_snoc_eq] at hz
  have hz0:0 ≤ z:=hz.1
  have el:(l ++ [z]).length - 1=l.length:=by rw [List.length_append]; rfl
  rcases h.end_ with c | c
  ·exact absurd c hr
  ·rw [el,getD_snoc_eq] at c
   rw [yj,el]
   have a1:=h.lg.pop.nonneg h1
   have wp:=(zX h1 l.length).1
   have:=Int.mul_le_mul_of_nonneg_right (show 1 ≤ z by omega) (show 0 ≤ wf n l.length by omega)
   omega
theorem oC {n:Int} (h1:1 ≤ n) {i j:Nat} (h:i ≤ j):wf n i ≤ wf n j:=by
 induction h with
 | refl=>exact Int.le_refl _
 | step _ ih=>exact Int.le_trans ih (zX h1 _).2
theorem dR {k:Kd} {n:Int} {r s:List Int} (hn:k.ok n) (hr:Legal k n r) (hs:Legal k n s) (e:zj k n r=zj k n s):r=s:=by
 by_cases hk:k=.falling
 ·subst hk
  have h1:1 ≤ n:=hn.1
  have e':=congrArg Nm.re e
  rcases (by omega:r.length=s.length∨r.length < s.length∨s.length < r.length) with z | z | z
  ·exact sy h1 _ r s z rfl hr.lg hs.lg e'
  ·have a:=hr.lg.lt h1 _ r rfl
   have b:=hs.geF h1 (by intro q; rw [q] at z; simp at z)
   have:=oC h1 (show r.length ≤ s.length - 1 by omega)
   omega
  ·have a:=hs.lg.lt h1 _ s rfl
   have b:=hr.geF h1 (by intro q; rw [q] at z; simp at z)
   have:=oC h1 (show s.length ≤ r.length - 1 by omega)
   omega
 ·have h5:k.five=true:=by cases k <;> first | rfl | exact absurd rfl hk
  rw [qh h5,qh h5] at e
  exact kP (g9 h5 hn r s 0 (fun p hp=>by rw [Nat.zero_add]; exact hr.fig p hp) (fun p hp=>by rw [Nat.zero_add]; exact hs.fig p hp) e) hr.end_ hs.end_
theorem wt7 {k:Kd} {n:Int} (hn:k.ok n) (hk:k ≠ .pairs) {j:Nat} (hj:j ≤ 60):(wt k n j).re.natAbs ≤ 2 ^ (7 * j):=by
 obtain ⟨b1,b2⟩:=xL hn
 by_cases hf:k=.falling
 ·subst hf
  have:=mh b1 (by have:=hn.2; exact this) j
  have p:=(zX b1 j).1
  have h2:2 ^ (4 * j) ≤ 2 ^ (7 * j):=Nat.pow_le_pow_right (by decide) (by omega)
  show (wf n j).natAbs ≤ _
  omega
 ·have h4:k.four=true:=by cases k <;> first | rfl | exact absurd rfl hk | exact absurd rfl hf
  have h5:k.five=true:=by cases k <;> first | rfl | cases h4
  induction j with
  | zero=>
   have e:wt k n 0=.i 1:=by cases k <;> first | rfl | exact absurd rfl hf | exact absurd rfl hk
   rw [e]
   exact Nat.le_refl 1
  | succ j ih=>
   have i:=ih (by omega)
   rw [z7 h5,zH]
   have hr1:(k.ratN n j).im=0:=by cases k <;> first | rfl | cases h4
   have hr2:(k.ratN n j).re.natAbs ≤ 128:=by cases k <;> cases h4 <;> simp only [Kd.ratN,Kd.rat,Nm.re] <;> omega
   rw [hr1,Int.zero_mul,Int.sub_zero,Int.natAbs_mul,show 7 * (j + 1)=7 + 7 * j by omega,Nat.pow_add]
   exact Nat.mul_le_mul hr2 i
theorem n_ {k:Kd} {n:Int} (hn:k.ok n) {j:Nat}:(k=.below∨k=.balanced∨k=.pairs)∨∃ x,wt k n j=.i x∧1 ≤ x:=by
 obtain ⟨b1,b2⟩:=xL hn
 cases k with
 | below=>exact .inl (.inl rfl)
 | balanced=>exact .inl (.inr (.inl rfl))
 | pairs=>exact .inl (.inr (.inr rfl))
 | falling=>exact .inr ⟨_,rfl,(zX b1 j).1⟩
 | plain=>
  refine .inr ?_
  induction j with
  | zero=>exact ⟨_,rfl,by decide⟩
  | succ j ih=>
   obtain ⟨x,e,h⟩:=ih
   rw [z7 rfl,e]
   exact ⟨_,rfl,by show 1 ≤ n * x; have:=Int.mul_le_mul b1 h (by decide) (by omega); omega⟩
 | growing=>
  refine .inr ?_
  induction j with
  | zero=>exact ⟨_,rfl,by decide⟩
  | succ j ih=>
   obtain ⟨x,e,h⟩:=ih
   rw [z7 rfl,e]
   exact ⟨_,rfl,by show 1 ≤ (n + (j:Int)) * x; have:=Int.mul_le_mul (show 1 ≤ n + (j:Int) by omega) h (by decide) (by omega); omega⟩
def mT (k:Kd):Prop:=k=.plain∨k=.growing
theorem oA {k:Kd} {n:Int} (hk:mT k) (hn:k.ok n) (j:Nat):∃ w,wt k n j=.i w∧1 ≤ w∧wt k n (j + 1)=.i (k.rat n j * w)∧k.high n j=k.rat n j - 1∧k.low n j=0:=by
 rcases hk with rfl | rfl
 ·rcases n_ hn (j:=j) with (h | h | h) | ⟨w,e,h⟩
  ·cases h
  ·cases h
  ·cases h
  ·exact ⟨w,e,h,by rw [z7 rfl,e]; rfl,rfl,rfl⟩
 ·rcases n_ hn (j:=j) with (h | h | h) | ⟨w,e,h⟩
  ·cases h
  ·cases h
  ·cases h
  ·exact ⟨w,e,h,by rw [z7 rfl,e]; rfl,rfl,rfl⟩
theorem kX {k:Kd} (hk:mT k):k ≠ .pairs:=by rcases hk with rfl | rfl <;> (intro z; cases z)
theorem oR {k:Kd} {n:Int} {f:Nat→Int} (hk:mT k) (hn:k.ok n):∀ j:Nat,(∀ i:Nat,i < j→k.low n i ≤ f i∧f i ≤ k.high n i)→0 ≤ (wF k n f j).re∧(wF k n f j).re < (wt k n j).re
 | 0,_=>by
  obtain ⟨w,e,h,_⟩:=oA hk hn 0
  rw [e]
  show 0 ≤ (k.zero).re∧(k.zero).re < w
  rw [z6]
  omega
 | j + 1,h=>by
  obtain ⟨a,b⟩:=oR hk hn j fun i hi=>h i (by omega)
  obtain ⟨w,e,hw,e2,h1,h2⟩:=oA hk hn j
  obtain ⟨f1,f2⟩:=h j (by omega)
  rw [e2]
  have ew:(wF k n f (j + 1)).re=(wF k n f j).re + f j * w:=by
   show ((wF k n f j).add ((Nm.i (f j)).mul (wt k n j))).re=_
   rw [yt,e]
   rfl
  rw [ew]
  rw [e] at b
  have b':(wF k n f j).re < w:=b
  rw [h2] at f1
  rw [h1] at f2
  have m1:=Int.mul_nonneg f1 (show 0 ≤ w by omega)
  have m2:=Int.mul_le_mul_of_nonneg_right f2 (show 0 ≤ w by omega)
  rw [Int.sub_mul,Int.one_mul] at m2
  show 0 ≤ _∧_ < k.rat n j * w
  omega
theorem lj {k:Kd} {m:Nm} (h5:k.five=true) (hk:¬ mT k) (hm:m.ty k):ya k m=true:=by
 cases k with
 | plain=>exact absurd (.inl rfl) hk
 | growing=>exact absurd (.inr rfl) hk
 | falling=>cases h5
 | below=>obtain ⟨a,rfl⟩:=hm; rfl
 | balanced=>obtain ⟨a,rfl⟩:=hm; rfl
 | pairs=>obtain ⟨a,b,rfl⟩:=hm; rfl
theorem nR {k:Kd} {n:Int} {r:List Int} (hn:k.ok n) (h:Legal k n r):ya k (zj k n r)=true:=by
 by_cases hf:k=.falling
 ·subst hf
  have:=h.lg.nonneg hn.1
  obtain ⟨a,e⟩:=yU .falling n r
  rw [e] at this ⊢
  exact decide_eq_true this
 ·have h5:k.five=true:=by cases k <;> first | rfl | exact absurd rfl hf
  by_cases hk:mT k
  ·have a:=(oR (f:=fun i=>r.getD i 0) hk hn r.length fun i hi=>h.fig i hi).1
   obtain ⟨x,e⟩:=xN (kX hk) (yU k n r)
   have:zj k n r=wF k n (fun i=>r.getD i 0) r.length:=xu k n r _
   rw [← this,e] at a
   rw [e]
   have a':0 ≤ x:=a
   rcases hk with rfl | rfl <;> exact decide_eq_true a'
  ·exact lj h5 hk (yU k n r)
theorem sM {k:Kd} {n:Int} {r:List Int} (hn:k.ok n) (h:Legal k n r) (hl:r.length ≤ 2000):∀ t ∈ r,t.natAbs ≤ 4000:=by
 intro t ht
 obtain ⟨i,hi,e⟩:=List.getElem_of_mem ht
 have f:=h.fig i hi
 have eg:r.getD i 0=t:=by rw [List.getD_eq_getElem?_getD,List.getElem?_eq_getElem hi,e]; rfl
 rw [eg] at f
 obtain ⟨b1,b2⟩:=xL hn
 have sq:n * n ≤ 3600:=by have:=Int.mul_le_mul b2 b2 (by omega) (by omega); omega
 cases k <;> simp only [Kd.low,Kd.high] at f <;> omega
theorem p8 {k:Kd} {n:Int} {r:List Int} (hn:k.ok n) (h:Legal k n r) (hl:r.length ≤ 2000):bdR r:=fun t ht=>
 Nat.lt_of_le_of_lt (sM hn h hl t ht) (Nat.lt_of_lt_of_le (by decide:4000 < 2 ^ 12) (Nat.pow_le_pow_right (by decide) (by decide)))
theorem iO {k:Kd} {n:Int} (hn:k.ok n) {j:Nat} (hj:j ≤ 60):(wt k n j).re.natAbs ≤ 2 ^ (7 * j)∧(wt k n j).im.natAbs ≤ 2 ^ (7 * j):=by
 by_cases hk:k=.pairs
 ·subst hk
  have h1:1 ≤ n:=hn.1
  have h9:n ≤ 9:=hn.2
  induction j with
  | zero=>exact ⟨Nat.le_refl 1,Nat.zero_le _⟩
  | succ j ih=>
   obtain ⟨a,b⟩:=ih (by omega)
   rw [z7 rfl,zH,zM,show 7 * (j + 1)=7 + 7 * j by omega,Nat.pow_add]
   show (-n * (wt .pairs n j).re - 1 * (wt .pairs n j).im).natAbs ≤ _∧(-n * (wt .pairs n j).im + 1 * (wt .pairs n j).re).natAbs ≤ _
   generalize (wt .pairs n j).re=x at *
   generalize (wt .pairs n j).im=y at *
   generalize 2 ^ (7 * j)=X at *
   have m1:(-n * x).natAbs ≤ 9 * X:=by rw [Int.natAbs_mul]; exact Nat.mul_le_mul (by omega) a
   have m2:(-n * y).natAbs ≤ 9 * X:=by rw [Int.natAbs_mul]; exact Nat.mul_le_mul (by omega) b
   have e:(2:Nat) ^ 7=128:=rfl
   rw [e]
   omega
 ·refine ⟨wt7 hn hk hj,?_⟩
  obtain ⟨w,e⟩:=wtI (n:=n) hk j
  rw [e]
  exact Nat.zero_le _
theorem qf {k:Kd} {n:Int} {r:List Int} (hn:k.ok n) (hs:∀ t ∈ r,t.natAbs ≤ 4000):∀ j,j ≤ 60→(yL k n r j).re.natAbs ≤ 2 ^ (7 * j + 13)∧(yL k n r j).im.natAbs ≤ 2 ^ (7 * j + 13)
 | 0,_=>by
  show (k.zero).re.natAbs ≤ _∧(k.zero).im.natAbs ≤ _
  rw [z6,ym]
  exact ⟨Nat.zero_le _,Nat.zero_le _⟩
 | j + 1,hj=>by
  obtain ⟨a,b⟩:=qf hn hs j (by omega)
  obtain ⟨w1,w2⟩:=iO hn (show j ≤ 60 by omega)
  have ht:(r.getD j 0).natAbs ≤ 4000:=by
   rw [List.getD_eq_getElem?_getD]
   cases q:r[j]? with
   | none=>exact Nat.zero_le _
   | some t=>exact hs t (List.mem_of_getElem? q)
  have e:yL k n r (j + 1)=(yL k n r j).add ((Nm.i (r.getD j 0)).mul (wt k n j)):=rfl
  rw [e,yt,yH,zH,zM]
  show ((yL k n r j).re + (r.getD j 0 * (wt k n j).re - 0 * (wt k n j).im)).natAbs ≤ _∧((yL k n r j).im + (r.getD j 0 * (wt k n j).im + 0 * (wt k n j).re)).natAbs ≤ _
  have p1:2 ^ (7 * (j + 1) + 13)=128 * (8192 * 2 ^ (7 * j)):=by rw [show 7 * (j + 1) + 13=7 + (13 + 7 * j) by omega,Nat.pow_add,Nat.pow_add]
  have p2:2 ^ (7 * j + 13)=8192 * 2 ^ (7 * j):=by rw [show 7 * j + 13=13 + 7 * j by omega,Nat.pow_add]
  rw [p1]
  rw [p2] at a b
  have m1:(r.getD j 0 * (wt k n j).re).natAbs ≤ 4000 * 2 ^ (7 * j):=by rw [Int.natAbs_mul]; exact Nat.mul_le_mul ht w1
  have m2:(r.getD j 0 * (wt k n j).im).natAbs ≤ 4000 * 2 ^ (7 * j):=by rw [Int.natAbs_mul]; exact Nat.mul_le_mul ht w2
  generalize 2 ^ (7 * j)=X at *
  omega
def yW (k:Kd) (m:Nm):Nm:=match k with
 | .pairs=>.p m.re m.im
 | _=>match m with
  | .i a=>.i a
  | .p a b=>if b=0 then .i a else .p a b
def Fg (k:Kd) (n:Int) (r:List Int):Prop:=∀ p,p < r.length→k.low n p ≤ r.getD p 0∧r.getD p 0 ≤ k.high n p
theorem Fg.put {k:Kd} {n:Int} {r:List Int} (hn:k.ok n) (h:Fg k n r) (j:Nat):Fg k n (r.set j 0):=fun p hp=>by
 rw [List.length_set] at hp
 by_cases q:j=p
 ·subst q
  rw [yl hp]
  exact rJ hn j
 ·rw [yk q]
  exact h p hp
def Fl (k:Kd) (n:Int) (r:List Int) (i:Nat):Prop:=k.isF=true→∀ q:Nat,r.length ≤ q + 1 + i→q + 1 < r.length→r.getD (q + 1) 0=n→r.getD q 0=0
theorem Fl.put {k:Kd} {n:Int} {r:List Int} {i j:Nat} (hn:k.ok n) (h:Fl k n r i) (hj:j + i < r.length):Fl k n (r.set j 0) i:=fun hk q h1 h2 h3=>by
 rw [List.length_set] at h1 h2
 by_cases e:j=q
 ·subst e; rw [yl (by omega)]
 ·rw [yk e]
  by_cases e2:j=q + 1
  ·subst e2
   rw [yl (by omega)] at h3
   have:=hn.1
   cases k <;> simp only [Kd.lo] at this <;> first | omega | cases hk
  ·rw [yk e2] at h3
   exact h hk q h1 h2 h3
theorem Fg.snoc {k:Kd} {n f:Int} {r:List Int} {i:Nat} (hlr:r.length=i) (hp:∀ p,p < i→k.low n p ≤ r.getD p 0∧r.getD p 0 ≤ k.high n p) (hf:k.low n i ≤ f∧f ≤ k.high n i):
  ∃ r':List Int,r.map Dt.int ++ [.int f]=r'.map Dt.int∧r'.length=i + 1∧∀ p,p < i + 1→k.low n p ≤ r'.getD p 0∧r'.getD p 0 ≤ k.high n p:=by
 refine ⟨r ++ [f],by rw [List.map_append]; rfl,by rw [List.length_append,hlr]; rfl,fun p hp'=>?_⟩
 rcases (by omega:p < i∨p=i) with z | z
 ·rw [zD (by omega)]
  exact hp p z
 ·subst z
  rw [← hlr,getD_snoc_eq,hlr]
  exact hf
def Kd.nam:Kd→Str
 | .plain=>.ofString "plain"
 | .below=>.ofString "below"
 | .balanced=>.ofString "balanced"
 | .growing=>.ofString "growing"
 | .falling=>.ofString "falling"
 | .pairs=>.ofString "pairs"
def Nm.pr (m:Nm):Dt:=.tup [.int m.re,.int m.im]
def q0:DSp:=fun ds Q=>∃ c,ds=[.int c]∧∀ k n,k.ok n→Q (.tup [.str (Kd.nam k),.int n])
def rZ:DSp:=fun ds Q=>∃ k n p,ds=[.str (Kd.nam k),.int n]∧Q (.int (k.low n p))
def uH:DSp:=fun ds Q=>∃ k n p,ds=[.str (Kd.nam k),.int n,.int p]∧k.ok n∧Q (.int (k.high n p))
def kB:DSp:=fun ds Q=>∃ k n r,ds=[.str (Kd.nam k),.int n,zC r]∧k.ok n∧Legal k n r∧r.length ≤ 1000∧Q (.bl true)
def nh:DSp:=fun ds Q=>∃ k n,∃ j:Nat,∃ lo:Dt,ds=[.str (Kd.nam k),.int n,.int j,(wt k n j).pr,lo]∧k.ok n∧j ≤ 1000∧(∃ c d,lo=.tup [.int c,.int d]∧(k=.falling→c=(wtF n j).1))∧Q (wt k n (j + 1)).pr
def kz:DSp:=fun ds Q=>∃ k n r,ds=[.str (Kd.nam k),.int n,zC r]∧k.ok n∧r.length ≤ 1000∧bdR r∧Q (zj k n r).pr
theorem l_ (xs:List Dt) (a b:Nat):(uu xs (some (a:Int)) (some (b:Int))).length ≤ b - a:=by
 unfold uu
 rw [HT.sIx_nat,HT.sIx_nat,List.length_take,List.length_drop]
 omega
theorem sw {k:Kd} {m:Nm} (h:m.ty k):yW k m=m:=by
 cases k <;> first | (obtain ⟨a,rfl⟩:=h; rfl) | (obtain ⟨a,b,rfl⟩:=h; rfl)
theorem kF (k:Kd) (m:Nm):(yW k m).pr=m.pr:=by
 cases m with
 | i a=>cases k <;> rfl
 | p a b=>
  by_cases hb:b=0
  ·subst hb
   cases k <;> rfl
  ·have e:∀ k':Kd,k' ≠ .pairs→yW k' (.p a b)=.p a b:=fun k' h=>by cases k' <;> first | exact if_neg hb | exact absurd rfl h
   by_cases hp:k=.pairs
   ·subst hp; rfl
   ·rw [e k hp]
def pw (p:Str × Bool):Dt:=.tup [.str p.1,.bl p.2]
def qj (l:List (Str × Bool)):List Dt:=(l.filter fun p=>p.2).map fun p=>Dt.str p.1
theorem tH {ρ:DS} {Q:Dt→Prop} (l:List (Str × Bool)) (q:Q (.lst (qj l))):oq [] (fun _ q=>q (l.map pw).length fun i e=>(l.map pw)[i]? = some e) eX (xM (wK 1)) (wK 0) ρ Q:=by
 refine ⟨fun i es=>es=qj (l.take i),rfl,?_,?_⟩
 ·rintro i e es hi he rfl
  rw [List.getElem?_map] at he
  obtain ⟨⟨w,t⟩,hp,rfl⟩:=Option.map_eq_some_iff.mp he
  refine ⟨_,⟨_,_,rfl,rfl⟩,_,rfl,t,rfl,?_⟩
  have ek:qj (l.take (i + 1))=qj (l.take i) ++ if t=true then [Dt.str w] else []:=by
   unfold qj
   rw [take_succ_filter (fun p:Str × Bool=>p.2) l i (w,t) hp,List.map_append]
   cases t <;> rfl
  cases t with
  | true=>exact ifT rfl ⟨_,rfl,ek.symm⟩
  | false=>exact ifF rfl (by rw [if_neg Bool.false_ne_true,List.append_nil] at ek; exact ek.symm)
 ·rintro es rfl
  rw [List.length_map,List.take_length]
  exact q
theorem km {k:Kd} {n:Int} {r:List Int} (m:Nat):¬ Legal k n (r ++ List.replicate (m + 1) 0):=fun h=>by
 have e:r ++ List.replicate (m + 1) 0=(r ++ List.replicate m 0) ++ [(0:Int)]:=by rw [List.replicate_succ',List.append_assoc]
 rw [e] at h
 rcases h.end_ with z | z
 ·simp at z
 ·rw [List.length_append,List.length_singleton,Nat.add_sub_cancel] at z
  exact z getD_snoc_eq
theorem jR {k:Kd} {n x:Int} {r:List Int} {a:Nat} (ha:a ≤ r.length) (hx:x < k.low n a∨k.high n a < x):¬ Legal k n (r.take a ++ [x] ++ r.drop (a + 1)):=fun h=>by
 have hl:(r.take a).length=a:=by rw [List.length_take]; omega
 have e:(r.take a ++ [x] ++ r.drop (a + 1)).getD a 0=x:=by
  rw [List.append_assoc,List.getD_eq_getElem?_getD,List.getElem?_append_right (by omega),hl,Nat.sub_self]
  rfl
 have:=h.fig a (by rw [List.length_append,List.length_append,hl]; show a < a + 1 + _; omega)
 rw [e] at this
 omega
theorem l9 {r:List Int} (a:Nat):uu (r.map Dt.int) none (some (a:Int))=(r.take a).map Dt.int:=by
 unfold uu
 rw [HT.sIx_nat,HT.sIx_none,List.drop_zero,Nat.sub_zero,List.length_map,← List.map_take]
 congr 1
 rcases Nat.le_total a r.length with h | h
 ·rw [Nat.min_eq_left h]
 ·rw [Nat.min_eq_right h,List.take_length,List.take_of_length_le h]
theorem kb {r:List Int} (a:Nat):uu (r.map Dt.int) (some (a:Int)) none=(r.drop a).map Dt.int:=by
 unfold uu
 rw [HT.sIx_nat,HT.sIx_none,List.length_map,← List.map_drop,← List.map_take]
 congr 1
 rcases Nat.le_total a r.length with h | h
 ·rw [Nat.min_eq_left h,List.take_of_length_le (by rw [List.length_drop]; omega)]
 ·rw [Nat.min_eq_right h,List.drop_length,List.drop_of_length_le h,List.take_nil]
theorem mj (k:Kd) (m:Nm):ya k (yW k m)=!((!(k.nam == Str.ofString "pairs") && !(eqD (.int m.im) (.int 0))) || ((match k with | .plain=>true | .growing=>true | .falling=>true | _=>false) && decide (m.re < 0))):=by
 have dn:∀ a:Int,decide (0 ≤ a)=!(decide (a < 0)):=fun a=>by
  by_cases h:a < 0
  ·rw [decide_eq_true h,decide_eq_false (by omega)]; rfl
  ·rw [decide_eq_false h,decide_eq_true (by omega)]; rfl
 cases m with
 | i a=>
  have e:eqD (.int (Nm.i a).im) (.int 0)=true:=eqI rfl
  rw [e]
  cases k <;> first | rfl | (show decide (0 ≤ a)=!(_ || (true && decide (a < 0))); rw [dn]; rfl)
 | p a b=>
  by_cases hb:b=0
  ·subst hb
   have e:eqD (.int (Nm.p a 0).im) (.int 0)=true:=eqI rfl
   rw [e]
   cases k <;> first | rfl | (show decide (0 ≤ a)=!(_ || (true && decide (a < 0))); rw [dn]; rfl)
  ·have e:eqD (.int (Nm.p a b).im) (.int 0)=false:=neI hb
   rw [e]
   have e2:∀ k':Kd,k' ≠ .pairs→yW k' (.p a b)=.p a b:=fun k' h=>by cases k' <;> first | exact if_neg hb | exact absurd rfl h
   by_cases hp:k=.pairs
   ·subst hp; rfl
   ·rw [e2 k hp]
    cases k <;> first | rfl | exact absurd rfl hp
open Classical in
def qY:DSp:=fun ds Q=>∃ k n cs,ds=[.str (Kd.nam k),.int n,zC cs]∧Kd.ok k n∧cs.length ≤ 1000∧∀ r,Legal k n r→r.length ≤ cs.length→Q (zC r)
def sY:DSp:=fun ds Q=>∃ k n r c,ds=[.str (Kd.nam k),.int n,zC r,.int c]∧Kd.ok k n∧r.length ≤ 100∧∀ r',¬ Legal k n r'→r'.length ≤ 200→Q (zC r')
def nw:Dt:=.lst [.str (.ofString "NoWriting")]
def nn:Dt:=.lst [.str (.ofString "NoNumber")]
structure Adr where
 Plain:Addr
 Below:Addr
 Balanced:Addr
 Growing:Addr
 Falling:Addr
 Pairs:Addr
 OddError:Addr
 NoWriting:Addr
 NoNumber:Addr
 NoPairs:Addr
 NoWay:Addr
 TooLess:Addr
 NoRatio:Addr
 NoFalling:Addr
 Nought:Addr
 NoSpan:Addr
 NoTotal:Addr
 NoText:Addr
 NoRow:Addr
structure Txt (K:PySem.W.Frag) (mg:Str→Option Value) (A:Adr):Prop where
 kt:jW K
 isinstance:mg "isinstance"=none
 n_int:mg "int"=none
 n_bool:mg "bool"=none
 n_tuple:mg "tuple"=none
 n_list:mg "list"=none
 len:mg "len"=none
 range:mg "range"=none
 n_zip:mg "zip"=none
 n_enumerate:mg "enumerate"=none
 n_reversed:mg "reversed"=none
 n_ValueError:mg "ValueError"=none
 cl_Plain:Cls K A.Plain
 na_Plain:NoAttr K A.Plain "base"
 cl_Below:Cls K A.Below
 na_Below:NoAttr K A.Below "base"
 cl_Balanced:Cls K A.Balanced
 na_Balanced:NoAttr K A.Balanced "half"
 cl_Growing:Cls K A.Growing
 na_Growing:NoAttr K A.Growing "first"
 cl_Falling:Cls K A.Falling
 na_Falling:NoAttr K A.Falling "most"
 cl_Pairs:Cls K A.Pairs
 na_Pairs:NoAttr K A.Pairs "most"
 gc_Falling:mg "Falling"=some (.ref A.Falling)
 gc_Pairs:mg "Pairs"=some (.ref A.Pairs)
 isi_Plain:ua K A.Plain
 ki_Plain_Falling:PySem.W.kitOne K (.ref A.Plain) (.ref A.Falling)=some false
 ki_Plain_Pairs:PySem.W.kitOne K (.ref A.Plain) (.ref A.Pairs)=some false
 isi_Below:ua K A.Below
 ki_Below_Falling:PySem.W.kitOne K (.ref A.Below) (.ref A.Falling)=some false
 ki_Below_Pairs:PySem.W.kitOne K (.ref A.Below) (.ref A.Pairs)=some false
 isi_Balanced:ua K A.Balanced
 ki_Balanced_Falling:PySem.W.kitOne K (.ref A.Balanced) (.ref A.Falling)=some false
 ki_Balanced_Pairs:PySem.W.kitOne K (.ref A.Balanced) (.ref A.Pairs)=some false
 isi_Growing:ua K A.Growing
 ki_Growing_Falling:PySem.W.kitOne K (.ref A.Growing) (.ref A.Falling)=some false
 ki_Growing_Pairs:PySem.W.kitOne K (.ref A.Growing) (.ref A.Pairs)=some false
 isi_Falling:ua K A.Falling
 ki_Falling_Falling:PySem.W.kitOne K (.ref A.Falling) (.ref A.Falling)=some true
 ki_Falling_Pairs:PySem.W.kitOne K (.ref A.Falling) (.ref A.Pairs)=some false
 isi_Pairs:ua K A.Pairs
 ki_Pairs_Falling:PySem.W.kitOne K (.ref A.Pairs) (.ref A.Falling)=some false
 ki_Pairs_Pairs:PySem.W.kitOne K (.ref A.Pairs) (.ref A.Pairs)=some true
 gc_OddError:mg "OddError"=some (.ref A.OddError)
 gc_NoWriting:mg "NoWriting"=some (.ref A.NoWriting)
 gc_NoNumber:mg "NoNumber"=some (.ref A.NoNumber)
 gc_NoPairs:mg "NoPairs"=some (.ref A.NoPairs)
 gc_NoWay:mg "NoWay"=some (.ref A.NoWay)
 gc_TooLess:mg "TooLess"=some (.ref A.TooLess)
 gc_NoRatio:mg "NoRatio"=some (.ref A.NoRatio)
 gc_NoFalling:mg "NoFalling"=some (.ref A.NoFalling)
 gc_Nought:mg "Nought"=some (.ref A.Nought)
 gc_NoSpan:mg "NoSpan"=some (.ref A.NoSpan)
 gc_NoTotal:mg "NoTotal"=some (.ref A.NoTotal)
 gc_NoText:mg "NoText"=some (.ref A.NoText)
 gc_NoRow:mg "NoRow"=some (.ref A.NoRow)
 ex_NoWriting:ExcK K A.NoWriting
 ix_NoWriting:v9 K A.NoWriting
 em_NoWriting_OddError:PySem.W.exmOne K (.ref A.NoWriting) (.ref A.OddError)=some true
 kx_NoWriting_OddError:PySem.W.kitOne K (.ref A.NoWriting) (.ref A.OddError)=some true
 kx_NoWriting_NoWriting:PySem.W.kitOne K (.ref A.NoWriting) (.ref A.NoWriting)=some true
 kx_NoWriting_NoNumber:PySem.W.kitOne K (.ref A.NoWriting) (.ref A.NoNumber)=some false
 kx_NoWriting_NoPairs:PySem.W.kitOne K (.ref A.NoWriting) (.ref A.NoPairs)=some false
 kx_NoWriting_NoWay:PySem.W.kitOne K (.ref A.NoWriting) (.ref A.NoWay)=some false
 kx_NoWriting_TooLess:PySem.W.kitOne K (.ref A.NoWriting) (.ref A.TooLess)=some false
 kx_NoWriting_NoRatio:PySem.W.kitOne K (.ref A.NoWriting) (.ref A.NoRatio)=some false
 kx_NoWriting_NoFalling:PySem.W.kitOne K (.ref A.NoWriting) (.ref A.NoFalling)=some false
 kx_NoWriting_Nought:PySem.W.kitOne K (.ref A.NoWriting) (.ref A.Nought)=some false
 kx_NoWriting_NoSpan:PySem.W.kitOne K (.ref A.NoWriting) (.ref A.NoSpan)=some false
 kx_NoWriting_NoTotal:PySem.W.kitOne K (.ref A.NoWriting) (.ref A.NoTotal)=some false
 kx_NoWriting_NoText:PySem.W.kitOne K (.ref A.NoWriting) (.ref A.NoText)=some false
 kx_NoWriting_NoRow:PySem.W.kitOne K (.ref A.NoWriting) (.ref A.NoRow)=some false
 kx_NoWriting_ValueError:PySem.W.kitOne K (.ref A.NoWriting) (.type "ValueError")=some true
 ex_NoNumber:ExcK K A.NoNumber
 ix_NoNumber:v9 K A.NoNumber
 em_NoNumber_OddError:PySem.W.exmOne K (.ref A.NoNumber) (.ref A.OddError)=some true
 kx_NoNumber_OddError:PySem.W.kitOne K (.ref A.NoNumber) (.ref A.OddError)=some true
 kx_NoNumber_NoWriting:PySem.W.kitOne K (.ref A.NoNumber) (.ref A.NoWriting)=some false
 kx_NoNumber_NoNumber:PySem.W.kitOne K (.ref A.NoNumber) (.ref A.NoNumber)=some true
 kx_NoNumber_NoPairs:PySem.W.kitOne K (.ref A.NoNumber) (.ref A.NoPairs)=some false
 kx_NoNumber_NoWay:PySem.W.kitOne K (.ref A.NoNumber) (.ref A.NoWay)=some false
 kx_NoNumber_TooLess:PySem.W.kitOne K (.ref A.NoNumber) (.ref A.TooLess)=some false
 kx_NoNumber_NoRatio:PySem.W.kitOne K (.ref A.NoNumber) (.ref A.NoRatio)=some false
 kx_NoNumber_NoFalling:PySem.W.kitOne K (.ref A.NoNumber) (.ref A.NoFalling)=some false
 kx_NoNumber_Nought:PySem.W.kitOne K (.ref A.NoNumber) (.ref A.Nought)=some false
 kx_NoNumber_NoSpan:PySem.W.kitOne K (.ref A.NoNumber) (.ref A.NoSpan)=some false
 kx_NoNumber_NoTotal:PySem.W.kitOne K (.ref A.NoNumber) (.ref A.NoTotal)=some false
 kx_NoNumber_NoText:PySem.W.kitOne K (.ref A.NoNumber) (.ref A.NoText)=some false
 kx_NoNumber_NoRow:PySem.W.kitOne K (.ref A.NoNumber) (.ref A.NoRow)=some false
 kx_NoNumber_ValueError:PySem.W.kitOne K (.ref A.NoNumber) (.type "ValueError")=some true
def Adr.at (A:Adr):Kd→Addr
 | .plain=>A.Plain | .below=>A.Below | .balanced=>A.Balanced | .growing=>A.Growing | .falling=>A.Falling | .pairs=>A.Pairs
def zK (A:Adr) (k:Kd) (n:Int):Dt:=.way (A.at k) k.fld n
def xr (A:Adr) (k:Kd) (g:Int→Int→Int):DSp:=fun ds Q=>∃ n p,ds=[zK A k n,.int p]∧k.ok n∧Q (.int (g n p))
def wl (A:Adr) (k:Kd) (g:Int→Int→Nm):DSp:=fun ds Q=>∃ n p,ds=[zK A k n,.int p]∧k.ok n∧Q (g n p).dt
def fc:DSp:=fun ds Q=>∃ o p,ds=[o,p]∧Q (.int 0)
def dO:DSp:=fun ds Q=>∃ o,ds=[o]∧Q (.int 0)
def dN:DSp:=fun ds Q=>∃ o,ds=[o]∧Q (.tup [.int 0,.int 0])
def jU (k:Kd):DSp:=fun ds Q=>∃ o,ds=[o]∧Q k.zero.dt
def cN (A:Adr):DSp:=fun ds Q=>∃ k n m,ds=[zK A k n,.int m]∧k.five=true∧k.ok n∧0 ≤ m∧m ≤ 1000∧Q (.lst (wts k n m.toNat))
def dM (A:Adr):DSp:=fun ds Q=>∃ n m,ds=[zK A .falling n,.int m]∧Kd.falling.ok n∧0 ≤ m∧m ≤ 1000∧Q (.lst (wts .falling n m.toNat))
def kr (A:Adr) (k:Kd):DSp:=fun ds Q=>∃ n m,ds=[zK A k n,.int m]∧k.ok n∧0 ≤ m∧m ≤ 1000∧Q (.lst (wts k n m.toNat))
def iK (A:Adr):DSp:=fun ds Q=>∃ k n r,ds=[zK A k n,zC r]∧k.ok n∧r.length ≤ 1000∧Q (.bl (qG k n r))
def kC (A:Adr):DSp:=fun ds Q=>∃ k n r,ds=[zK A k n,zC r]∧k.ok n∧r.length ≤ 1000∧∀ b:Bool,(b=true ↔ ∀ p,p < r.length→k.low n p ≤ r.getD p 0∧r.getD p 0 ≤ k.high n p)→Q (.bl b)
def ni (A:Adr):DSp:=fun ds Q=>∃ n r,ds=[zK A .falling n,zC r]∧Kd.falling.ok n∧r.length ≤ 1000∧∀ b:Bool,(b=true ↔ ∀ p,p + 1 < r.length→r.getD (p + 1) 0=n→r.getD p 0=0)→Q (.bl b)
theorem oO {K:PySem.W.Frag} {mg:Str→Option Value} {A:Adr} (T:Txt K mg A) (k:Kd):ua K (A.at k):=by
 cases k
 ·exact T.isi_Plain
 ·exact T.isi_Below
 ·exact T.isi_Balanced
 ·exact T.isi_Growing
 ·exact T.isi_Falling
 ·exact T.isi_Pairs
theorem kiF {K:PySem.W.Frag} {mg:Str→Option Value} {A:Adr} (T:Txt K mg A) (k:Kd):PySem.W.kitOne K (.ref (A.at k)) (.ref A.Falling)=some k.isF:=by
 cases k
 ·exact T.ki_Plain_Falling
 ·exact T.ki_Below_Falling
 ·exact T.ki_Balanced_Falling
 ·exact T.ki_Growing_Falling
 ·exact T.ki_Falling_Falling
 ·exact T.ki_Pairs_Falling
theorem iw (k:Kd):(("low":Str) == k.fld)=false:=by cases k <;> decide +kernel
theorem lM (k:Kd):(("high":Str) == k.fld)=false:=by cases k <;> decide +kernel
def kx (A:Adr):DSp:=fun ds Q=>∃ k n t j,ds=[zK A k n,.int t,.int ((j:Nat):Int)]∧k.four=true∧k.ok n∧j ≤ 100000∧Q (.tup [.int (sF k n j (.i t)),(sC k n j (.i t)).dt])
def ky (A:Adr):DSp:=fun ds Q=>∃ n d m j,ds=[zK A .pairs n,d,.int ((j:Nat):Int)]∧u5 d=some m∧Kd.pairs.ok n∧Q (.tup [.int (sF .pairs n j m),(sC .pairs n j m).dt])
def ng (A:Adr) (k:Kd):DSp:=fun ds Q=>∃ n m j,ds=[zK A k n,Nm.dt m,.int ((j:Nat):Int)]∧m.ty k∧k.ok n∧j ≤ 100000∧Q (.tup [.int (sF k n j m),(sC k n j m).dt])
theorem jA (k:Kd):(("split":Str) == k.fld)=false:=by cases k <;> decide +kernel
theorem jB (k:Kd):(("ratio":Str) == k.fld)=false:=by cases k <;> decide +kernel
theorem ve (k:Kd):(("nought":Str) == k.fld)=false:=by cases k <;> decide +kernel
theorem iz (k:Kd):(("has":Str) == k.fld)=false:=by cases k <;> decide +kernel
theorem sP (k:Kd):(("weights":Str) == k.fld)=false:=by cases k <;> decide +kernel
def dP (A:Adr):DSp:=fun ds Q=>∃ k n ts J,ds=[zK A k n,kH ts]∧k.five=true∧k.ok n∧(∀ t ∈ ts,tot k t)∧Fin k n ts J∧J ≤ 50000∧Q (.tup [zC (wa k n ts J),.lst (qU k n ts (J + 1))])
def sZ (A:Adr):DSp:=fun ds Q=>∃ k n ts J,ds=[zK A k n,kH ts]∧k.five=true∧k.ok n∧(∀ t ∈ ts,tot k t)∧Fin k n ts J∧J ≤ 50000∧Q (zC (tO k n ts J))
def nc (A:Adr):DSp:=fun ds Q=>∃ k n ns,ds=[zK A k n,zC ns]∧k.ok n∧ns.length ≤ 1000∧bdR ns∧Q (zj k n ns).dt
def iJ (A:Adr):DSp:=fun ds Q=>∃ n m,ds=[zK A .falling n,.int m]∧Kd.falling.ok n∧0 ≤ m∧Builtin.Int.intBits m ≤ 500∧Q (zC (tw n m))
def kv (A:Adr):DSp:=fun ds Q=>∃ k n m,ds=[zK A k n,Nm.dt m]∧Q (yW k m).dt
theorem kiP {K:PySem.W.Frag} {mg:Str→Option Value} {A:Adr} (T:Txt K mg A) (k:Kd):PySem.W.kitOne K (.ref (A.at k)) (.ref A.Pairs)=some (match k with | .pairs=>true | _=>false):=by
 cases k
 ·exact T.ki_Plain_Pairs
 ·exact T.ki_Below_Pairs
 ·exact T.ki_Balanced_Pairs
 ·exact T.ki_Growing_Pairs
 ·exact T.ki_Falling_Pairs
 ·exact T.ki_Pairs_Pairs
def ku (A:Adr):DSp:=fun ds Q=>∃ k n,ds=[.str (Kd.nam k),.int n]∧k.ok n∧Q (zK A k n)
theorem eE (i:Int):∃ k:Kd,k.num=i.fmod 6:=by
 have a0:=Int.fmod_nonneg_of_pos i (show (0:Int) < 6 by decide)
 have a1:=Int.fmod_lt_of_pos i (show (0:Int) < 6 by decide)
 rcases (by omega:i.fmod 6=0∨i.fmod 6=1∨i.fmod 6=2∨i.fmod 6=3∨i.fmod 6=4∨i.fmod 6=5) with e | e | e | e | e | e <;> rw [e]
 ·exact ⟨.plain,rfl⟩
 ·exact ⟨.below,rfl⟩
 ·exact ⟨.balanced,rfl⟩
 ·exact ⟨.growing,rfl⟩
 ·exact ⟨.falling,rfl⟩
 ·exact ⟨.pairs,rfl⟩
def nk (A:Adr):y7:=fun ds Q R=>∃ k n,∃ rs:List (List Int),ds=[zK A k n,.lst (rs.map zC)]∧k.ok n∧(∀ r ∈ rs,r.length ≤ 1000)∧(((∀ r ∈ rs,Legal k n r)∧Q .non)∨((∃ r ∈ rs,¬ Legal k n r)∧R A.NoWriting))
def o_ (A:Adr):y7:=fun ds Q R=>∃ k n m,ds=[zK A k n,Nm.dt m]∧k.ok n∧((ya k m=true∧∃ r,Wr k n m r∧Q (zC r))∨(ya k m=false∧R A.NoNumber))
def qZ (A:Adr):y7:=fun ds Q R=>∃ k n r k2 n2,ds=[zK A k n,zC r,zK A k2 n2]∧k.ok n∧k2.ok n2∧r.length ≤ 1000∧((¬ Legal k n r∧R A.NoWriting)∨(Legal k n r∧ya k2 (yW k2 (zj k n r))=false∧R A.NoNumber)∨(Legal k n r∧ya k2 (yW k2 (zj k n r))=true∧∃ r2,Wr k2 n2 (yW k2 (zj k n r)) r2∧Q (zC r2)))
def oy (A:Adr):DSp:=fun ds Q=>∃ k n r k2 n2,ds=[zK A k n,zC r,zK A k2 n2]∧k.ok n∧k2.ok n2∧r.length ≤ 1000∧((¬ Legal k n r∧Q (.tup [nw,.non]))∨(Legal k n r∧ya k2 (yW k2 (zj k n r))=false∧Q (.tup [nn,.non]))∨(Legal k n r∧ya k2 (yW k2 (zj k n r))=true∧∃ r2,Wr k2 n2 (yW k2 (zj k n r)) r2∧Q (.tup [.lst [],zC r2])))
def kA (A:Adr):DSp:=fun ds Q=>∃ C,ds=[.exc C]∧((C=A.NoWriting∧Q nw)∨(C=A.NoNumber∧Q nn))
section
variable {P:Program} {w:World} {K:PySem.W.Frag} {mg:Str→Option Value} {base:Heap} {f:Addr} {fd:FuncData} {A:Adr}
abbrev xy:Stmt:=top 48
theorem sc_law_chosen:zf ["_law_cell","_law_name","_law_part"] ["_law_cell"] (defScope xy):=⟨rfl,rfl,rfl,by decide +kernel,rfl,by decide +kernel,by decide +kernel⟩
theorem t_ (T:Txt K mg A) (F:Fun K "_law_chosen" "_law_chosen" xy f fd):FnOk P w K mg base CX0 1 f fd ["_law_cell"] (zp K (q0)):=by
 refine okD F sc_law_chosen (fun ds Q h=>?_) (fun cdv A' outer s H E hr ds Q h=>?_)
 ·obtain ⟨c,rfl,q⟩:=h
  rfl
 obtain ⟨c,rfl,q⟩:=h
 refine ⟨_,(zb (zl (i:=1) sc_law_chosen.nd rfl (Or.inl rfl) (zv (zI (za zt (za zt (za zt (za zt (za zt (za zt zd))))))) (zg yC (dv 0) zc) (fun _ _=>rfl)))
 (zb (zl (i:=2) sc_law_chosen.nd rfl (Or.inl rfl) (zg xj (dv 0) zc))
 (zb (zx (zq (yI) (dv 1) zt (zo _)) (ze (zh (zw (za (dv 1) (za (zg zP zc (zg yC (dv 2) zc)) zd))))) zk)
 (zb (zx (zq lh (dv 1) (zI (za zt (za zt zd))) (by with_unfolding_all rfl)) (ze (zh (zw (za (dv 1) (za (zg zP zc (zg yC (dv 2) zc)) zd))))) zk)
 (ze (zh (zw (za (dv 1) (za (zg zP zc (zg yC (dv 2) zc)) zd))))))))),?_⟩
 obtain ⟨k,hk⟩:=eE c
 have key:atI [Dt.str (.ofString "plain"),.str (.ofString "below"),.str (.ofString "balanced"),.str (.ofString "growing"),.str (.ofString "falling"),.str (.ofString "pairs")] (c.fmod 6)=some (.str k.nam):=by
  rw [← hk]
  cases k <;> rfl
 refine ⟨rfl,_,rfl,_,_,rfl,rfl,sR (by decide),_,_,_,rfl,rfl,key,?_⟩
 have b0:=Int.fmod_nonneg_of_pos (c.fdiv 6) (show (0:Int) < 59 by decide)
 have b1:=Int.fmod_lt_of_pos (c.fdiv 6) (show (0:Int) < 59 by decide)
 have c0:=Int.fmod_nonneg_of_pos (c.fdiv 6) (show (0:Int) < 30 by decide)
 have c1:=Int.fmod_lt_of_pos (c.fdiv 6) (show (0:Int) < 30 by decide)
 have d0:=Int.fmod_nonneg_of_pos (c.fdiv 6) (show (0:Int) < 9 by decide)
 have d1:=Int.fmod_lt_of_pos (c.fdiv 6) (show (0:Int) < 9 by decide)
 cases k
 all_goals walk_at "rd"
 ·exact q .plain _ ⟨by show (2:Int) ≤ _; omega,by show _ ≤ (60:Int); omega⟩
 ·exact q .below _ ⟨by show (2:Int) ≤ _; omega,by show _ ≤ (60:Int); omega⟩
 ·exact q .balanced _ ⟨by show (1:Int) ≤ _; omega,by show _ ≤ (30:Int); omega⟩
 ·exact q .growing _ ⟨by show (2:Int) ≤ _; omega,by show _ ≤ (60:Int); omega⟩
 ·exact q .falling _ ⟨by show (1:Int) ≤ _; omega,by show _ ≤ (9:Int); omega⟩
 ·exact q .pairs _ ⟨by show (1:Int) ≤ _; omega,by show _ ≤ (9:Int); omega⟩
abbrev xa:Stmt:=top 47
theorem uQ:zf ["_law_script","_law_k"] ["_law_script","_law_k"] (defScope xa):=⟨rfl,rfl,rfl,by decide +kernel,rfl,by decide +kernel,by decide +kernel⟩
theorem uX (T:Txt K mg A) (F:Fun K "_law_cell_at" "_law_cell_at" xa f fd):FnOk P w K mg base CX0 1 f fd ["_law_script","_law_k"] (zp K (kD)):=by
 refine okD F uQ (fun ds Q h=>?_) (fun cdv A' outer s H E hr ds Q h=>?_)
 ·obtain ⟨ns,k,rfl,hk,q⟩:=h
  rfl
 obtain ⟨ns,k,rfl,hk,q⟩:=h
 refine ⟨_,(zb (zx (zq (nO) (dv 1) (yG rfl T.len (dv 0)) (zo _)) (ze (zh (zv (dv 0) (dv 1) (fun _ _=>rfl)))) zk)
 (ze (zh zc))),?_⟩
 walk_at "rd"
 refine eG (fun hlt=>?_) (fun _=>q 0)
 have hlt:k < (ns.map Dt.int).length:=of_decide_eq_true hlt
 rw [List.length_map] at hlt
 exact ⟨_,rfl,_,rfl,_,_,_,rfl,rfl,vj hk hlt,q _⟩
abbrev vv:Stmt:=top 50
theorem pD:zf ["_law_name","_law_number"] ["_law_name","_law_number"] (defScope vv):=⟨rfl,rfl,rfl,by decide +kernel,rfl,by decide +kernel,by decide +kernel⟩
theorem pR (T:Txt K mg A) (F:Fun K "_law_low" "_law_low" vv f fd):FnOk P w K mg base CX0 1 f fd ["_law_name","_law_number"] (zp K (rZ)):=by
 refine okD F pD (fun ds Q h=>?_) (fun cdv A' outer s H E hr ds Q h=>?_)
 ·obtain ⟨k,n,p,rfl,q⟩:=h
  rfl
 obtain ⟨k,n,p,rfl,q⟩:=h
 refine ⟨_,(zb (zx (zq (yI) (dv 0) zt (zo _)) (ze (zh (zg yb zc (dv 1)))) zk)
 (ze (zh zc))),?_⟩
 have e0:(0:Int) - n=-n:=by omega
 cases k
 all_goals
  walk_at "rd"
  first
  | exact q
  | (dsimp only; rw [e0]; exact q)
abbrev wA:Stmt:=top 51
theorem qr:zf ["_law_name","_law_number","_law_place"] ["_law_name","_law_number","_law_place"] (defScope wA):=⟨rfl,rfl,rfl,by decide +kernel,rfl,by decide +kernel,by decide +kernel⟩
theorem qC (T:Txt K mg A) (F:Fun K "_law_high" "_law_high" wA f fd):FnOk P w K mg base CX0 1 f fd ["_law_name","_law_number","_law_place"] (zp K (uH)):=by
 refine okD F qr (fun ds Q h=>?_) (fun cdv A' outer s H E hr ds Q h=>?_)
 ·obtain ⟨k,n,p,rfl,hn,q⟩:=h
  rfl
 obtain ⟨k,n,p,rfl,hn,q⟩:=h
 refine ⟨_,(zb (zx (zq lh (dv 0) (zI (za zt (za zt zd))) (by with_unfolding_all rfl)) (ze (zh (zg yb (dv 1) zc))) zk)
 (zb (zx (zq (yI) (dv 0) zt (zo _)) (ze (zh (zg yb (zg zP (dv 1) (dv 2)) zc))) zk)
 (zb (zx (zq (yI) (dv 0) zt (zo _)) (ze (zh (zg z4 (dv 1) (dv 1)))) zk)
 (ze (zh (dv 1)))))),?_⟩
 obtain ⟨b1,b2⟩:=xL hn
 cases k
 all_goals
  repeat (first | (walk_at "rd1") | refine ⟨small (by omega) (by omega) _,?_⟩)
  exact q
abbrev xx:Stmt:=top 55
theorem sc_law_row_by:zf ["_law_name","_law_number","_law_cells","_law_row","_law_place","_law_low_here"] ["_law_name","_law_number","_law_cells"] (defScope xx):=⟨rfl,rfl,rfl,by decide +kernel,rfl,by decide +kernel,by decide +kernel⟩
theorem tZ (T:Txt K mg A) (G__law_low:DOk P w K mg base 1 "_law_low" (rZ)) (G__law_high:DOk P w K mg base 1 "_law_high" (uH)) (F:Fun K "_law_row_by" "_law_row_by" xx f fd):FnOk P w K mg base CX0 2 f fd ["_law_name","_law_number","_law_cells"] (zp K (qY)):=by
 refine okD F sc_law_row_by (fun ds Q h=>?_) (fun cdv A' outer s H E hr ds Q h=>?_)
 ·obtain ⟨k,n,cs,rfl,hn,hl,q⟩:=h
  rfl
 obtain ⟨k,n,cs,rfl,hn,hl,q⟩:=h
 refine ⟨_,(zb (xK (i:=3) sc_law_row_by.nd rfl (Or.inl rfl) (vQ zd))
 (zb (vg (j:=4) rfl sc_law_row_by.nd rfl (Or.inl rfl) PassesOwn.never rfl T.range (yG rfl T.len (dv 2)) (zb (zl (i:=5) sc_law_row_by.nd rfl (Or.inl rfl) (zi G__law_low (hr.mono (by decide)) rfl (za (dv 0) (za (dv 1) zd))))
 (ze (wI 3 (zg zP (dv 5) (zg yC (zg yC (zg z4 (zv (dv 2) (dv 4) (fun _ _=>rfl)) zc) zc) (zg zP (zg yb (zi G__law_high (hr.mono (by decide)) rfl (za (dv 0) (za (dv 1) (za (dv 4) zd)))) (dv 5)) zc)))))))
 (zb (jD (j:=4) rfl sc_law_row_by.nd rfl (Or.inl rfl) PassesOwn.never rfl T.range (za (zg yb (uE 3 rfl T.len) zc) (za zc (za (xn zc) zd))) (ze (zx (DW.dt (yd (zq (yI) (dv 0) zt (zo _)) (zW (zq (x5 hr) (oj 3 (dv 4) (fun _ _=>rfl)) (dv 1) (zo _))))) (ze (gL 3 (zg yb (dv 4) zc) zc)) zk)))
 (zb (tz PassesOwn.never (DW.dt (yd (zq (jj) (uE 3 rfl T.len) zc (zo _)) (zW (zq (x5 hr) (oj 3 (xn zc) (fun _ _=>rfl)) zc (zo _))))) (ze (lQ 3)))
 (ze (uB 3)))))),?_⟩
 have ll:=zG cs
 walk_at "rd"
 refine ⟨_,fun i ρ=>∃ (r:List Int) (v4 v5:Sl),ρ=[.some (.str k.nam),.some (.int n),.some (zC cs),.own (r.map Dt.int),v4,v5]∧r.length=i∧∀ p,p < i→k.low n p ≤ r.getD p 0∧r.getD p 0 ≤ k.high n p,rfl,by omega,by omega,⟨[],_,_,rfl,rfl,fun p hp=>absurd hp (Nat.not_lt_zero _)⟩,?_,?_⟩
 ·rintro i ρ' hi ⟨r,v4,v5,rfl,hlr,hp⟩
  have hi':i < cs.length:=by omega
  obtain ⟨l1,l2⟩:=rJ hn i
  refine ⟨_,rfl,_,rfl,k,n,i,rfl,?_⟩
  refine ⟨_,rfl,_,rfl,_,rfl,_,rfl,_,_,_,rfl,rfl,wC hi',_,_,rfl,rfl,gq (by decide),_,_,rfl,rfl,sR (by decide),?_⟩
  refine ⟨_,rfl,_,rfl,_,rfl,k,n,i,rfl,hn,_,rfl,_,_,rfl,rfl,_,_,rfl,rfl,?_⟩
  have hp0:(0:Int) < k.high n i - k.low n i + 1:=by omega
  have f0:=Int.fmod_nonneg_of_pos ((cs.getD i 0 * 48271).fmod 2147483647) hp0
  have f1:=Int.fmod_lt_of_pos ((cs.getD i 0 * 48271).fmod 2147483647) hp0
  refine ⟨_,_,rfl,rfl,(by show k.high n i - k.low n i + 1 ≠ 0; omega),_,_,rfl,rfl,by rw [zG]; omega,?_⟩
  obtain ⟨r',e1,e2,e3⟩:=Fg.snoc hlr hp (f:=k.low n i + ((cs.getD i 0 * 48271).fmod 2147483647).fmod (k.high n i - k.low n i + 1)) ⟨by omega,by omega⟩
  exact ⟨r',_,_,by rw [← e1]; rfl,e2,e3⟩
 ·rintro ρ' ⟨r0,v4,v5,rfl,hl0,hp0⟩
  rw [Int.toNat_natCast,ll] at hl0 hp0
  have hF0:Fg k n r0:=fun p hp=>hp0 p (by omega)
  have l0:=zG r0
  walk_at "rd"
  refine ⟨_,_,fun i ρ=>∃ (r:List Int) (v4:Sl),ρ=[.some (.str k.nam),.some (.int n),.some (zC cs),.own (r.map Dt.int),v4,v5]∧r.length=r0.length∧Fg k n r∧Fl k n r i,rfl,by omega,by omega,by decide,by decide,⟨r0,_,rfl,rfl,hF0,fun _ q h1 h2=>by omega⟩,?_,?_⟩
  ·rintro i ρ' hi ⟨r,v4,rfl,hr1,hF,hL⟩
   have lr:=zG r
   obtain ⟨p,hp⟩:∃ p:Nat,p + i + 1=r0.length:=⟨r0.length - 1 - i,by omega⟩
   have ep:((List.map Dt.int r0).length:Int) - 1 - i=p:=by omega
   rw [ep]
   have h0:0 < p:=by omega
   have done:(k.isF=true→r.getD p 0 ≠ n∨r.getD (p - 1) 0=0)→Fl k n r (i + 1):=fun hz hk q h1 h2 h3=>by
    rcases (by omega:r.length ≤ q + 1 + i∨q + 1=p) with z | z
    ·exact hL hk q z h2 h3
    ·subst z
     rcases hz hk with hz | hz
     ·exact absurd h3 hz
     ·exact hz
   by_cases hk:k=.falling
   ·subst hk
    refine ⟨_,rfl,_,_,rfl,rfl,_,rfl,ifT rfl ?_⟩
    refine ⟨_,rfl,_,rfl,_,_,rfl,vj (by omega) (by omega),_,rfl,rfl,rfl,_,rfl,?_⟩
    rw [Int.toNat_natCast]
    refine ifB (fun h4=>?_) (fun h4=>⟨r,_,rfl,hr1,hF,done fun _=>.inl (vG h4)⟩)
    refine ⟨_,rfl,_,rfl,_,_,rfl,rfl,_,_,rfl,jr (by omega) (by rw [zG]; omega),?_⟩
    have e1:((p:Int) - 1).toNat=p - 1:=by omega
    rw [e1,mC]
    refine ⟨r.set (p - 1) 0,_,rfl,by rw [List.length_set]; exact hr1,hF.put hn _,fun hk q h1 h2 h3=>?_⟩
    rw [List.length_set] at h1 h2
    rcases (by omega:r.length ≤ q + 1 + i∨q + 1=p) with z | z
    ·exact (hL.put hn (show p - 1 + i < r.length by omega)) hk q (by rw [List.length_set]; exact z) (by rw [List.length_set]; exact h2) h3
    ·subst z
     exact yl (by omega)
   ·have en:(k.nam == Str.ofString "falling")=false:=by cases k <;> first | rfl | exact absurd rfl hk
    exact ⟨_,rfl,_,_,rfl,rfl,_,rfl,ifF en (ifF rfl ⟨r,_,rfl,hr1,hF,done fun h=>absurd (by cases k <;> first | rfl | cases h) hk⟩)⟩
  ·rintro ρ' ⟨r,v4,rfl,hr1,hF,hL⟩
   refine q9 rfl ?_
   have:=uM r
   have hg:Lg k n r:=⟨hF,fun hk q h1 h2=>hL hk q (by omega) h1 h2⟩
   exact ⟨_,rfl,q _ hg.trim (by omega)⟩
abbrev xw:Stmt:=top 56
theorem sc_law_spoilt:zf ["_law_name","_law_number","_law_row","_law_cell","_law_at","_law_beyond"] ["_law_name","_law_number","_law_row","_law_cell"] (defScope xw):=⟨rfl,rfl,rfl,by decide +kernel,rfl,by decide +kernel,by decide +kernel⟩
theorem tY (T:Txt K mg A) (G__law_high:DOk P w K mg base 1 "_law_high" (uH)) (G__law_low:DOk P w K mg base 1 "_law_low" (rZ)) (F:Fun K "_law_spoilt" "_law_spoilt" xw f fd):FnOk P w K mg base CX0 2 f fd ["_law_name","_law_number","_law_row","_law_cell"] (zp K (sY)):=by
 refine okD F sc_law_spoilt (fun ds Q h=>?_) (fun cdv A' outer s H E hr ds Q h=>?_)
 ·obtain ⟨k,n,r,c,rfl,hn,hl,q⟩:=h
  rfl
 obtain ⟨k,n,r,c,rfl,hn,hl,q⟩:=h
 refine ⟨_,(zb (zl (i:=4) sc_law_spoilt.nd rfl (Or.inl rfl) (zg yC (zg xj (dv 3) zc) (zg zP (yG rfl T.len (dv 2)) zc)))
 (zb (zx (zq (x5 hr) (zg yC (dv 3) zc) zc (zo _)) (ze (zh (zg wY (dv 2) (DF.de (gN (zI (za zc zd)) (zg zP zc (zg yC (zg xj (dv 3) zc) zc))))))) zk)
 (zb (zl (i:=5) sc_law_spoilt.nd rfl (Or.inl rfl) (zg zP (zg zP (zi G__law_high (hr.mono (by decide)) rfl (za (dv 0) (za (dv 1) (za (dv 4) zd)))) zc) (zg yC (zg xj (dv 3) zc) (zg ic zc zc))))
 (z5 (zx (zq (x5 hr) (zg yC (dv 3) zc) zc (zo _)) (ze (zl (i:=5) sc_law_spoilt.nd rfl (Or.inl rfl) (zg yb (zg yb (zi G__law_low (hr.mono (by decide)) rfl (za (dv 0) (za (dv 1) zd))) zc) (zg yC (zg xj (dv 3) zc) (zg ic zc zc))))) zk)
 (ze (zh (zg wY (zg wY (tF (dv 2) oY (uC (dv 4))) (zI (za (dv 5) zd))) (tF (dv 2) (uC (zg zP (dv 4) zc)) oY)))))))),?_⟩
 have ll:=zG r
 obtain ⟨b1,b2⟩:=xL hn
 have hp:(0:Int) < (r.length:Int) + 1:=by omega
 have a0:=Int.fmod_nonneg_of_pos (c.fdiv 4) hp
 have a1:=Int.fmod_lt_of_pos (c.fdiv 4) hp
 obtain ⟨a,ea⟩:∃ a:Nat,(c.fdiv 4).fmod ((r.length:Int) + 1)=a:=⟨_,(Int.toNat_of_nonneg a0).symm⟩
 have ha:a ≤ r.length:=by omega
 have z0:=Int.fmod_nonneg_of_pos (c.fdiv 4) (show (0:Int) < 3 by decide)
 have z1:=Int.fmod_lt_of_pos (c.fdiv 4) (show (0:Int) < 3 by decide)
 have t0:=Int.fmod_nonneg_of_pos (c.fdiv 40) (show (0:Int) < 10 ^ 20 by decide)
 walk_at "rd"
 rw [ll]
 refine ⟨(by show (r.length:Int) + 1 ≠ 0; omega),?_⟩
 dsimp only
 rw [ea]
 walk_at "rd"
 refine ifB (fun h=>?_) (fun h=>?_)
 ·refine ⟨_,rfl,?_⟩
  walk_at "rd"
  refine ⟨by omega,by omega,by show 1 * _ ≤ _; omega,?_⟩
  obtain ⟨m,hm⟩:∃ m:Nat,(1 + (c.fdiv 4).fmod 3).toNat=m + 1:=⟨(c.fdiv 4).fmod 3 |>.toNat,by omega⟩
  rw [hm,mI]
  refine ⟨_,_,rfl,rfl,by rw [ll,zG,List.length_replicate]; omega,?_⟩
  rw [tJ]
  exact q _ (km m) (by rw [List.length_append,List.length_replicate]; omega)
 refine ⟨_,rfl,_,rfl,_,rfl,k,n,a,rfl,hn,?_⟩
 walk_at "rd"
 refine ⟨fun ρ=>∃ x:Int,ρ=[.some (.str k.nam),.some (.int n),.some (zC r),.some (.int c),.some (.int a),.some (.int x)]∧(x < k.low n a∨k.high n a < x),?_,?_⟩
 ·walk_at "rd"
  refine ifB (fun h2=>?_) (fun h2=>⟨_,rfl,.inr (by show _ < k.high n a + 1 + (c.fdiv 40).fmod (10 ^ 20); omega)⟩)
  refine ⟨_,rfl,_,rfl,k,n,a,rfl,?_⟩
  walk_at "rd"
  exact .inl (by show k.low n a - 1 - (c.fdiv 40).fmod (10 ^ 20) < _; omega)
 ·rintro ρ ⟨x,rfl,hx⟩
  walk_at "rd"
  rw [l9,show [Dt.int x]=[x].map Dt.int from rfl]
  have l1:(r.take a).length=a:=by rw [List.length_take]; omega
  refine ⟨by rw [zG,l1]; show _ + 1 ≤ _; omega,?_⟩
  refine ⟨_,rfl,_,rfl,_,_,rfl,rfl,_,rfl,_,rfl,?_⟩
  rw [show ((a:Int) + 1)=((a + 1:Nat):Int) by omega,kb,tJ]
  refine ⟨_,_,rfl,rfl,?_,?_⟩
  rotate_left
  ·rw [tJ]
   refine q _ (jR ha hx) ?_
   rw [List.length_append,List.length_append,List.length_drop,l1]; show _ + 1 + _ ≤ _; omega
  ·rw [zG,zG,List.length_append,List.length_drop,l1]; show _ + 1 + _ ≤ _; omega
abbrev wz:Stmt:=top 53
theorem qp:zf ["_law_name","_law_number","_law_place","_law_here","_law_lower"] ["_law_name","_law_number","_law_place","_law_here","_law_lower"] (defScope wz):=⟨rfl,rfl,rfl,by decide +kernel,rfl,by decide +kernel,by decide +kernel⟩
theorem qB (T:Txt K mg A) (F:Fun K "_law_next" "_law_next" wz f fd):FnOk P w K mg base CX0 1 f fd ["_law_name","_law_number","_law_place","_law_here","_law_lower"] (zp K (nh)):=by
 refine okD F qp (fun ds Q h=>?_) (fun cdv A' outer s H E hr ds Q h=>?_)
 ·obtain ⟨k,n,j,lo,rfl,hn,hj,⟨c,d,rfl,hlo⟩,q⟩:=h
  rfl
 obtain ⟨k,n,j,lo,rfl,hn,hj,⟨c,d,rfl,hlo⟩,q⟩:=h
 refine ⟨_,(zb (zx (zq (yI) (dv 0) zt (zo _)) (ze (zh (zw (za (zg z4 (zv (dv 3) zc (fun _ _=>rfl)) (dv 1)) (za zc zd))))) zk)
 (zb (zx (zq (yI) (dv 0) zt (zo _)) (ze (zh (zw (za (zg yb zc (zg z4 (zv (dv 3) zc (fun _ _=>rfl)) (dv 1))) (za zc zd))))) zk)
 (zb (zx (zq (yI) (dv 0) zt (zo _)) (ze (zh (zw (za (zg z4 (zv (dv 3) zc (fun _ _=>rfl)) (zg zP (zg z4 zc (dv 1)) zc)) (za zc zd))))) zk)
 (zb (zx (zq (yI) (dv 0) zt (zo _)) (ze (zh (zw (za (zg z4 (zv (dv 3) zc (fun _ _=>rfl)) (zg zP (dv 1) (dv 2))) (za zc zd))))) zk)
 (zb (zx (zq (yI) (dv 0) zt (zo _)) (ze (zh (zw (za (zg zP (zg z4 (dv 1) (zv (dv 3) zc (fun _ _=>rfl))) (zv (dv 4) zc (fun _ _=>rfl))) (za zc zd))))) zk)
 (ze (zh (zw (za (zg yb (zg yb zc (zg z4 (dv 1) (zv (dv 3) zc (fun _ _=>rfl)))) (zv (dv 3) zc (fun _ _=>rfl))) (za (zg yb (zv (dv 3) zc (fun _ _=>rfl)) (zg z4 (dv 1) (zv (dv 3) zc (fun _ _=>rfl)))) zd)))))))))),?_⟩
 obtain ⟨b1,b2⟩:=xL hn
 have e0:(0:Int) - n=-n:=by omega
 cases k with
 | falling=>
  obtain rfl:=hlo rfl
  repeat (first | (walk_at "rd1") | refine ⟨xS (by omega) (by omega) _,?_⟩)
  exact q
 | pairs=>
  obtain ⟨x,y,e⟩:=wt2 (n:=n) j
  have e:wt .pairs n j=.p x y:=e
  have eq_:wt .pairs n (j + 1)=.p (0 - n * x - y) (x - n * y):=by
   rw [z7 rfl,e]
   show Nm.p (-n * x - 1 * y) (-n * y + 1 * x)=_
   congr 1 <;> grind
  rw [eq_] at q
  rw [e]
  repeat (first | (walk_at "rd1") | refine ⟨xS (by omega) (by omega) _,?_⟩)
  exact q
 | plain=>
  obtain ⟨x,e⟩:=wtI (k:=.plain) (n:=n) (fun h=>nomatch h) j
  have eq_:wt .plain n (j + 1)=.i (x * n):=by
   rw [z7 rfl,e]
   show Nm.i (n * x)=_
   rw [Int.mul_comm]
  rw [eq_] at q
  rw [e]
  repeat (first | (walk_at "rd1") | refine ⟨small (by omega) (by omega) _,?_⟩)
  exact q
 | below=>
  obtain ⟨x,e⟩:=wtI (k:=.below) (n:=n) (fun h=>nomatch h) j
  have eq_:wt .below n (j + 1)=.i (0 - x * n):=by
   rw [z7 rfl,e]
   show Nm.i (-n * x)=_
   congr 1
   grind
  rw [eq_] at q
  rw [e]
  repeat (first | (walk_at "rd1") | refine ⟨small (by omega) (by omega) _,?_⟩)
  exact q
 | balanced=>
  obtain ⟨x,e⟩:=wtI (k:=.balanced) (n:=n) (fun h=>nomatch h) j
  have eq_:wt .balanced n (j + 1)=.i (x * (2 * n + 1)):=by
   rw [z7 rfl,e]
   show Nm.i ((2 * n + 1) * x)=_
   rw [Int.mul_comm]
  rw [eq_] at q
  rw [e]
  repeat (first | (walk_at "rd1") | refine ⟨small (by omega) (by omega) _,?_⟩)
  exact q
 | growing=>
  obtain ⟨x,e⟩:=wtI (k:=.growing) (n:=n) (fun h=>nomatch h) j
  have eq_:wt .growing n (j + 1)=.i (x * (n + j)):=by
   rw [z7 rfl,e]
   show Nm.i ((n + j) * x)=_
   rw [Int.mul_comm]
  rw [eq_] at q
  rw [e]
  repeat (first | (walk_at "rd1") | refine ⟨small (by omega) (by omega) _,?_⟩)
  exact q
abbrev y_:Stmt:=top 54
theorem sc_law_pair_of:zf ["_law_name","_law_number","_law_row","_law_found","_law_here","_law_lower","_law_place","_law_after"] ["_law_name","_law_number","_law_row"] (defScope y_):=⟨rfl,rfl,rfl,by decide +kernel,rfl,by decide +kernel,by decide +kernel⟩
theorem uW (T:Txt K mg A) (G__law_next:DOk P w K mg base 1 "_law_next" (nh)) (F:Fun K "_law_pair_of" "_law_pair_of" y_ f fd):FnOk P w K mg base CX0 2 f fd ["_law_name","_law_number","_law_row"] (zp K (kz)):=by
 refine okD F sc_law_pair_of (fun ds Q h=>?_) (fun cdv A' outer s H E hr ds Q h=>?_)
 ·obtain ⟨k,n,r,rfl,hn,hl,hb,q⟩:=h
  rfl
 obtain ⟨k,n,r,rfl,hn,hl,hb,q⟩:=h
 refine ⟨_,(zb (zl (i:=3) sc_law_pair_of.nd rfl (Or.inl rfl) (zw (za zc (za zc zd))))
 (zb (zl (i:=4) sc_law_pair_of.nd rfl (Or.inl rfl) (zw (za zc (za zc zd))))
 (zb (zl (i:=5) sc_law_pair_of.nd rfl (Or.inl rfl) (zw (za zc (za zc zd))))
 (zb (vg (j:=6) rfl sc_law_pair_of.nd rfl (Or.inl rfl) PassesOwn.never rfl T.range (yG rfl T.len (dv 2)) (zb (zl (i:=3) sc_law_pair_of.nd rfl (Or.inl rfl) (zw (za (zg zP (zv (dv 3) zc (fun _ _=>rfl)) (zg z4 (zv (dv 2) (dv 6) (fun _ _=>rfl)) (zv (dv 4) zc (fun _ _=>rfl)))) (za (zg zP (zv (dv 3) zc (fun _ _=>rfl)) (zg z4 (zv (dv 2) (dv 6) (fun _ _=>rfl)) (zv (dv 4) zc (fun _ _=>rfl)))) zd))))
 (zb (zl (i:=7) sc_law_pair_of.nd rfl (Or.inl rfl) (zi G__law_next (hr.mono (by decide)) rfl (za (dv 0) (za (dv 1) (za (dv 6) (za (dv 4) (za (dv 5) zd)))))))
 (zb (zl (i:=5) sc_law_pair_of.nd rfl (Or.inl rfl) (dv 4))
 (ze (zl (i:=4) sc_law_pair_of.nd rfl (Or.inl rfl) (dv 7)))))))
 (ze (zh (dv 3))))))),?_⟩
 have ll:=zG r
 walk_at "rd"
 have h0:(wt k n 0).pr=.tup [.int 1,.int 0]:=by cases k <;> rfl
 have h1:(yL k n r 0).pr=.tup [.int 0,.int 0]:=by cases k <;> rfl
 refine ⟨_,fun i ρ=>∃ c d v6 v7,ρ=[.some (.str k.nam),.some (.int n),.some (zC r),.some (yL k n r i).pr,.some (wt k n i).pr,.some (.tup [.int c,.int d]),v6,v7]∧(k=.falling→c=(wtF n i).1),rfl,by omega,by omega,⟨_,_,_,_,by rw [h0,h1]; rfl,fun _=>rfl⟩,?_,?_⟩
 ·rintro i ρ' hi ⟨c,d,v6,v7,rfl,hc⟩
  have hi':i < r.length:=by omega
  have wb:=jY hn (j:=i) (by omega)
  have m1:IntMulOk (r.getD i 0) (wt k n i).re:=vI (rS hb i) wb.1 (by omega)
  have m2:IntMulOk (r.getD i 0) (wt k n i).im:=vI (rS hb i) wb.2 (by omega)
  have es:(yL k n r (i + 1)).pr=.tup [.int ((yL k n r i).re + r.getD i 0 * (wt k n i).re),.int ((yL k n r i).im + r.getD i 0 * (wt k n i).im)]:=by
   unfold Nm.pr
   rw [show yL k n r (i + 1)=(yL k n r i).add ((Nm.i (r.getD i 0)).mul (wt k n i)) from rfl,yt,yH,zH,zM]
   show Dt.tup [.int ((yL k n r i).re + (r.getD i 0 * (wt k n i).re - 0 * (wt k n i).im)),.int ((yL k n r i).im + (r.getD i 0 * (wt k n i).im + 0 * (wt k n i).re))]=_
   rw [Int.zero_mul,Int.zero_mul,Int.sub_zero,Int.add_zero]
  walk_at "rd"
  refine ⟨_,_,_,rfl,rfl,wC hi',?_⟩
  walk_at "rd"
  refine ⟨m1,?_⟩
  walk_at "rd"
  refine ⟨_,_,_,rfl,rfl,wC hi',?_⟩
  walk_at "rd"
  refine ⟨m2,?_⟩
  walk_at "rd"
  refine ⟨k,n,i,_,rfl,hn,by omega,⟨c,d,rfl,hc⟩,?_⟩
  walk_at "rd"
  refine ⟨(wt k n i).re,(wt k n i).im,_,_,by rw [es]; rfl,fun hk=>?_⟩
  subst hk
  rfl
 ·rintro ρ' ⟨c,d,v6,v7,rfl,hc⟩
  rw [Int.toNat_natCast,ll]
  exact ⟨_,rfl,q⟩
abbrev wB:Stmt:=top 1
theorem qs:zf ["value"] ["value"] (defScope wB):=⟨rfl,rfl,rfl,by decide +kernel,rfl,by decide +kernel,by decide +kernel⟩
theorem qD (T:Txt K mg A) (F:Fun K "is_whole" "is_whole" wB f fd):FnOk P w K mg base CX0 1 f fd ["value"] (zp K (yS)):=by
 refine okD F qs (fun ds Q h=>?_) (fun cdv A' outer s H E hr ds Q h=>?_)
 ·obtain ⟨d,b,rfl,hw,q⟩:=h
  rfl
 obtain ⟨d,b,rfl,hw,q⟩:=h
 refine ⟨_,(ze (zh (vS (vR (T:=.int) T.kt T.isinstance T.n_int PyProof.Rows.boot_int (dv 0)) (tG (lW (vR (T:=.bool) T.kt T.isinstance T.n_bool PyProof.Rows.boot_bool (dv 0))))))),?_⟩
 cases d <;> cases hw
 all_goals
  walk_at "rd"
  exact q
abbrev vx:Stmt:=top 21
theorem pF:zf ["number","least","most"] ["number","least","most"] (defScope vx):=⟨rfl,rfl,rfl,by decide +kernel,rfl,by decide +kernel,by decide +kernel⟩
theorem pT (T:Txt K mg A) (G_is_whole:DOk P w K mg base 1 "is_whole" (yS)) (F:Fun K "bounded" "bounded" vx f fd):FnOk P w K mg base CX0 2 f fd ["number","least","most"] (zp K (yz)):=by
 refine okD F pF (fun ds Q h=>?_) (fun cdv A' outer s H E hr ds Q h=>?_)
 ·obtain ⟨n,lo,hi,rfl,h1,h2,q⟩:=h
  rfl
 obtain ⟨n,lo,hi,rfl,h1,h2,q⟩:=h
 refine ⟨_,(zb (zx (DW.dt (tx (xJ (zR (zi G_is_whole (hr.mono (by decide)) rfl (za (dv 0) zd)))) (tx (zq (nO) (dv 0) (dv 1) (zo _)) (vO (zq (jj) (dv 0) (dv 2) (zo _)))))) (ze tD) zk)
 (ze (zh (dv 0)))),?_⟩
 walk_at "rd"
 rw [decide_eq_false (by omega:¬ n < lo)]
 walk_at "rd"
 rw [decide_eq_false (by omega:¬ hi < n)]
 walk_at "rd"
 exact q
abbrev yM:Stmt:=inClass (top 23) 0
theorem tR:zf ["self","base"] ["self","base"] (defScope yM):=⟨rfl,rfl,rfl,by decide +kernel,rfl,by decide +kernel,by decide +kernel⟩
theorem se (T:Txt K mg A) (G_bounded:DOk P w K mg base 2 "bounded" (yz)) (F:Fun K "__init__" "Plain.__init__" yM f fd):FnOk P w K mg base CX0 3 f fd ["self","base"] (y8 A.Plain "base" (Kd.ok .plain)):=by
 refine wq F tR T.cl_Plain T.na_Plain (fun cdv A outer s H E hr=>?_)
 obtain ⟨te,p,l⟩:=((zi G_bounded (hr.mono (by decide)) rfl (za (dv 1) (za zc (za zc zd)))):DE (yu CX0 P w K mg base ["self","base"] "Plain.__init__" (defScope yM) f cdv A outer s H E).nox _ _)
 refine ⟨te,_,xE (vB (pv 0) p rfl),l,fun i hi=>?_⟩
 exact ⟨_,rfl,_,_,_,rfl,hi.1,hi.2,rfl⟩
abbrev yO:Stmt:=inClass (top 24) 0
theorem tV:zf ["self","base"] ["self","base"] (defScope yO):=⟨rfl,rfl,rfl,by decide +kernel,rfl,by decide +kernel,by decide +kernel⟩
theorem sk (T:Txt K mg A) (G_bounded:DOk P w K mg base 2 "bounded" (yz)) (F:Fun K "__init__" "Below.__init__" yO f fd):FnOk P w K mg base CX0 3 f fd ["self","base"] (y8 A.Below "base" (Kd.ok .below)):=by
 refine wq F tV T.cl_Below T.na_Below (fun cdv A outer s H E hr=>?_)
 obtain ⟨te,p,l⟩:=((zi G_bounded (hr.mono (by decide)) rfl (za (dv 1) (za zc (za zc zd)))):DE (yu CX0 P w K mg base ["self","base"] "Below.__init__" (defScope yO) f cdv A outer s H E).nox _ _)
 refine ⟨te,_,xE (vB (pv 0) p rfl),l,fun i hi=>?_⟩
 exact ⟨_,rfl,_,_,_,rfl,hi.1,hi.2,rfl⟩
abbrev yg:Stmt:=inClass (top 25) 0
theorem vm:zf ["self","half"] ["self","half"] (defScope yg):=⟨rfl,rfl,rfl,by decide +kernel,rfl,by decide +kernel,by decide +kernel⟩
theorem vE (T:Txt K mg A) (G_bounded:DOk P w K mg base 2 "bounded" (yz)) (F:Fun K "__init__" "Balanced.__init__" yg f fd):FnOk P w K mg base CX0 3 f fd ["self","half"] (y8 A.Balanced "half" (Kd.ok .balanced)):=by
 refine wq F vm T.cl_Balanced T.na_Balanced (fun cdv A outer s H E hr=>?_)
 obtain ⟨te,p,l⟩:=((zi G_bounded (hr.mono (by decide)) rfl (za (dv 1) (za zc (za zc zd)))):DE (yu CX0 P w K mg base ["self","half"] "Balanced.__init__" (defScope yg) f cdv A outer s H E).nox _ _)
 refine ⟨te,_,xE (vB (pv 0) p rfl),l,fun i hi=>?_⟩
 exact ⟨_,rfl,_,_,_,rfl,hi.1,hi.2,rfl⟩
abbrev yn:Stmt:=inClass (top 26) 0
theorem uc:zf ["self","first"] ["self","first"] (defScope yn):=⟨rfl,rfl,rfl,by decide +kernel,rfl,by decide +kernel,by decide +kernel⟩
theorem uj (T:Txt K mg A) (G_bounded:DOk P w K mg base 2 "bounded" (yz)) (F:Fun K "__init__" "Growing.__init__" yn f fd):FnOk P w K mg base CX0 3 f fd ["self","first"] (y8 A.Growing "first" (Kd.ok .growing)):=by
 refine wq F uc T.cl_Growing T.na_Growing (fun cdv A outer s H E hr=>?_)
 obtain ⟨te,p,l⟩:=((zi G_bounded (hr.mono (by decide)) rfl (za (dv 1) (za zc (za zc zd)))):DE (yu CX0 P w K mg base ["self","first"] "Growing.__init__" (defScope yn) f cdv A outer s H E).nox _ _)
 refine ⟨te,_,xE (vB (pv 0) p rfl),l,fun i hi=>?_⟩
 exact ⟨_,rfl,_,_,_,rfl,hi.1,hi.2,rfl⟩
abbrev yp:Stmt:=inClass (top 27) 0
theorem ue:zf ["self","most"] ["self","most"] (defScope yp):=⟨rfl,rfl,rfl,by decide +kernel,rfl,by decide +kernel,by decide +kernel⟩
theorem ul (T:Txt K mg A) (G_bounded:DOk P w K mg base 2 "bounded" (yz)) (F:Fun K "__init__" "Falling.__init__" yp f fd):FnOk P w K mg base CX0 3 f fd ["self","most"] (y8 A.Falling "most" (Kd.ok .falling)):=by
 refine wq F ue T.cl_Falling T.na_Falling (fun cdv A outer s H E hr=>?_)
 obtain ⟨te,p,l⟩:=((zi G_bounded (hr.mono (by decide)) rfl (za (dv 1) (za zc (za zc zd)))):DE (yu CX0 P w K mg base ["self","most"] "Falling.__init__" (defScope yp) f cdv A outer s H E).nox _ _)
 refine ⟨te,_,xE (vB (pv 0) p rfl),l,fun i hi=>?_⟩
 exact ⟨_,rfl,_,_,_,rfl,hi.1,hi.2,rfl⟩
abbrev yN:Stmt:=inClass (top 28) 0
theorem tT:zf ["self","most"] ["self","most"] (defScope yN):=⟨rfl,rfl,rfl,by decide +kernel,rfl,by decide +kernel,by decide +kernel⟩
theorem si (T:Txt K mg A) (G_bounded:DOk P w K mg base 2 "bounded" (yz)) (F:Fun K "__init__" "Pairs.__init__" yN f fd):FnOk P w K mg base CX0 3 f fd ["self","most"] (y8 A.Pairs "most" (Kd.ok .pairs)):=by
 refine wq F tT T.cl_Pairs T.na_Pairs (fun cdv A outer s H E hr=>?_)
 obtain ⟨te,p,l⟩:=((zi G_bounded (hr.mono (by decide)) rfl (za (dv 1) (za zc (za zc zd)))):DE (yu CX0 P w K mg base ["self","most"] "Pairs.__init__" (defScope yN) f cdv A outer s H E).nox _ _)
 refine ⟨te,_,xE (vB (pv 0) p rfl),l,fun i hi=>?_⟩
 exact ⟨_,rfl,_,_,_,rfl,hi.1,hi.2,rfl⟩
abbrev vt:Stmt:=top 49
theorem pC:zf ["_law_name","_law_number"] ["_law_name","_law_number"] (defScope vt):=⟨rfl,rfl,rfl,by decide +kernel,rfl,by decide +kernel,by decide +kernel⟩
theorem pQ (T:Txt K mg A) (M_Plain:KOk P w K mg base 3 "Plain" A.Plain "base" (Kd.ok .plain)) (M_Below:KOk P w K mg base 3 "Below" A.Below "base" (Kd.ok .below)) (M_Balanced:KOk P w K mg base 3 "Balanced" A.Balanced "half" (Kd.ok .balanced)) (M_Growing:KOk P w K mg base 3 "Growing" A.Growing "first" (Kd.ok .growing)) (M_Falling:KOk P w K mg base 3 "Falling" A.Falling "most" (Kd.ok .falling)) (M_Pairs:KOk P w K mg base 3 "Pairs" A.Pairs "most" (Kd.ok .pairs)) (F:Fun K "_law_way" "_law_way" vt f fd):FnOk P w K mg base CX0 5 f fd ["_law_name","_law_number"] (zp K (ku A)):=by
 refine okD F pC (fun ds Q h=>?_) (fun cdv A' outer s H E hr ds Q h=>?_)
 ·obtain ⟨k,n,rfl,hn,q⟩:=h
  rfl
 obtain ⟨k,n,rfl,hn,q⟩:=h
 refine ⟨_,(zb (zx (zq (yI) (dv 0) zt (zo _)) (ze (zh (ww M_Plain (hr.mono (by decide)) rfl (za (dv 1) zd)))) zk)
 (zb (zx (zq (yI) (dv 0) zt (zo _)) (ze (zh (ww M_Below (hr.mono (by decide)) rfl (za (dv 1) zd)))) zk)
 (zb (zx (zq (yI) (dv 0) zt (zo _)) (ze (zh (ww M_Balanced (hr.mono (by decide)) rfl (za (dv 1) zd)))) zk)
 (zb (zx (zq (yI) (dv 0) zt (zo _)) (ze (zh (ww M_Growing (hr.mono (by decide)) rfl (za (dv 1) zd)))) zk)
 (zb (zx (zq (yI) (dv 0) zt (zo _)) (ze (zh (ww M_Falling (hr.mono (by decide)) rfl (za (dv 1) zd)))) zk)
 (ze (zh (ww M_Pairs (hr.mono (by decide)) rfl (za (dv 1) zd))))))))),?_⟩
 cases k
 all_goals
  walk_at "rd"
  exact ⟨hn,q⟩
abbrev zB:Stmt:=top 37
theorem sc_has_mosts_above_noughts_alone:zf ["way","row","place"] ["way","row"] (defScope zB):=⟨rfl,rfl,rfl,by decide +kernel,rfl,by decide +kernel,by decide +kernel⟩
theorem yr (T:Txt K mg A) (F:Fun K "has_mosts_above_noughts_alone" "has_mosts_above_noughts_alone" zB f fd):FnOk P w K mg base CX0 1 f fd ["way","row"] (zp K (ni A)):=by
 refine okD F sc_has_mosts_above_noughts_alone (fun ds Q h=>?_) (fun cdv A' outer s H E hr ds Q h=>?_)
 ·obtain ⟨n,r,rfl,hn,hl,q⟩:=h
  rfl
 obtain ⟨n,r,rfl,hn,hl,q⟩:=h
 refine ⟨_,(zb (lR (j:=2) rfl sc_has_mosts_above_noughts_alone.nd rfl (Or.inl rfl) PassesOwn.never rfl T.range (za zc (za (yG rfl T.len (dv 1)) zd)) (ze (zx (DW.dt (yd (zq (x5 hr) (zv (dv 1) (dv 2) (fun _ _=>rfl)) (zT (dv 0)) (zo _)) (zW (zq (rG hr) (zv (dv 1) (zg yb (dv 2) zc) (fun _ _=>rfl)) zc (zo _))))) (ze (zh xq)) zk)))
 (ze (zh xq))),?_⟩
 walk_at "rd"
 have ll:=zG r
 refine ⟨_,_,fun i ρ=>∃ v,ρ=[.some (zK A .falling n),.some (zC r),v]∧∀ p:Nat,p < i→r.getD (p + 1) 0=n→r.getD p 0=0,rfl,by decide,by decide,by omega,by omega,⟨_,rfl,fun p hp=>absurd hp (Nat.not_lt_zero _)⟩,?_,?_⟩
 ·rintro i ρ' hi ⟨v,rfl,hp⟩
  rw [ll] at hi
  have e1:(1 + (i:Int)).toNat=i + 1:=by omega
  have e2:(1 + (i:Int) - 1).toNat=i:=by omega
  refine ⟨_,rfl,_,rfl,_,_,_,rfl,rfl,vj (by omega) (by omega),_,rfl,_,_,_,rfl,rfl,T.cl_Falling,T.na_Falling,rfl,rfl,_,rfl,?_⟩
  rw [e1]
  refine ifB (fun h=>?_) (fun h=>ifF rfl ?_)
  ·refine ⟨_,rfl,_,rfl,_,_,rfl,rfl,_,_,_,rfl,rfl,vj (by omega) (by omega),rfl,rfl,_,rfl,?_⟩
   rw [e2]
   refine ifB (fun h'=>?_) (fun h'=>?_)
   ·refine q false ⟨fun z=>(Bool.false_ne_true z).elim,fun z=>?_⟩
    exact absurd (z i (by omega) (u4 h)) (vG (f_ h'))
   ·refine ⟨.some (.int (1 + i)),rfl,fun p hp'=>?_⟩
    rcases (by omega:p < i∨p=i) with z | z
    ·exact hp p z
    ·subst z
     exact fun _=>u4 (eh h')
  ·refine ⟨.some (.int (1 + i)),rfl,fun p hp'=>?_⟩
   rcases (by omega:p < i∨p=i) with z | z
   ·exact hp p z
   ·subst z
    exact fun z=>absurd z (vG h)
 ·rintro ρ' ⟨v,rfl,hp⟩
  rw [ll] at hp
  exact q true ⟨fun _ p hp'=>hp p (by omega),fun _=>rfl⟩
abbrev vz:Stmt:=inClass (top 22) 1
theorem pH:zf ["self","place"] ["self","place"] (defScope vz):=⟨rfl,rfl,rfl,by decide +kernel,rfl,by decide +kernel,by decide +kernel⟩
theorem y4 (T:Txt K mg A) (F:Fun K "low" "Way.low" vz f fd):FnOk P w K mg base CX0 1 f fd ["self","place"] (zp K (fc)):=by
 refine okD F pH (fun ds Q h=>?_) (fun cdv A' outer s H E hr ds Q h=>?_)
 ·obtain ⟨o,p,rfl,q⟩:=h
  rfl
 obtain ⟨o,p,rfl,q⟩:=h
 refine ⟨_,(ze (zh zc)),?_⟩
 exact q
abbrev y1:Stmt:=inClass (top 25) 1
theorem ug:zf ["self","place"] ["self","place"] (defScope y1):=⟨rfl,rfl,rfl,by decide +kernel,rfl,by decide +kernel,by decide +kernel⟩
theorem uo (T:Txt K mg A) (F:Fun K "low" "Balanced.low" y1 f fd):FnOk P w K mg base CX0 1 f fd ["self","place"] (zp K (xr A .balanced (Kd.low .balanced))):=by
 refine okD F ug (fun ds Q h=>?_) (fun cdv A' outer s H E hr ds Q h=>?_)
 ·obtain ⟨n,p,rfl,hn,q⟩:=h
  rfl
 obtain ⟨n,p,rfl,hn,q⟩:=h
 refine ⟨_,(ze (zh (xn (zT (dv 0))))),?_⟩
 exact ⟨_,rfl,_,_,_,rfl,rfl,T.cl_Balanced,T.na_Balanced,_,rfl,q⟩
abbrev xB:Stmt:=inClass (top 23) 1
theorem tS:zf ["self","place"] ["self","place"] (defScope xB):=⟨rfl,rfl,rfl,by decide +kernel,rfl,by decide +kernel,by decide +kernel⟩
theorem sf (T:Txt K mg A) (F:Fun K "high" "Plain.high" xB f fd):FnOk P w K mg base CX0 1 f fd ["self","place"] (zp K (xr A .plain (Kd.high .plain))):=by
 refine okD F tS (fun ds Q h=>?_) (fun cdv A' outer s H E hr ds Q h=>?_)
 ·obtain ⟨n,p,rfl,hn,q⟩:=h
  rfl
 obtain ⟨n,p,rfl,hn,q⟩:=h
 refine ⟨_,(ze (zh (zg yb (zT (dv 0)) zc))),?_⟩
 exact ⟨_,rfl,_,_,_,rfl,rfl,T.cl_Plain,T.na_Plain,_,_,rfl,rfl,q⟩
abbrev xD:Stmt:=inClass (top 24) 1
theorem tW:zf ["self","place"] ["self","place"] (defScope xD):=⟨rfl,rfl,rfl,by decide +kernel,rfl,by decide +kernel,by decide +kernel⟩
theorem sr (T:Txt K mg A) (F:Fun K "high" "Below.high" xD f fd):FnOk P w K mg base CX0 1 f fd ["self","place"] (zp K (xr A .below (Kd.high .below))):=by
 refine okD F tW (fun ds Q h=>?_) (fun cdv A' outer s H E hr ds Q h=>?_)
 ·obtain ⟨n,p,rfl,hn,q⟩:=h
  rfl
 obtain ⟨n,p,rfl,hn,q⟩:=h
 refine ⟨_,(ze (zh (zg yb (zT (dv 0)) zc))),?_⟩
 exact ⟨_,rfl,_,_,_,rfl,rfl,T.cl_Below,T.na_Below,_,_,rfl,rfl,q⟩
abbrev yE:Stmt:=inClass (top 25) 2
theorem vn:zf ["self","place"] ["self","place"] (defScope yE):=⟨rfl,rfl,rfl,by decide +kernel,rfl,by decide +kernel,by decide +kernel⟩
theorem vF (T:Txt K mg A) (F:Fun K "high" "Balanced.high" yE f fd):FnOk P w K mg base CX0 1 f fd ["self","place"] (zp K (xr A .balanced (Kd.high .balanced))):=by
 refine okD F vn (fun ds Q h=>?_) (fun cdv A' outer s H E hr ds Q h=>?_)
 ·obtain ⟨n,p,rfl,hn,q⟩:=h
  rfl
 obtain ⟨n,p,rfl,hn,q⟩:=h
 refine ⟨_,(ze (zh (zT (dv 0)))),?_⟩
 exact ⟨_,rfl,_,_,_,rfl,rfl,T.cl_Balanced,T.na_Balanced,q⟩
abbrev yZ:Stmt:=inClass (top 26) 1
theorem ud:zf ["self","place"] ["self","place"] (defScope yZ):=⟨rfl,rfl,rfl,by decide +kernel,rfl,by decide +kernel,by decide +kernel⟩
theorem uk (T:Txt K mg A) (F:Fun K "high" "Growing.high" yZ f fd):FnOk P w K mg base CX0 1 f fd ["self","place"] (zp K (xr A .growing (Kd.high .growing))):=by
 refine okD F ud (fun ds Q h=>?_) (fun cdv A' outer s H E hr ds Q h=>?_)
 ·obtain ⟨n,p,rfl,hn,q⟩:=h
  rfl
 obtain ⟨n,p,rfl,hn,q⟩:=h
 refine ⟨_,(ze (zh (zg yb (zg zP (zT (dv 0)) (dv 1)) zc))),?_⟩
 exact ⟨_,rfl,_,_,_,rfl,rfl,T.cl_Growing,T.na_Growing,_,rfl,_,_,rfl,rfl,_,_,rfl,rfl,q⟩
abbrev y0:Stmt:=inClass (top 27) 1
theorem uf:zf ["self","place"] ["self","place"] (defScope y0):=⟨rfl,rfl,rfl,by decide +kernel,rfl,by decide +kernel,by decide +kernel⟩
theorem um (T:Txt K mg A) (F:Fun K "high" "Falling.high" y0 f fd):FnOk P w K mg base CX0 1 f fd ["self","place"] (zp K (xr A .falling (Kd.high .falling))):=by
 refine okD F uf (fun ds Q h=>?_) (fun cdv A' outer s H E hr ds Q h=>?_)
 ·obtain ⟨n,p,rfl,hn,q⟩:=h
  rfl
 obtain ⟨n,p,rfl,hn,q⟩:=h
 refine ⟨_,(ze (zh (zT (dv 0)))),?_⟩
 exact ⟨_,rfl,_,_,_,rfl,rfl,T.cl_Falling,T.na_Falling,q⟩
abbrev xC:Stmt:=inClass (top 28) 2
theorem tU:zf ["self","place"] ["self","place"] (defScope xC):=⟨rfl,rfl,rfl,by decide +kernel,rfl,by decide +kernel,by decide +kernel⟩
theorem sj (T:Txt K mg A) (F:Fun K "high" "Pairs.high" xC f fd):FnOk P w K mg base CX0 1 f fd ["self","place"] (zp K (xr A .pairs (Kd.high .pairs))):=by
 refine okD F tU (fun ds Q h=>?_) (fun cdv A' outer s H E hr ds Q h=>?_)
 ·obtain ⟨n,p,rfl,hn,q⟩:=h
  rfl
 obtain ⟨n,p,rfl,hn,q⟩:=h
 refine ⟨_,(ze (zh (zg z4 (zT (dv 0)) (zT (dv 0))))),?_⟩
 obtain ⟨h1,h2⟩:=xL hn
 exact ⟨_,rfl,_,_,_,rfl,rfl,T.cl_Pairs,T.na_Pairs,_,rfl,_,_,_,rfl,rfl,T.cl_Pairs,T.na_Pairs,_,_,rfl,rfl,small (by omega) (by omega) _,q⟩
abbrev yc:Stmt:=top 36
theorem sc_has_figures_alone:zf ["way","row","place","thing"] ["way","row"] (defScope yc):=⟨rfl,rfl,rfl,by decide +kernel,rfl,by decide +kernel,by decide +kernel⟩
theorem xZ (T:Txt K mg A) (HLo:∀ k:Kd,MOk P w K mg base 1 (A.at k) "low" (xr A k (k.low))∧MOk P w K mg base 1 (A.at k) "high" (xr A k (k.high))) (F:Fun K "has_figures_alone" "has_figures_alone" yc f fd):FnOk P w K mg base CX0 2 f fd ["way","row"] (zp K (kC A)):=by
 refine okD F sc_has_figures_alone (fun ds Q h=>?_) (fun cdv A' outer s H E hr ds Q h=>?_)
 ·obtain ⟨k,n,r,rfl,hn,hl,q⟩:=h
  rfl
 obtain ⟨k,n,r,rfl,hn,hl,q⟩:=h
 refine ⟨_,(zb (vP (i:=2) (j:=3) rfl sc_has_figures_alone.nd rfl rfl (Or.inl rfl) (Or.inl rfl) PassesOwn.never rfl T.n_enumerate (za (dv 1) zd) (ze (zx (DW.dt (tx (zq (nO) (dv 3) (yR hr (dv 0) (za (dv 2) zd)) (zo _)) (vO (zq (jj) (dv 3) (yR hr (dv 0) (za (dv 2) zd)) (zo _))))) (ze (zh xq)) zk)))
 (ze (zh xq))),?_⟩
 obtain ⟨M1,M2⟩:=HLo k
 walk_at "rd"
 refine ⟨_,_,fun i ρ=>∃ v u,ρ=[.some (zK A k n),.some (zC r),v,u]∧∀ p:Nat,p < i→k.low n p ≤ r.getD p 0∧r.getD p 0 ≤ k.high n p,rfl,rfl,⟨_,_,rfl,fun p hp=>absurd hp (Nat.not_lt_zero _)⟩,?_,?_⟩
 ·rintro i x ρ' hx ⟨v,u,rfl,hp⟩
  obtain ⟨rfl,hi⟩:=lC hx
  refine ⟨_,rfl,_,rfl,_,_,_,_,rfl,iw k,M1.mono (by decide),_,rfl,n,i,rfl,hn,_,_,rfl,rfl,_,rfl,?_⟩
  refine ifB (fun h=>ifT rfl ?_) (fun h=>?_)
  ·refine q false ⟨fun z=>(Bool.false_ne_true z).elim,fun z=>?_⟩
   have:=z i hi
   have h:=of_decide_eq_true h
   omega
  ·refine ⟨_,rfl,_,rfl,_,_,_,_,rfl,lM k,M2.mono (by decide),_,rfl,n,i,rfl,hn,_,_,rfl,rfl,_,rfl,?_⟩
   have h:=of_decide_eq_false h
   refine ifB (fun h'=>?_) (fun h'=>?_)
   ·refine q false ⟨fun z=>(Bool.false_ne_true z).elim,fun z=>?_⟩
    have:=z i hi
    have h':=of_decide_eq_true h'
    omega
   ·have h':=of_decide_eq_false h'
    refine ⟨.some (.int i),.some (.int (r.getD i 0)),rfl,fun p hp'=>?_⟩
    rcases (by omega:p < i∨p=i) with z | z
    ·exact hp p z
    ·subst z
     omega
 ·rintro ρ' ⟨v,u,rfl,hp⟩
  rw [zG] at hp
  exact q true ⟨fun _=>hp,fun _=>rfl⟩
abbrev xz:Stmt:=top 38
theorem tP:zf ["way","row"] ["way","row"] (defScope xz):=⟨rfl,rfl,rfl,by decide +kernel,rfl,by decide +kernel,by decide +kernel⟩
theorem sd (T:Txt K mg A) (G_has_mosts_above_noughts_alone:DOk P w K mg base 1 "has_mosts_above_noughts_alone" (ni A)) (G_has_figures_alone:DOk P w K mg base 2 "has_figures_alone" (kC A)) (F:Fun K "is_writing" "is_writing" xz f fd):FnOk P w K mg base CX0 3 f fd ["way","row"] (zp K (iK A)):=by
 refine okD F tP (fun ds Q h=>?_) (fun cdv A' outer s H E hr ds Q h=>?_)
 ·obtain ⟨k,n,r,rfl,hn,hl,q⟩:=h
  rfl
 obtain ⟨k,n,r,rfl,hn,hl,q⟩:=h
 refine ⟨_,(z5 (zx (DW.dt (yd (gH (dv 1)) (zW (zq (x5 hr) (zv (dv 1) (xn zc) (fun _ _=>rfl)) zc (zo _))))) (ze (zh xq)) zk)
 (z5 (zx (DW.dt (yd (zR (uF T.isinstance T.gc_Falling (dv 0))) (zW (xJ (zR (zi G_has_mosts_above_noughts_alone (hr.mono (by decide)) rfl (za (dv 0) (za (dv 1) zd)))))))) (ze (zh xq)) zk)
 (ze (zh (zi G_has_figures_alone (hr.mono (by decide)) rfl (za (dv 0) (za (dv 1) zd))))))),?_⟩
 refine ⟨fun ρ=>ρ=[.some (zK A k n),.some (zC r)]∧(r=[]∨r.getD (r.length - 1) 0 ≠ 0),?_,?_⟩
 ·walk_at "rd"
  rcases zE r with rfl | ⟨l,z,rfl⟩
  ·exact ifF rfl (ifF rfl ⟨rfl,.inl rfl⟩)
  ·have ez:(l ++ [z]).getD ((l ++ [z]).length - 1) 0=z:=by rw [List.length_append]; simp [List.getD_eq_getElem?_getD]
   refine ifT (by simp) ⟨_,rfl,_,rfl,_,_,_,rfl,rfl,wk,rfl,rfl,_,rfl,?_⟩
   by_cases hz:z=0
   ·refine ifT (eqI hz) ?_
    rw [uy (fun L=>by
     rcases L.end_ with h | h
     ·simp at h
     ·rw [ez] at h; exact h hz)] at q
    exact q
   ·refine ifF (neI hz) ⟨rfl,.inr (by rw [ez]; exact hz)⟩
 ·rintro ρ' ⟨rfl,hend⟩
  refine ⟨fun ρ=>ρ=[.some (zK A k n),.some (zC r)]∧(k.isF=true→∀ p,p + 1 < r.length→r.getD (p + 1) 0=n→r.getD p 0=0),?_,?_⟩
  ·refine ⟨_,rfl,_,_,_,_,rfl,oO T k,kiF T k,_,rfl,?_⟩
   cases hk:k.isF with
   | false=>exact ifF rfl (ifF rfl ⟨rfl,fun z=>(Bool.false_ne_true z).elim⟩)
   | true=>
    have ek:k=.falling:=by cases k <;> first | rfl | cases hk
    subst ek
    refine ifT rfl ⟨_,rfl,_,rfl,n,r,rfl,hn,hl,fun b hb=>⟨_,rfl,?_⟩⟩
    cases b with
    | true=>exact ifF rfl ⟨rfl,fun _=>hb.mp rfl⟩
    | false=>
     refine ifT rfl ?_
     rw [uy (fun L=>Bool.false_ne_true (hb.mpr (L.fal rfl)))] at q
     exact q
  ·rintro ρ' ⟨rfl,hf⟩
   refine ⟨_,rfl,_,rfl,k,n,r,rfl,hn,hl,fun b hb=>?_⟩
   cases b with
   | true=>rw [rL ⟨hb.mp rfl,hf,hend⟩] at q; exact q
   | false=>rw [uy (fun L=>Bool.false_ne_true (hb.mpr L.fig))] at q; exact q
abbrev zU:Stmt:=top 39
theorem sc_held_to_be_writings:zf ["way","rows","row"] ["way","rows"] (defScope zU):=⟨rfl,rfl,rfl,by decide +kernel,rfl,by decide +kernel,by decide +kernel⟩
theorem xF (T:Txt K mg A) (G_is_writing:DOk P w K mg base 3 "is_writing" (iK A)) (F:Fun K "held_to_be_writings" "held_to_be_writings" zU f fd):FnOk P w K mg base (CX1 P w) 4 f fd ["way","rows"] (uJ K (nk A)):=by
 refine cj F sc_held_to_be_writings (fun ds Q R h=>?_) (fun cdv A' outer s H E hr ds Q R h rz=>?_)
 ·obtain ⟨k,n,rs,rfl,hn,hrs,hw⟩:=h
  rfl
 obtain ⟨k,n,rs,rfl,hn,hrs,hw⟩:=h
 refine ⟨_,(ze (gM (j:=2) rfl sc_held_to_be_writings.nd rfl (Or.inl rfl) ci (dv 1) (ze (zx (xJ (zR (zi G_is_writing (hr.mono (by decide)) rfl (za (dv 0) (za (dv 2) zd))))) (ze (qQ rfl rfl T.gc_NoWriting T.ex_NoWriting zt)) zk)))),?_⟩
 rcases hw with ⟨hL,q⟩ | ⟨⟨r0,hr0,hnL⟩,hR⟩
 ·refine ⟨_,rfl,_,fun i ρ=>∃ v,ρ=[.some (zK A k n),.some (.lst (rs.map zC)),v],rfl,⟨_,rfl⟩,?_,?_⟩
  ·rintro i e ρ' he ⟨v,rfl⟩
   obtain ⟨r,hm,rfl⟩:=List.mem_map.mp (List.mem_of_getElem? he)
   refine ⟨_,rfl,_,rfl,k,n,r,rfl,hn,hrs r hm,_,rfl,?_⟩
   rw [rL (hL r hm)]
   exact ifF rfl ⟨_,rfl⟩
  ·rintro ρ' ⟨v,rfl⟩
   exact q
 ·refine ⟨_,rfl,_,fun i ρ=>∃ v,ρ=[.some (zK A k n),.some (.lst (rs.map zC)),v]∧∀ (j:Nat) (r:List Int),j < i→rs[j]? = some r→Legal k n r,rfl,⟨_,rfl,fun j _ z=>absurd z (Nat.not_lt_zero _)⟩,?_,?_⟩
  ·rintro i e ρ' he ⟨v,rfl,hb⟩
   rw [List.getElem?_map] at he
   obtain ⟨r,hm,rfl⟩:=Option.map_eq_some_iff.mp he
   refine ⟨_,rfl,_,rfl,k,n,r,rfl,hn,hrs r (List.mem_of_getElem? hm),_,rfl,?_⟩
   by_cases hLr:Legal k n r
   ·rw [rL hLr]
    refine ifF rfl ⟨_,rfl,fun j r' hj hr'=>?_⟩
    rcases (by omega:j < i∨j=i) with z | z
    ·exact hb j r' z hr'
    ·subst z
     rw [hm] at hr'
     cases hr'
     exact hLr
   ·rw [uy hLr]
    exact ifT rfl (rz _ hR)
  ·rintro ρ' ⟨v,rfl,hb⟩
   obtain ⟨j,hj⟩:=List.mem_iff_getElem?.mp hr0
   rw [List.length_map] at hb
   have hlt:j < rs.length:=by
    rcases Nat.lt_or_ge j rs.length with z | z
    ·exact z
    ·rw [List.getElem?_eq_none z] at hj; cases hj
   exact absurd (hb j r0 hlt hj) hnL
abbrev vp:Stmt:=top 31
theorem sc_trimmed:zf ["row","things"] ["row"] (defScope vp):=⟨rfl,rfl,rfl,by decide +kernel,rfl,by decide +kernel,by decide +kernel⟩
theorem pO (T:Txt K mg A) (F:Fun K "trimmed" "trimmed" vp f fd):FnOk P w K mg base CX0 1 f fd ["row"] (yT K (ox)):=by
 refine okF F sc_trimmed (fun ds Q h=>?_) (fun cdv A' outer s H E hr ds Q h=>?_)
 ·obtain ⟨r,rfl,q⟩:=h
  rfl
 obtain ⟨r,rfl,q⟩:=h
 refine ⟨_,(zb (xK (i:=1) sc_trimmed.nd rfl (Or.inl rfl) (o0 rfl T.n_list (dv 0)))
 (zb (tz PassesOwn.never (DW.dt (yd (jC 1) (zW (zq (x5 hr) (oj 1 (xn zc) (fun _ _=>rfl)) zc (zo _))))) (ze (lQ 1)))
 (ze (uB 1)))),?_⟩
 refine ⟨_,rfl,_,rfl,_,rfl,?_⟩
 exact qi rfl ⟨_,rfl,q⟩
abbrev vy:Stmt:=top 3
theorem pG:zf ["number"] ["number"] (defScope vy):=⟨rfl,rfl,rfl,by decide +kernel,rfl,by decide +kernel,by decide +kernel⟩
theorem pU (T:Txt K mg A) (G_is_whole:DOk P w K mg base 1 "is_whole" (yS)) (F:Fun K "as_pair" "as_pair" vy f fd):FnOk P w K mg base CX0 2 f fd ["number"] (zp K (xt)):=by
 refine okD F pG (fun ds Q h=>?_) (fun cdv A' outer s H E hr ds Q h=>?_)
 ·obtain ⟨d,m,rfl,hm,q⟩:=h
  rfl
 obtain ⟨d,m,rfl,hm,q⟩:=h
 refine ⟨_,(zb (zx (zR (zi G_is_whole (hr.mono (by decide)) rfl (za (dv 0) zd))) (ze (zh (zw (za (dv 0) (za zc zd))))) zk)
 (ze (zh (dv 0)))),?_⟩
 obtain rfl:=yA hm
 cases m with
 | i n=>
  walk_at "rd"
  exact q
 | p a b=>
  walk_at "rd"
  exact q
abbrev rm:Stmt:=top 4
theorem sc_added:zf ["one","other","left","right"] ["one","other"] (defScope rm):=⟨rfl,rfl,rfl,by decide +kernel,rfl,by decide +kernel,by decide +kernel⟩
theorem lf (T:Txt K mg A) (G_is_whole:DOk P w K mg base 1 "is_whole" (yS)) (G_as_pair:DOk P w K mg base 2 "as_pair" (xt)) (F:Fun K "added" "added" rm f fd):FnOk P w K mg base CX0 3 f fd ["one","other"] (zp K (uI)):=by
 refine okD F sc_added (fun ds Q h=>?_) (fun cdv A' outer s H E hr ds Q h=>?_)
 ·obtain ⟨d,e,m,n,rfl,hm,hn,q⟩:=h
  rfl
 obtain ⟨d,e,m,n,rfl,hm,hn,q⟩:=h
 refine ⟨_,(zb (zx (DW.dt (yd (zR (zi G_is_whole (hr.mono (by decide)) rfl (za (dv 0) zd))) (zW (zR (zi G_is_whole (hr.mono (by decide)) rfl (za (dv 1) zd)))))) (ze (zh (zg zP (dv 0) (dv 1)))) zk)
 (zb (zl (i:=2) sc_added.nd rfl (Or.inl rfl) (zi G_as_pair (hr.mono (by decide)) rfl (za (dv 0) zd)))
 (zb (zl (i:=3) sc_added.nd rfl (Or.inl rfl) (zi G_as_pair (hr.mono (by decide)) rfl (za (dv 1) zd)))
 (ze (zh (zw (za (zg zP (zv (dv 2) zc (fun _ _=>rfl)) (zv (dv 3) zc (fun _ _=>rfl))) (za (zg zP (zv (dv 2) zc (fun _ _=>rfl)) (zv (dv 3) zc (fun _ _=>rfl))) zd)))))))),?_⟩
 obtain rfl:=yA hm
 obtain rfl:=yA hn
 cases m <;> cases n
 all_goals
  walk_at "rd"
  exact q
abbrev xv:Stmt:=top 5
theorem sc_multiplied:zf ["one","other","left","right"] ["one","other"] (defScope xv):=⟨rfl,rfl,rfl,by decide +kernel,rfl,by decide +kernel,by decide +kernel⟩
theorem tX (T:Txt K mg A) (G_is_whole:DOk P w K mg base 1 "is_whole" (yS)) (G_as_pair:DOk P w K mg base 2 "as_pair" (xt)) (F:Fun K "multiplied" "multiplied" xv f fd):FnOk P w K mg base CX0 3 f fd ["one","other"] (zp K (rY)):=by
 refine okD F sc_multiplied (fun ds Q h=>?_) (fun cdv A' outer s H E hr ds Q h=>?_)
 ·obtain ⟨d,e,m,n,rfl,hm,hn,k1,q⟩:=h
  rfl
 obtain ⟨d,e,m,n,rfl,hm,hn,k1,q⟩:=h
 refine ⟨_,(zb (zx (DW.dt (yd (zR (zi G_is_whole (hr.mono (by decide)) rfl (za (dv 0) zd))) (zW (zR (zi G_is_whole (hr.mono (by decide)) rfl (za (dv 1) zd)))))) (ze (zh (zg z4 (dv 0) (dv 1)))) zk)
 (zb (zl (i:=2) sc_multiplied.nd rfl (Or.inl rfl) (zi G_as_pair (hr.mono (by decide)) rfl (za (dv 0) zd)))
 (zb (zl (i:=3) sc_multiplied.nd rfl (Or.inl rfl) (zi G_as_pair (hr.mono (by decide)) rfl (za (dv 1) zd)))
 (ze (zh (zw (za (zg yb (zg z4 (zv (dv 2) zc (fun _ _=>rfl)) (zv (dv 3) zc (fun _ _=>rfl))) (zg z4 (zv (dv 2) zc (fun _ _=>rfl)) (zv (dv 3) zc (fun _ _=>rfl)))) (za (zg zP (zg z4 (zv (dv 2) zc (fun _ _=>rfl)) (zv (dv 3) zc (fun _ _=>rfl))) (zg z4 (zv (dv 2) zc (fun _ _=>rfl)) (zv (dv 3) zc (fun _ _=>rfl)))) zd)))))))),?_⟩
 obtain rfl:=yA hm
 obtain rfl:=yA hn
 obtain ⟨h1,h2,h3,h4⟩:=k1
 cases m <;> cases n
 all_goals
  walk_at "rd"
  first | refine ⟨h1,?_⟩ | skip
  walk_at "rd"
  first | exact q | skip
  try refine ⟨h2,?_⟩
  walk_at "rd"
  try refine ⟨h3,?_⟩
  walk_at "rd"
  try refine ⟨h4,?_⟩
  walk_at "rd"
  try exact q
abbrev xA:Stmt:=inClass (top 22) 0
theorem tQ:zf ["self"] ["self"] (defScope xA):=⟨rfl,rfl,rfl,by decide +kernel,rfl,by decide +kernel,by decide +kernel⟩
theorem yf (T:Txt K mg A) (F:Fun K "nought" "Way.nought" xA f fd):FnOk P w K mg base CX0 1 f fd ["self"] (zp K (dO)):=by
 refine okD F tQ (fun ds Q h=>?_) (fun cdv A' outer s H E hr ds Q h=>?_)
 ·obtain ⟨o,rfl,q⟩:=h
  rfl
 obtain ⟨o,rfl,q⟩:=h
 refine ⟨_,(ze (zh zc)),?_⟩
 exact q
abbrev yY:Stmt:=inClass (top 28) 1
theorem ub:zf ["self"] ["self"] (defScope yY):=⟨rfl,rfl,rfl,by decide +kernel,rfl,by decide +kernel,by decide +kernel⟩
theorem ui (T:Txt K mg A) (F:Fun K "nought" "Pairs.nought" yY f fd):FnOk P w K mg base CX0 1 f fd ["self"] (zp K (dN)):=by
 refine okD F ub (fun ds Q h=>?_) (fun cdv A' outer s H E hr ds Q h=>?_)
 ·obtain ⟨o,rfl,q⟩:=h
  rfl
 obtain ⟨o,rfl,q⟩:=h
 refine ⟨_,(ze (zh (zw (za zc (za zc zd))))),?_⟩
 exact ⟨rfl,q⟩
abbrev xc:Stmt:=inClass (top 23) 2
theorem uR:zf ["self","place"] ["self","place"] (defScope xc):=⟨rfl,rfl,rfl,by decide +kernel,rfl,by decide +kernel,by decide +kernel⟩
theorem uY (T:Txt K mg A) (F:Fun K "ratio" "Plain.ratio" xc f fd):FnOk P w K mg base CX0 1 f fd ["self","place"] (zp K (wl A .plain (Kd.ratN .plain))):=by
 refine okD F uR (fun ds Q h=>?_) (fun cdv A' outer s H E hr ds Q h=>?_)
 ·obtain ⟨n,p,rfl,hn,q⟩:=h
  rfl
 obtain ⟨n,p,rfl,hn,q⟩:=h
 refine ⟨_,(ze (zh (zT (dv 0)))),?_⟩
 exact ⟨_,rfl,_,_,_,rfl,rfl,T.cl_Plain,T.na_Plain,q⟩
abbrev xh:Stmt:=inClass (top 24) 2
theorem uT:zf ["self","place"] ["self","place"] (defScope xh):=⟨rfl,rfl,rfl,by decide +kernel,rfl,by decide +kernel,by decide +kernel⟩
theorem u3 (T:Txt K mg A) (F:Fun K "ratio" "Below.ratio" xh f fd):FnOk P w K mg base CX0 1 f fd ["self","place"] (zp K (wl A .below (Kd.ratN .below))):=by
 refine okD F uT (fun ds Q h=>?_) (fun cdv A' outer s H E hr ds Q h=>?_)
 ·obtain ⟨n,p,rfl,hn,q⟩:=h
  rfl
 obtain ⟨n,p,rfl,hn,q⟩:=h
 refine ⟨_,(ze (zh (xn (zT (dv 0))))),?_⟩
 exact ⟨_,rfl,_,_,_,rfl,rfl,T.cl_Below,T.na_Below,_,rfl,q⟩
abbrev yy:Stmt:=inClass (top 25) 3
theorem wT:zf ["self","place"] ["self","place"] (defScope yy):=⟨rfl,rfl,rfl,by decide +kernel,rfl,by decide +kernel,by decide +kernel⟩
theorem wX (T:Txt K mg A) (F:Fun K "ratio" "Balanced.ratio" yy f fd):FnOk P w K mg base CX0 1 f fd ["self","place"] (zp K (wl A .balanced (Kd.ratN .balanced))):=by
 refine okD F wT (fun ds Q h=>?_) (fun cdv A' outer s H E hr ds Q h=>?_)
 ·obtain ⟨n,p,rfl,hn,q⟩:=h
  rfl
 obtain ⟨n,p,rfl,hn,q⟩:=h
 refine ⟨_,(ze (zh (zg zP (zg z4 zc (zT (dv 0))) zc))),?_⟩
 exact ⟨_,rfl,_,_,_,rfl,rfl,T.cl_Balanced,T.na_Balanced,_,_,rfl,rfl,jl (by decide),_,_,rfl,rfl,q⟩
abbrev yD:Stmt:=inClass (top 26) 2
theorem vk:zf ["self","place"] ["self","place"] (defScope yD):=⟨rfl,rfl,rfl,by decide +kernel,rfl,by decide +kernel,by decide +kernel⟩
theorem vC (T:Txt K mg A) (F:Fun K "ratio" "Growing.ratio" yD f fd):FnOk P w K mg base CX0 1 f fd ["self","place"] (zp K (wl A .growing (Kd.ratN .growing))):=by
 refine okD F vk (fun ds Q h=>?_) (fun cdv A' outer s H E hr ds Q h=>?_)
 ·obtain ⟨n,p,rfl,hn,q⟩:=h
  rfl
 obtain ⟨n,p,rfl,hn,q⟩:=h
 refine ⟨_,(ze (zh (zg zP (zT (dv 0)) (dv 1)))),?_⟩
 exact ⟨_,rfl,_,_,_,rfl,rfl,T.cl_Growing,T.na_Growing,_,rfl,_,_,rfl,rfl,q⟩
abbrev xg:Stmt:=inClass (top 28) 3
theorem uS:zf ["self","place"] ["self","place"] (defScope xg):=⟨rfl,rfl,rfl,by decide +kernel,rfl,by decide +kernel,by decide +kernel⟩
theorem u0 (T:Txt K mg A) (F:Fun K "ratio" "Pairs.ratio" xg f fd):FnOk P w K mg base CX0 1 f fd ["self","place"] (zp K (wl A .pairs (Kd.ratN .pairs))):=by
 refine okD F uS (fun ds Q h=>?_) (fun cdv A' outer s H E hr ds Q h=>?_)
 ·obtain ⟨n,p,rfl,hn,q⟩:=h
  rfl
 obtain ⟨n,p,rfl,hn,q⟩:=h
 refine ⟨_,(ze (zh (zw (za (xn (zT (dv 0))) (za zc zd))))),?_⟩
 exact ⟨_,rfl,_,_,_,rfl,rfl,T.cl_Pairs,T.na_Pairs,_,rfl,rfl,q⟩
abbrev xb:Stmt:=inClass (top 22) 2
theorem sc_Way_weights:zf ["self","many","weights","weight","place"] ["self","many"] (defScope xb):=⟨rfl,rfl,rfl,by decide +kernel,rfl,by decide +kernel,by decide +kernel⟩
theorem zZ (T:Txt K mg A) (G_added:DOk P w K mg base 3 "added" (uI)) (G_multiplied:DOk P w K mg base 3 "multiplied" (rY)) (HNo:∀ k:Kd,MOk P w K mg base 1 (A.at k) "nought" (jU k)) (HR:∀ k:Kd,k.five=true→MOk P w K mg base 1 (A.at k) "ratio" (wl A k (k.ratN))) (F:Fun K "weights" "Way.weights" xb f fd):FnOk P w K mg base CX0 4 f fd ["self","many"] (yT K (cN A)):=by
 refine okF F sc_Way_weights (fun ds Q h=>?_) (fun cdv A' outer s H E hr ds Q h=>?_)
 ·obtain ⟨k,n,m,rfl,hk,hn,hm0,hm1,q⟩:=h
  rfl
 obtain ⟨k,n,m,rfl,hk,hn,hm0,hm1,q⟩:=h
 refine ⟨_,(zb (xK (i:=2) sc_Way_weights.nd rfl (Or.inl rfl) (vQ zd))
 (zb (zl (i:=3) sc_Way_weights.nd rfl (Or.inl rfl) (zi G_added (hr.mono (by decide)) rfl (za (vh hr (dv 0)) (za zc zd))))
 (zb (vg (j:=4) rfl sc_Way_weights.nd rfl (Or.inl rfl) PassesOwn.never rfl T.range (dv 1) (zb (wI 2 (dv 3))
 (ze (zl (i:=3) sc_Way_weights.nd rfl (Or.inl rfl) (zi G_multiplied (hr.mono (by decide)) rfl (za (yR hr (dv 0) (za (dv 4) zd)) (za (dv 3) zd)))))))
 (ze (uB 2))))),?_⟩
 have e1:(("nought":Str) == k.fld)=false:=by cases k <;> decide +kernel
 have e2:(("ratio":Str) == k.fld)=false:=by cases k <;> decide +kernel
 have ew:∀ j,wt k n j=wtR k n j:=fun j=>oB hk
 refine ⟨rfl,_,rfl,_,rfl,_,_,_,_,rfl,e1,(HNo k).mono (by decide),⟨_,rfl,_,_,k.zero,.i 1,rfl,z_ _,rfl,?_⟩⟩
 refine ⟨_,rfl,_,fun i ρ=>∃ v,ρ=[.some (zK A k n),.some (.int m),.own (wts k n i),.some (wtR k n i).dt,v],rfl,by omega,by omega,⟨_,rfl⟩,?_,?_⟩
 ·rintro i ρ' hi ⟨v,rfl⟩
  have hi1:i < 1000:=by omega
  refine ⟨_,rfl,_,rfl,by rw [yV]; omega,?_⟩
  refine ⟨_,rfl,_,_,_,_,rfl,e2,(HR k hk).mono (by decide),_,rfl,n,i,rfl,hn,_,rfl,_,_,k.ratN n i,wtR k n i,rfl,z_ _,z_ _,kQ hn (by omega) (by omega) _,?_⟩
  exact ⟨.some (.int i),by rw [qc,ew]; rfl⟩
 ·rintro ρ' ⟨v,rfl⟩
  exact ⟨_,rfl,q⟩
abbrev yo:Stmt:=inClass (top 27) 2
theorem sc_Falling_weights:zf ["self","many","weights","ahead","weight","place","following"] ["self","many"] (defScope yo):=⟨rfl,rfl,rfl,by decide +kernel,rfl,by decide +kernel,by decide +kernel⟩
theorem wG (T:Txt K mg A) (F:Fun K "weights" "Falling.weights" yo f fd):FnOk P w K mg base CX0 1 f fd ["self","many"] (yT K (dM A)):=by
 refine okF F sc_Falling_weights (fun ds Q h=>?_) (fun cdv A' outer s H E hr ds Q h=>?_)
 ·obtain ⟨n,m,rfl,hn,hm0,hm1,q⟩:=h
  rfl
 obtain ⟨n,m,rfl,hn,hm0,hm1,q⟩:=h
 refine ⟨_,(zb (xK (i:=2) sc_Falling_weights.nd rfl (Or.inl rfl) (vQ zd))
 (zb (zl (i:=3) sc_Falling_weights.nd rfl (Or.inl rfl) zc)
 (zb (zl (i:=4) sc_Falling_weights.nd rfl (Or.inl rfl) zc)
 (zb (vg (j:=5) rfl sc_Falling_weights.nd rfl (Or.inl rfl) PassesOwn.never rfl T.range (dv 1) (zb (wI 2 (dv 4))
 (zb (zl (i:=6) sc_Falling_weights.nd rfl (Or.inl rfl) (zg zP (zg z4 (zT (dv 0)) (dv 4)) (dv 3)))
 (zb (zl (i:=3) sc_Falling_weights.nd rfl (Or.inl rfl) (dv 4))
 (ze (zl (i:=4) sc_Falling_weights.nd rfl (Or.inl rfl) (dv 6)))))))
 (ze (uB 2)))))),?_⟩
 obtain ⟨b1,b2⟩:=xL hn
 refine ⟨rfl,_,rfl,?_⟩
 refine ⟨_,rfl,_,fun i ρ=>∃ v u,ρ=[.some (zK A .falling n),.some (.int m),.own (wts .falling n i),.some (.int (wtF n i).1),.some (.int (wtF n i).2),v,u],rfl,by omega,by omega,⟨_,_,rfl⟩,?_,?_⟩
 ·rintro i ρ' hi ⟨v,u,rfl⟩
  refine ⟨_,rfl,_,rfl,by rw [yV]; omega,?_⟩
  refine ⟨_,rfl,_,_,_,rfl,rfl,T.cl_Falling,T.na_Falling,_,rfl,_,_,rfl,rfl,xS (by omega) (by omega) _,_,rfl,_,_,rfl,rfl,?_⟩
  refine ⟨_,rfl,_,rfl,?_⟩
  exact ⟨.some (.int i),.some (.int (n * (wtF n i).2 + (wtF n i).1)),by rw [qc]; rfl⟩
 ·rintro ρ' ⟨v,u,rfl⟩
  exact ⟨_,rfl,q⟩
abbrev zY:Stmt:=top 41
theorem sc_written_by_weights:zf ["way","number","figures","rest","weight"] ["way","number"] (defScope zY):=⟨rfl,rfl,rfl,by decide +kernel,rfl,by decide +kernel,by decide +kernel⟩
theorem xO (T:Txt K mg A) (G_trimmed:FOk P w K mg base 1 "trimmed" (ox)) (HW:∀ k:Kd,FMOk P w K mg base 4 (A.at k) "weights" (kr A k)) (F:Fun K "written_by_weights" "written_by_weights" zY f fd):FnOk P w K mg base CX0 5 f fd ["way","number"] (yT K (iJ A)):=by
 refine okF F sc_written_by_weights (fun ds Q h=>?_) (fun cdv A' outer s H E hr ds Q h=>?_)
 ·obtain ⟨n,m,rfl,hn,hm,hb,q⟩:=h
  rfl
 obtain ⟨n,m,rfl,hn,hm,hb,q⟩:=h
 refine ⟨_,(zb (xK (i:=2) sc_written_by_weights.nd rfl (Or.inl rfl) (vQ zd))
 (zb (zl (i:=3) sc_written_by_weights.nd rfl (Or.inl rfl) (dv 1))
 (zb (ut (j:=4) rfl sc_written_by_weights.nd rfl (Or.inl rfl) PassesOwn.never rfl T.n_reversed (za (DF.de (oZ hr (dv 0) (za (zg z4 zc (jG (dv 1))) zd))) zd) (zb (wI 2 (zg jk (dv 3) (dv 4)))
 (ze (zl (i:=3) sc_written_by_weights.nd rfl (Or.inl rfl) (zg yC (dv 3) (dv 4))))))
 (zb (gK 2)
 (rO 2 (ze (vf (uD G_trimmed (hr.mono (by decide)) rfl (za (dv 2) zd))))))))),?_⟩
 have h1:1 ≤ n:=hn.1
 have h9:n ≤ 9:=hn.2
 refine ⟨rfl,_,rfl,_,rfl,?_⟩
 have e2:(2:Int) * ((Builtin.Int.intBits m:Nat):Int)=((2 * Builtin.Int.intBits m:Nat):Int):=by omega
 refine ⟨_,rfl,_,_,_,_,rfl,sP .falling,(HW .falling).mono (by decide),_,rfl,_,rfl,_,_,rfl,rfl,jl (by decide),n,_,rfl,hn,by omega,by omega,?_⟩
 unfold tw sN at q
 rw [e2,Int.toNat_natCast]
 generalize hL:2 * Builtin.Int.intBits m=L at *
 have lw:=yV .falling n L
 refine ⟨_,_,fun i ρ=>∃ v,ρ=[.some (zK A .falling n),.some (.int m),.own (((List.range i).map fun q=>gs n m L (L - 1 - q)).map Dt.int),.some (.int (rs n m L i)),v]∧i ≤ L,rfl,rfl,⟨_,rfl,Nat.zero_le _⟩,?_,?_⟩
 ·rintro i x ρ' hx ⟨v,rfl,hi⟩
  obtain ⟨hi2,hx2⟩:=oG hx
  rw [lw] at hi2 hx2
  obtain rfl:=oz hx2
  have hw:(wt .falling n (L - 1 - i)).dt=.int (wf n (L - 1 - i)):=rfl
  rw [hw]
  have p1:=(zX h1 (L - 1 - i)).1
  have b:=mh h1 h9 (L - 1 - i)
  have b2:(wf n (L - 1 - i)).natAbs < 2 ^ (4 * (L - 1 - i) + 1):=by rw [Nat.pow_succ]; have:=Nat.two_pow_pos (4 * (L - 1 - i)); omega
  have hbig:(wf n (L - 1 - i)).natAbs < 2 ^ 9000:=Nat.lt_of_lt_of_le b2 (Nat.pow_le_pow_right (by decide) (by omega))
  refine ⟨_,rfl,_,rfl,_,rfl,_,_,rfl,rfl,dI (by omega) hbig,by rw [List.length_map,List.length_map,List.length_range]; omega,?_⟩
  ·refine ⟨_,rfl,_,rfl,_,_,rfl,rfl,(by show wf n (L - 1 - i) ≠ 0; omega),.some (.int (wf n (L - 1 - i))),?_,by omega⟩
   rw [List.range_succ,List.map_append,List.map_append]
   have eg:gs n m L (L - 1 - i)=(rs n m L i).fdiv (wf n (L - 1 - i)):=by unfold gs; rw [show L - 1 - (L - 1 - i)=i by omega]
   rw [List.map_cons,List.map_nil,List.map_cons,List.map_nil,eg]
   rfl
 ·rintro ρ' ⟨v,rfl,_⟩
  refine ⟨_,rfl,_,rfl,_,rfl,_,?_,q⟩
  rw [lw,← List.map_reverse,nG]
  rfl
abbrev wy:Stmt:=top 30
theorem qo:zf ["row","place"] ["row","place"] (defScope wy):=⟨rfl,rfl,rfl,by decide +kernel,rfl,by decide +kernel,by decide +kernel⟩
theorem qA (T:Txt K mg A) (F:Fun K "thing_at" "thing_at" wy f fd):FnOk P w K mg base CX0 1 f fd ["row","place"] (zp K (tM)):=by
 refine okD F qo (fun ds Q h=>?_) (fun cdv A' outer s H E hr ds Q h=>?_)
 ·obtain ⟨xs,p,rfl,hp,q⟩:=h
  rfl
 obtain ⟨xs,p,rfl,hp,q⟩:=h
 refine ⟨_,(zb (zx (zq (nO) (dv 1) (yG rfl T.len (dv 0)) (zo _)) (ze (zh (zv (dv 0) (dv 1) (fun _ _=>rfl)))) zk)
 (ze (zh zc))),?_⟩
 refine ⟨_,rfl,_,rfl,_,rfl,_,_,rfl,rfl,_,rfl,eG (fun h=>?_) (fun h=>?_)⟩
 ·have h:p < (xs.length:Int):=of_decide_eq_true h
  have hl:p.toNat < xs.length:=by omega
  have e:((p.toNat:Nat):Int)=p:=Int.toNat_of_nonneg hp
  have:=rT (List.getElem?_eq_getElem hl)
  rw [e] at this
  rw [List.getD_eq_getElem?_getD,List.getElem?_eq_getElem hl] at q
  exact ⟨_,rfl,_,rfl,_,_,_,rfl,rfl,this,q⟩
 ·have h:¬ p < (xs.length:Int):=fun z=>h (decide_eq_true z)
  rw [List.getD_eq_getElem?_getD,List.getElem?_eq_none (by omega)] at q
  exact q
abbrev vA:Stmt:=inClass (top 22) 5
theorem pI:zf ["self","number"] ["self","number"] (defScope vA):=⟨rfl,rfl,rfl,by decide +kernel,rfl,by decide +kernel,by decide +kernel⟩
theorem wE (T:Txt K mg A) (G_is_whole:DOk P w K mg base 1 "is_whole" (yS)) (F:Fun K "has" "Way.has" vA f fd):FnOk P w K mg base CX0 2 f fd ["self","number"] (zp K (wP .plain)):=by
 refine okD F pI (fun ds Q h=>?_) (fun cdv A' outer s H E hr ds Q h=>?_)
 ·obtain ⟨o,d,m,rfl,hm,q⟩:=h
  rfl
 obtain ⟨o,d,m,rfl,hm,q⟩:=h
 refine ⟨_,(ze (zh (vS (zi G_is_whole (hr.mono (by decide)) rfl (za (dv 1) zd)) (tG (wJ (eB) (dv 1) zc (zo _)))))),?_⟩
 obtain rfl:=yA hm
 cases m
 all_goals
  walk_at "rd"
  exact q
abbrev xX:Stmt:=inClass (top 24) 3
theorem rh:zf ["self","number"] ["self","number"] (defScope xX):=⟨rfl,rfl,rfl,by decide +kernel,rfl,by decide +kernel,by decide +kernel⟩
theorem rE (T:Txt K mg A) (G_is_whole:DOk P w K mg base 1 "is_whole" (yS)) (F:Fun K "has" "Below.has" xX f fd):FnOk P w K mg base CX0 2 f fd ["self","number"] (zp K (wP .below)):=by
 refine okD F rh (fun ds Q h=>?_) (fun cdv A' outer s H E hr ds Q h=>?_)
 ·obtain ⟨o,d,m,rfl,hm,q⟩:=h
  rfl
 obtain ⟨o,d,m,rfl,hm,q⟩:=h
 refine ⟨_,(ze (zh (zi G_is_whole (hr.mono (by decide)) rfl (za (dv 1) zd)))),?_⟩
 obtain rfl:=yA hm
 cases m
 all_goals
  walk_at "rd"
  exact q
abbrev y2:Stmt:=inClass (top 25) 4
theorem uh:zf ["self","number"] ["self","number"] (defScope y2):=⟨rfl,rfl,rfl,by decide +kernel,rfl,by decide +kernel,by decide +kernel⟩
theorem uq (T:Txt K mg A) (G_is_whole:DOk P w K mg base 1 "is_whole" (yS)) (F:Fun K "has" "Balanced.has" y2 f fd):FnOk P w K mg base CX0 2 f fd ["self","number"] (zp K (wP .balanced)):=by
 refine okD F uh (fun ds Q h=>?_) (fun cdv A' outer s H E hr ds Q h=>?_)
 ·obtain ⟨o,d,m,rfl,hm,q⟩:=h
  rfl
 obtain ⟨o,d,m,rfl,hm,q⟩:=h
 refine ⟨_,(ze (zh (zi G_is_whole (hr.mono (by decide)) rfl (za (dv 1) zd)))),?_⟩
 obtain rfl:=yA hm
 cases m
 all_goals
  walk_at "rd"
  exact q
abbrev vw:Stmt:=top 2
theorem pE:zf ["value"] ["value"] (defScope vw):=⟨rfl,rfl,rfl,by decide +kernel,rfl,by decide +kernel,by decide +kernel⟩
theorem pS (T:Txt K mg A) (G_is_whole:DOk P w K mg base 1 "is_whole" (yS)) (F:Fun K "is_pair" "is_pair" vw f fd):FnOk P w K mg base CX0 2 f fd ["value"] (zp K (vT)):=by
 refine okD F pE (fun ds Q h=>?_) (fun cdv A' outer s H E hr ds Q h=>?_)
 ·obtain ⟨d,m,rfl,hm,q⟩:=h
  rfl
 obtain ⟨d,m,rfl,hm,q⟩:=h
 refine ⟨_,(ze (zh (vS (vR (T:=.tuple) T.kt T.isinstance T.n_tuple PyProof.Rows.boot_tuple (dv 0)) (vS (wJ (x5 hr) (yG rfl T.len (dv 0)) zc (zo _)) (vS (zi G_is_whole (hr.mono (by decide)) rfl (za (zv (dv 0) zc (fun _ _=>rfl)) zd)) (tG (zi G_is_whole (hr.mono (by decide)) rfl (za (zv (dv 0) zc (fun _ _=>rfl)) zd)))))))),?_⟩
 obtain rfl:=yA hm
 cases m
 all_goals
  walk_at "rd"
  exact q
abbrev xW:Stmt:=inClass (top 28) 5
theorem rg:zf ["self","number"] ["self","number"] (defScope xW):=⟨rfl,rfl,rfl,by decide +kernel,rfl,by decide +kernel,by decide +kernel⟩
theorem rD (T:Txt K mg A) (G_is_pair:DOk P w K mg base 2 "is_pair" (vT)) (F:Fun K "has" "Pairs.has" xW f fd):FnOk P w K mg base CX0 3 f fd ["self","number"] (zp K (wP .pairs)):=by
 refine okD F rg (fun ds Q h=>?_) (fun cdv A' outer s H E hr ds Q h=>?_)
 ·obtain ⟨o,d,m,rfl,hm,q⟩:=h
  rfl
 obtain ⟨o,d,m,rfl,hm,q⟩:=h
 refine ⟨_,(ze (zh (zi G_is_pair (hr.mono (by decide)) rfl (za (dv 1) zd)))),?_⟩
 obtain rfl:=yA hm
 refine ⟨_,rfl,_,m,rfl,hm,?_⟩
 cases m <;> exact q
abbrev xV:Stmt:=inClass (top 22) 4
theorem sc_Way_split:zf ["self","total","place","low","figures","figure"] ["self","total","place"] (defScope xV):=⟨rfl,rfl,rfl,by decide +kernel,rfl,by decide +kernel,by decide +kernel⟩
theorem yP (T:Txt K mg A) (HLo:∀ k:Kd,MOk P w K mg base 1 (A.at k) "low" (xr A k (k.low))∧MOk P w K mg base 1 (A.at k) "high" (xr A k (k.high))) (HR:∀ k:Kd,k.five=true→MOk P w K mg base 1 (A.at k) "ratio" (wl A k (k.ratN))) (F:Fun K "split" "Way.split" xV f fd):FnOk P w K mg base CX0 2 f fd ["self","total","place"] (zp K (kx A)):=by
 refine okD F sc_Way_split (fun ds Q h=>?_) (fun cdv A' outer s H E hr ds Q h=>?_)
 ·obtain ⟨k,n,t,j,rfl,h4,hn,hj,q⟩:=h
  rfl
 obtain ⟨k,n,t,j,rfl,h4,hn,hj,q⟩:=h
 refine ⟨_,(zb (zl (i:=3) sc_Way_split.nd rfl (Or.inl rfl) (yR hr (dv 0) (za (dv 2) zd)))
 (zb (zl (i:=4) sc_Way_split.nd rfl (Or.inl rfl) (zg zP (zg yb (yR hr (dv 0) (za (dv 2) zd)) (dv 3)) zc))
 (zb (zl (i:=5) sc_Way_split.nd rfl (Or.inl rfl) (zg zP (dv 3) (zg yC (zg yb (dv 1) (dv 3)) (dv 4))))
 (ze (zh (zw (za (dv 5) (za (zg xj (zg yb (dv 1) (dv 5)) (yR hr (dv 0) (za (dv 2) zd))) zd)))))))),?_⟩
 obtain ⟨M1,M2⟩:=HLo k
 have h5:k.five=true:=by cases k <;> first | rfl | cases h4
 have M3:=HR k h5
 obtain ⟨e1,e2⟩:=rb h4 n j
 have hp:=uP h4 hn j
 have hr:k.ratN n j=.i (k.rat n j):=by cases k <;> first | rfl | cases h4
 have hb:(k.rat n j).natAbs < 1073741824:=by
  obtain ⟨b1,b2⟩:=xL hn
  cases k <;> cases h4 <;> simp only [Kd.rat] <;> omega
 refine ⟨_,rfl,_,_,_,_,rfl,iw k,M1.mono (by decide),_,rfl,n,j,rfl,hn,?_⟩
 refine ⟨_,rfl,_,_,_,_,rfl,lM k,M2.mono (by decide),_,rfl,n,j,rfl,hn,_,rfl,_,_,rfl,rfl,_,_,rfl,rfl,?_⟩
 refine ⟨_,rfl,_,rfl,_,rfl,_,_,rfl,rfl,_,rfl,_,_,rfl,rfl,(show k.high n j - k.low n j + 1 ≠ 0 by omega),_,_,rfl,rfl,?_⟩
 refine ⟨_,rfl,_,rfl,_,rfl,_,_,rfl,rfl,_,rfl,_,_,_,_,rfl,jB k,M3.mono (by decide),_,rfl,n,j,rfl,hn,?_⟩
 rw [hr]
 refine ⟨_,_,rfl,rfl,⟨by omega,hb⟩,rfl,?_⟩
 cases k <;> cases h4 <;> exact q
abbrev xf:Stmt:=inClass (top 28) 4
theorem sc_Pairs_split:zf ["self","total","place","pair","figures","figure","turned"] ["self","total","place"] (defScope xf):=⟨rfl,rfl,rfl,by decide +kernel,rfl,by decide +kernel,by decide +kernel⟩
theorem uZ (T:Txt K mg A) (G_as_pair:DOk P w K mg base 2 "as_pair" (xt)) (G_multiplied:DOk P w K mg base 3 "multiplied" (rY)) (F:Fun K "split" "Pairs.split" xf f fd):FnOk P w K mg base CX0 4 f fd ["self","total","place"] (zp K (ky A)):=by
 refine okD F sc_Pairs_split (fun ds Q h=>?_) (fun cdv A' outer s H E hr ds Q h=>?_)
 ·obtain ⟨n,d,m,j,rfl,hm,hn,q⟩:=h
  rfl
 obtain ⟨n,d,m,j,rfl,hm,hn,q⟩:=h
 refine ⟨_,(zb (zl (i:=3) sc_Pairs_split.nd rfl (Or.inl rfl) (zi G_as_pair (hr.mono (by decide)) rfl (za (dv 1) zd)))
 (zb (zl (i:=4) sc_Pairs_split.nd rfl (Or.inl rfl) (zg zP (zg z4 (zT (dv 0)) (zT (dv 0))) zc))
 (zb (zl (i:=5) sc_Pairs_split.nd rfl (Or.inl rfl) (zg yC (zg zP (zv (dv 3) zc (fun _ _=>rfl)) (zg z4 (zT (dv 0)) (zv (dv 3) zc (fun _ _=>rfl)))) (dv 4)))
 (zb (zl (i:=6) sc_Pairs_split.nd rfl (Or.inl rfl) (zi G_multiplied (hr.mono (by decide)) rfl (za (zw (za (zg yb (zv (dv 3) zc (fun _ _=>rfl)) (dv 5)) (za (zv (dv 3) zc (fun _ _=>rfl)) zd))) (za (zw (za (xn (zT (dv 0))) (za (xn zc) zd))) zd))))
 (ze (zh (zw (za (dv 5) (za (zw (za (zg xj (zv (dv 6) zc (fun _ _=>rfl)) (dv 4)) (za (zg xj (zv (dv 6) zc (fun _ _=>rfl)) (dv 4)) zd))) zd))))))))),?_⟩
 have hn1:1 ≤ n:=hn.1
 have hn2:n ≤ 9:=hn.2
 have sq:n * n ≤ 81:=by
  have:=Int.mul_le_mul hn2 hn2 (by omega) (by omega)
  omega
 have sq0:0 ≤ n * n:=Int.mul_nonneg (by omega) (by omega)
 have hN:nq 0 (n * n + 1):=⟨by omega,by omega⟩
 refine ⟨_,rfl,_,m,rfl,hm,?_⟩
 refine ⟨_,rfl,_,_,_,rfl,rfl,T.cl_Pairs,T.na_Pairs,_,rfl,_,_,_,rfl,rfl,T.cl_Pairs,T.na_Pairs,_,_,rfl,rfl,small (by omega) (by omega) _,_,_,rfl,rfl,?_⟩
 refine ⟨_,rfl,_,_,_,rfl,rfl,rfl,_,rfl,_,_,_,rfl,rfl,T.cl_Pairs,T.na_Pairs,_,rfl,_,_,_,rfl,rfl,rfl,_,_,rfl,rfl,xS (by omega) (by omega) _,_,_,rfl,rfl,_,rfl,_,_,rfl,rfl,(show n * n + 1 ≠ 0 by omega),?_⟩
 repeat (first | (walk_at "rd1") | refine ⟨_,_,_,rfl,rfl,T.cl_Pairs,T.na_Pairs,?_⟩)
 refine ⟨⟨small (show -1000000 ≤ -n by omega) (show -n ≤ 1000000 by omega) _,small (show (-1000000:Int) ≤ -1 by decide) (show (-1:Int) ≤ 1000000 by decide) _,small (show (-1000000:Int) ≤ -1 by decide) (show (-1:Int) ≤ 1000000 by decide) _,small (show -1000000 ≤ -n by omega) (show -n ≤ 1000000 by omega) _⟩,?_⟩
 repeat (first | (walk_at "rd1") | refine ⟨hN,?_⟩)
 exact q
abbrev zV:Stmt:=top 33
theorem sc_figures_and_carries:zf ["way","totals","figures","carry","found","place","parts"] ["way","totals"] (defScope zV):=⟨rfl,rfl,rfl,by decide +kernel,rfl,by decide +kernel,by decide +kernel⟩
theorem xG (T:Txt K mg A) (G_added:DOk P w K mg base 3 "added" (uI)) (G_thing_at:DOk P w K mg base 1 "thing_at" (tM)) (HNo:∀ k:Kd,MOk P w K mg base 1 (A.at k) "nought" (jU k)) (HHas:∀ k:Kd,MOk P w K mg base 3 (A.at k) "has" (wP k)) (HSp:∀ k:Kd,k.five=true→MOk P w K mg base 4 (A.at k) "split" (ng A k)) (F:Fun K "figures_and_carries" "figures_and_carries" zV f fd):FnOk P w K mg base CX0 5 f fd ["way","totals"] (zp K (dP A)):=by
 refine okD F sc_figures_and_carries (fun ds Q h=>?_) (fun cdv A' outer s H E hr ds Q h=>?_)
 ·obtain ⟨k,n,ts,J,rfl,h5,hn,ht,F,hJ,q⟩:=h
  rfl
 obtain ⟨k,n,ts,J,rfl,h5,hn,ht,F,hJ,q⟩:=h
 refine ⟨_,(zb (zx (zR (uF T.isinstance T.gc_Falling (dv 0))) (ze tD) zk)
 (zb (xK (i:=2) sc_figures_and_carries.nd rfl (Or.inl rfl) (vQ zd))
 (zb (zl (i:=3) sc_figures_and_carries.nd rfl (Or.inl rfl) (vh hr (dv 0)))
 (zb (xK (i:=4) sc_figures_and_carries.nd rfl (Or.inl rfl) (vQ (za (dv 3) zd)))
 (zb (tz PassesOwn.never (DW.dt (tx (zq (nO) (uE 2 rfl T.len) (yG rfl T.len (dv 1)) (zo _)) (vO (zq (rG hr) (dv 3) (vh hr (dv 0)) (zo _))))) (zb (zl (i:=5) sc_figures_and_carries.nd rfl (Or.inl rfl) (uE 2 rfl T.len))
 (z5 (zx (DW.dt (yd (zq (eB) (dv 5) (yG rfl T.len (dv 1)) (zo _)) (zW (xJ (zR (yR hr (dv 0) (za (dv 3) zd))))))) (ze tD) zk)
 (zb (zl (i:=6) sc_figures_and_carries.nd rfl (Or.inl rfl) (yR hr (dv 0) (za (zi G_added (hr.mono (by decide)) rfl (za (dv 3) (za (zi G_thing_at (hr.mono (by decide)) rfl (za (dv 1) (za (dv 5) zd))) zd))) (za (dv 5) zd))))
 (zb (wI 2 (zv (dv 6) zc (fun _ _=>rfl)))
 (zb (zl (i:=3) sc_figures_and_carries.nd rfl (Or.inl rfl) (zv (dv 6) zc (fun _ _=>rfl)))
 (ze (wI 4 (dv 3)))))))))
 (rO 2 (rO 4 (ze (zh (zw (za (dv 2) (za (dv 4) zd)))))))))))),?_⟩
 have ll:(ts.map Nm.dt).length=ts.length:=List.length_map _
 refine ⟨_,rfl,_,_,_,_,rfl,oO T k,kiF T k,_,rfl,?_⟩
 refine ifF (tu h5) ?_
 refine ⟨rfl,_,rfl,_,rfl,_,_,_,_,rfl,ve k,(HNo k).mono (by decide),_,rfl,_,rfl,rfl,_,rfl,?_⟩
 refine ⟨fun m ρ=>∃ j v5 v6,ρ=[.some (zK A k n),.some (kH ts),.own ((wa k n ts j).map Dt.int),.some (cAt k n ts j).dt,.own (qU k n ts (j + 1)),v5,v6]∧m=J - j∧j ≤ J,⟨J,0,_,_,rfl,rfl,Nat.zero_le _⟩,?_⟩
 rintro m ρ' ⟨j,v5,v6,rfl,rfl,hj⟩
 have fl:=w9 k n ts j
 have fl':((wa k n ts j).map Dt.int).length=j:=by rw [List.length_map,fl]
 have cl:(qU k n ts (j + 1)).length=j + 1:=by unfold qU; rw [List.length_map,jM]
 have hcz:cAt k n ts j=k.zero ↔ eqD (cAt k n ts j).dt k.zero.dt=true:=(gG (wg k n ts j) (yK k)).symm
 refine ⟨_,rfl,_,rfl,_,rfl,_,_,rfl,rfl,_,rfl,?_⟩
 by_cases hjJ:j < J
 ·refine ifB (fun _=>ifT rfl ?_) (fun hlt=>⟨_,rfl,_,rfl,_,_,_,_,rfl,ve k,(HNo k).mono (by decide),_,rfl,rF _,rF _,_,rfl,ifT (nF ?_) ?_⟩)
  rotate_left
  ·have hle:ts.length ≤ j:=by have:=of_decide_eq_false hlt; omega
   cases e:eqD (cAt k n ts j).dt k.zero.dt with
   | false=>rfl
   | true=>exact absurd (hcz.mpr e) (F.nz j hle hjJ).1
  all_goals
   refine ⟨_,rfl,?_⟩
   rw [fl']
   refine ⟨fun ρ=>ρ=[.some (zK A k n),.some (kH ts),.own ((wa k n ts j).map Dt.int),.some (cAt k n ts j).dt,.own (qU k n ts (j + 1)),.some (.int j),v6],?_,?_⟩
   ·refine ⟨_,rfl,_,rfl,_,rfl,_,_,rfl,rfl,_,rfl,?_⟩
    refine ifB (fun hge=>?_) (fun _=>ifF rfl rfl)
    have hge:ts.length ≤ j:=by have:=of_decide_eq_true hge; omega
    refine ⟨_,rfl,_,_,_,_,rfl,iz k,(HHas k).mono (by decide),_,rfl,_,_,_,rfl,z_ _,_,rfl,?_⟩
    rw [(F.nz j hge hjJ).2]
    exact ifF rfl rfl
   ·rintro ρ' rfl
    refine ⟨_,rfl,_,_,_,_,rfl,jA k,(HSp k h5).mono (by decide),_,rfl,_,rfl,_,rfl,_,_,rfl,by omega,?_⟩
    rw [Int.toNat_natCast,ju]
    refine ⟨_,_,_,_,rfl,z_ _,z_ _,_,rfl,n,_,j,rfl,wM (wg k n ts j) (xQ ht j),hn,by omega,?_⟩
    refine ⟨_,rfl,_,rfl,_,_,_,rfl,rfl,rfl,by omega,?_⟩
    refine ⟨_,rfl,_,_,_,rfl,rfl,rfl,?_⟩
    refine ⟨_,rfl,_,rfl,by omega,J - (j + 1),by omega,j + 1,.some (.int j),.some (.tup [.int (fAt k n ts j),(cAt k n ts (j + 1)).dt]),?_,rfl,hjJ⟩
    have ef:(wa k n ts j).map Dt.int ++ [Dt.int (fAt k n ts j)]=(wa k n ts (j + 1)).map Dt.int:=by rw [nZ,ko]
    have ec:qU k n ts (j + 1) ++ [(cAt k n ts (j + 1)).dt]=qU k n ts (j + 1 + 1):=by unfold qU; rw [kd k n ts (j + 1),List.map_append]; rfl
    rw [← ec,← ef]
    rfl
 ·have ej:j=J:=by omega
  subst ej
  refine ifF (decide_eq_false (by rw [fl',ll]; have:=F.le; omega)) ?_
  refine ⟨_,rfl,_,rfl,_,_,_,_,rfl,ve k,(HNo k).mono (by decide),_,rfl,rF _,rF _,_,rfl,ifF (nT (hcz.mp F.z)) ?_⟩
  exact ⟨_,rfl,_,rfl,_,rfl,_,rfl,rfl,q⟩
abbrev vq:Stmt:=top 34
theorem pq:zf ["way","totals"] ["way","totals"] (defScope vq):=⟨rfl,rfl,rfl,by decide +kernel,rfl,by decide +kernel,by decide +kernel⟩
theorem pP (T:Txt K mg A) (G_trimmed:FOk P w K mg base 1 "trimmed" (ox)) (G_figures_and_carries:DOk P w K mg base 5 "figures_and_carries" (dP A)) (F:Fun K "settled" "settled" vq f fd):FnOk P w K mg base CX0 6 f fd ["way","totals"] (yT K (sZ A)):=by
 refine okF F pq (fun ds Q h=>?_) (fun cdv A' outer s H E hr ds Q h=>?_)
 ·obtain ⟨k,n,ts,J,rfl,h5,hn,ht,F,hJ,q⟩:=h
  rfl
 obtain ⟨k,n,ts,J,rfl,h5,hn,ht,F,hJ,q⟩:=h
 refine ⟨_,(ze (vf (uD G_trimmed (hr.mono (by decide)) rfl (za (zv (zi G_figures_and_carries (hr.mono (by decide)) rfl (za (dv 0) (za (dv 1) zd))) zc (fun _ _=>rfl)) zd)))),?_⟩
 refine ⟨_,rfl,_,rfl,k,n,ts,J,rfl,h5,hn,ht,F,hJ,_,_,_,rfl,rfl,rfl,?_⟩
 exact ⟨_,rfl,q⟩
abbrev vo:Stmt:=top 42
theorem pj:zf ["way","number"] ["way","number"] (defScope vo):=⟨rfl,rfl,rfl,by decide +kernel,rfl,by decide +kernel,by decide +kernel⟩
theorem pN (T:Txt K mg A) (G_written_by_weights:FOk P w K mg base 5 "written_by_weights" (iJ A)) (G_settled:FOk P w K mg base 6 "settled" (sZ A)) (HHas:∀ k:Kd,MOk P w K mg base 3 (A.at k) "has" (wP k)) (F:Fun K "written" "written" vo f fd):FnOk P w K mg base (CX1 P w) 7 f fd ["way","number"] (wm K (o_ A)):=by
 refine fZ F pj (fun ds Q R h=>?_) (fun cdv A' outer s H E hr ds Q R h rz=>?_)
 ·obtain ⟨k,n,m,rfl,hn,hw⟩:=h
  rfl
 obtain ⟨k,n,m,rfl,hn,hw⟩:=h
 refine ⟨_,(zb (zx (xJ (zR (yR hr (dv 0) (za (dv 1) zd)))) (ze (qQ rfl rfl T.gc_NoNumber T.ex_NoNumber zt)) zk)
 (zb (zx (zR (uF T.isinstance T.gc_Falling (dv 0))) (ze (vf (uD G_written_by_weights (hr.mono (by decide)) rfl (za (dv 0) (za (dv 1) zd))))) zk)
 (ze (vf (uD G_settled (hr.mono (by decide)) rfl (za (dv 0) (za (zI (za (dv 1) zd)) zd))))))),?_⟩
 refine ⟨_,rfl,_,_,_,_,rfl,iz k,(HHas k).mono (by decide),_,rfl,_,_,_,rfl,z_ m,_,rfl,?_⟩
 rcases hw with ⟨hm,r,hw,q⟩ | ⟨hm,hR⟩
 ·rw [hm]
  refine ifF rfl ?_
  refine ⟨_,rfl,_,_,_,_,rfl,oO T k,kiF T k,_,rfl,?_⟩
  by_cases hk:k=.falling
  ·subst hk
   obtain ⟨a,rfl⟩:∃ a,m=.i a:=x8 hm
   obtain ⟨rfl,hb⟩:=hw
   exact ifT rfl ⟨_,rfl,_,rfl,n,a,rfl,hn,of_decide_eq_true hm,hb,q⟩
  ·have h5:k.five=true:=by cases k <;> first | rfl | exact absurd rfl hk
   obtain ⟨J,hJ,F,rfl⟩:∃ J,J ≤ 50000∧Fin k n [m] J∧r=tO k n [m] J:=by cases k <;> first | exact hw | exact absurd rfl hk
   refine ifF (tu h5) ⟨_,rfl,_,rfl,rfl,k,n,[m],J,rfl,h5,hn,rq hm,F,hJ,q⟩
 ·rw [hm]
  exact ifT rfl (rz _ hR)
abbrev xU:Stmt:=top 44
theorem rd:zf ["way","number"] ["way","number"] (defScope xU):=⟨rfl,rfl,rfl,by decide +kernel,rfl,by decide +kernel,by decide +kernel⟩
theorem rC (T:Txt K mg A) (G_as_pair:DOk P w K mg base 2 "as_pair" (xt)) (G_is_pair:DOk P w K mg base 2 "is_pair" (vT)) (F:Fun K "as_wanted" "as_wanted" xU f fd):FnOk P w K mg base CX0 3 f fd ["way","number"] (zp K (kv A)):=by
 refine okD F rd (fun ds Q h=>?_) (fun cdv A' outer s H E hr ds Q h=>?_)
 ·obtain ⟨k,n,m,rfl,q⟩:=h
  rfl
 obtain ⟨k,n,m,rfl,q⟩:=h
 refine ⟨_,(zb (zx (zR (uF T.isinstance T.gc_Pairs (dv 0))) (ze (zh (zi G_as_pair (hr.mono (by decide)) rfl (za (dv 1) zd)))) zk)
 (z5 (zx (DW.dt (yd (zR (zi G_is_pair (hr.mono (by decide)) rfl (za (dv 1) zd))) (zW (zq (x5 hr) (zv (dv 1) zc (fun _ _=>rfl)) zc (zo _))))) (ze (zh (zv (dv 1) zc (fun _ _=>rfl)))) zk)
 (ze (zh (dv 1))))),?_⟩
 refine ⟨_,rfl,_,_,_,_,rfl,oO T k,kiP T k,_,rfl,?_⟩
 by_cases hk:k=.pairs
 ·subst hk
  exact ifT rfl ⟨_,rfl,_,m,rfl,z_ m,q⟩
 ·refine ifF (by cases k <;> first | rfl | exact absurd rfl hk) ?_
  refine ⟨fun ρ=>ρ=[.some (zK A k n),.some m.dt]∧yW k m=m,?_,?_⟩
  ·refine ⟨_,rfl,_,m,rfl,z_ m,_,rfl,?_⟩
   cases m with
   | i a=>exact ifF rfl (ifF rfl ⟨rfl,by cases k <;> first | rfl | exact absurd rfl hk⟩)
   | p a b=>
    refine ifT rfl ?_
    refine ⟨_,rfl,_,_,_,rfl,rfl,rfl,rfl,rfl,_,rfl,?_⟩
    refine ifB (fun h=>?_) (fun h=>⟨rfl,?_⟩)
    ·have e:yW k (.p a b)=.i a:=by
      have hb:b=0:=u4 h
      subst hb
      cases k <;> first | rfl | exact absurd rfl hk
     rw [e] at q
     exact ⟨_,rfl,_,_,_,rfl,rfl,rfl,q⟩
    ·have hb:b ≠ 0:=vG h
     cases k <;> first | exact if_neg hb | exact absurd rfl hk
  ·rintro ρ' ⟨rfl,e⟩
   rw [e] at q
   exact ⟨_,rfl,q⟩
abbrev rj:Stmt:=top 40
theorem sc_worth:zf ["way","row","number","thing","weight"] ["way","row"] (defScope rj):=⟨rfl,rfl,rfl,by decide +kernel,rfl,by decide +kernel,by decide +kernel⟩
theorem m_ (T:Txt K mg A) (G_added:DOk P w K mg base 3 "added" (uI)) (G_multiplied:DOk P w K mg base 3 "multiplied" (rY)) (HNo:∀ k:Kd,MOk P w K mg base 1 (A.at k) "nought" (jU k)) (HW:∀ k:Kd,FMOk P w K mg base 4 (A.at k) "weights" (kr A k)) (F:Fun K "worth" "worth" rj f fd):FnOk P w K mg base CX0 5 f fd ["way","row"] (zp K (nc A)):=by
 refine okD F sc_worth (fun ds Q h=>?_) (fun cdv A' outer s H E hr ds Q h=>?_)
 ·obtain ⟨k,n,ns,rfl,hn,hl,hb,q⟩:=h
  rfl
 obtain ⟨k,n,ns,rfl,hn,hl,hb,q⟩:=h
 refine ⟨_,(zb (zl (i:=2) sc_worth.nd rfl (Or.inl rfl) (vh hr (dv 0)))
 (zb (oh (i:=3) (j:=4) rfl sc_worth.nd rfl rfl (Or.inl rfl) (Or.inl rfl) PassesOwn.never rfl T.n_zip (za (dv 1) (za (DF.de (oZ hr (dv 0) (za (yG rfl T.len (dv 1)) zd))) zd)) (ze (zl (i:=2) sc_worth.nd rfl (Or.inl rfl) (zi G_added (hr.mono (by decide)) rfl (za (dv 2) (za (zi G_multiplied (hr.mono (by decide)) rfl (za (dv 3) (za (dv 4) zd))) zd))))))
 (ze (zh (dv 2))))),?_⟩
 have hlen:(ns.map Dt.int).length=ns.length:=List.length_map _
 refine ⟨_,rfl,_,_,_,_,rfl,ve k,(HNo k).mono (by decide),⟨_,rfl,?_⟩⟩
 refine ⟨_,rfl,_,rfl,_,_,_,_,rfl,sP k,(HW k).mono (by decide),_,rfl,_,rfl,n,_,rfl,hn,by omega,by rw [hlen]; omega,?_⟩
 refine ⟨_,_,_,_,fun i ρ=>∃ v u,ρ=[.some (zK A k n),.some (zC ns),.some (yL k n ns i).dt,v,u],rfl,rfl,rfl,⟨_,_,rfl⟩,?_,?_⟩
 ·rintro i x y ρ' hx hy ⟨v,u,rfl⟩
  obtain ⟨rfl,hi⟩:=kO hx
  obtain rfl:=oz hy
  refine ⟨_,rfl,_,rfl,_,rfl,_,_,.i (ns.getD i 0),wt k n i,rfl,rfl,z_ _,ln (cK (rS hb i)) (jY hn (by omega)) (by omega),?_⟩
  refine ⟨_,_,yL k n ns i,(Nm.i (ns.getD i 0)).mul (wt k n i),rfl,z_ _,z_ _,?_⟩
  exact ⟨_,_,rfl⟩
 ·rintro ρ' ⟨v,u,rfl⟩
  have e:min (ns.map Dt.int).length (wts k n (((ns.map Dt.int).length:Nat):Int).toNat).length=ns.length:=by rw [yV,hlen]; omega
  rw [e]
  exact ⟨_,rfl,q⟩
abbrev rk:Stmt:=top 45
theorem mE:zf ["way","row","other"] ["way","row","other"] (defScope rk):=⟨rfl,rfl,rfl,by decide +kernel,rfl,by decide +kernel,by decide +kernel⟩
theorem la (T:Txt K mg A) (G_held_to_be_writings:DOkX P w K mg base 4 "held_to_be_writings" (nk A)) (G_written:FOkX P w K mg base 7 "written" (o_ A)) (G_as_wanted:DOk P w K mg base 3 "as_wanted" (kv A)) (G_worth:DOk P w K mg base 5 "worth" (nc A)) (F:Fun K "moved" "moved" rk f fd):FnOk P w K mg base (CX1 P w) 8 f fd ["way","row","other"] (wm K (qZ A)):=by
 refine fZ F mE (fun ds Q R h=>?_) (fun cdv A' outer s H E hr ds Q R h rz=>?_)
 ·obtain ⟨k,n,r,k2,n2,rfl,hn,hn2,hl,hw⟩:=h
  rfl
 obtain ⟨k,n,r,k2,n2,rfl,hn,hn2,hl,hw⟩:=h
 refine ⟨_,(zb (jE (lY G_held_to_be_writings (hr.mono (by decide)) rfl (za (dv 0) (za (zI (za (dv 1) zd)) zd))))
 (ze (vf (lU G_written (hr.mono (by decide)) rfl (za (dv 2) (za (zi G_as_wanted (hr.mono (by decide)) rfl (za (dv 2) (za (zi G_worth (hr.mono (by decide)) rfl (za (dv 0) (za (dv 1) zd))) zd))) zd)))))),?_⟩
 refine ⟨_,rfl,_,rfl,rfl,k,n,[r],rfl,hn,fun r' h'=>by rw [List.mem_singleton.mp h']; exact hl,?_⟩
 rcases hw with ⟨h1,h2⟩ | ⟨h1,h2,h3⟩ | ⟨h1,h2,r2,h3,q⟩
 ·exact .inr ⟨⟨r,List.mem_singleton.mpr rfl,h1⟩,rz _ h2⟩
 ·refine .inl ⟨fun r' h'=>by rw [List.mem_singleton.mp h']; exact h1,?_⟩
  exact ⟨_,rfl,_,rfl,_,rfl,_,rfl,k,n,r,rfl,hn,hl,p8 hn h1 (by omega),k2,n2,_,rfl,k2,n2,_,rfl,hn2,.inr ⟨h2,rz _ h3⟩⟩
 ·refine .inl ⟨fun r' h'=>by rw [List.mem_singleton.mp h']; exact h1,?_⟩
  exact ⟨_,rfl,_,rfl,_,rfl,_,rfl,k,n,r,rfl,hn,hl,p8 hn h1 (by omega),k2,n2,_,rfl,k2,n2,_,rfl,hn2,.inl ⟨h2,r2,h3,q⟩⟩
abbrev y9:Stmt:=top 57
theorem sc_law_names:zf ["_law_e","_law_some"] ["_law_e"] (defScope y9):=⟨rfl,rfl,rfl,by decide +kernel,rfl,by decide +kernel,by decide +kernel⟩
theorem rA (T:Txt K mg A) (F:Fun K "_law_names" "_law_names" y9 f fd):FnOk P w K mg base CX0 1 f fd ["_law_e"] (zp K (kA A)):=by
 refine okD F sc_law_names (fun ds Q h=>?_) (fun cdv A' outer s H E hr ds Q h=>?_)
 ·obtain ⟨C,rfl,hw⟩:=h
  rfl
 obtain ⟨C,rfl,hw⟩:=h
 refine ⟨_,(zb (zl (i:=1) sc_law_names.nd rfl (Or.inl rfl) (zI (za (zw (za zt (za (yh T.isinstance T.gc_NoWriting (dv 0)) zd))) (za (zw (za zt (za (yh T.isinstance T.gc_NoNumber (dv 0)) zd))) zd))))
 (zb (zl (i:=1) sc_law_names.nd rfl (Or.inl rfl) (zg wY (dv 1) (zI (za (zw (za zt (za (yh T.isinstance T.gc_NoPairs (dv 0)) zd))) (za (zw (za zt (za (yh T.isinstance T.gc_NoWay (dv 0)) zd))) zd)))))
 (zb (zl (i:=1) sc_law_names.nd rfl (Or.inl rfl) (zg wY (dv 1) (zI (za (zw (za zt (za (yh T.isinstance T.gc_TooLess (dv 0)) zd))) (za (zw (za zt (za (yh T.isinstance T.gc_NoRatio (dv 0)) zd))) zd)))))
 (zb (zl (i:=1) sc_law_names.nd rfl (Or.inl rfl) (zg wY (dv 1) (zI (za (zw (za zt (za (yh T.isinstance T.gc_NoFalling (dv 0)) zd))) (za (zw (za zt (za (yh T.isinstance T.gc_Nought (dv 0)) zd))) zd)))))
 (zb (zl (i:=1) sc_law_names.nd rfl (Or.inl rfl) (zg wY (dv 1) (zI (za (zw (za zt (za (yh T.isinstance T.gc_NoSpan (dv 0)) zd))) (za (zw (za zt (za (yh T.isinstance T.gc_NoTotal (dv 0)) zd))) zd)))))
 (zb (zl (i:=1) sc_law_names.nd rfl (Or.inl rfl) (zg wY (dv 1) (zI (za (zw (za zt (za (yh T.isinstance T.gc_NoText (dv 0)) zd))) (za (zw (za zt (za (yh T.isinstance T.gc_NoRow (dv 0)) zd))) zd)))))
 (zb (zl (i:=1) sc_law_names.nd rfl (Or.inl rfl) (zg wY (dv 1) (zI (za (zw (za zt (za (lW (lX T.isinstance T.n_ValueError (dv 0))) zd))) zd))))
 (ze (zh (DF.de (lT (L:=0) (osc:=defScope y9) (N0:=["_law_e","_law_some"]) (bs:=["_law_word","_law_truth"]) (caps:=[]) (js:=[]) rfl (by decide +kernel) rfl rfl rfl (jF (dv 1)) (fun _ _ _ _ _=>(uV rfl (ye (zS (i:=0) (show List.Nodup [("_law_word":Str),("_law_truth":Str)] by decide +kernel) rfl (Or.inl (lookup_relabel_local rfl)) (.inl rfl)) (ye (zS (i:=1) (show List.Nodup [("_law_word":Str),("_law_truth":Str)] by decide +kernel) rfl (Or.inl (lookup_relabel_local rfl)) (.inl rfl)) wU)))) jn (fun _ _ _ _ _=>(gO (zR (dv 1)))) (fun _ _ _ _ _=>(dv 0))))))))))))),?_⟩
 rcases hw with ⟨rfl,q⟩ | ⟨rfl,q⟩
 ·repeat (first | (walk_at "rd1") | refine ⟨by decide,?_⟩ | refine ⟨_,_,rfl,T.ix_NoWriting,T.kx_NoWriting_NoWriting,?_⟩ | refine ⟨_,_,rfl,T.ix_NoWriting,T.kx_NoWriting_NoNumber,?_⟩ | refine ⟨_,_,rfl,T.ix_NoWriting,T.kx_NoWriting_NoPairs,?_⟩ | refine ⟨_,_,rfl,T.ix_NoWriting,T.kx_NoWriting_NoWay,?_⟩ | refine ⟨_,_,rfl,T.ix_NoWriting,T.kx_NoWriting_TooLess,?_⟩ | refine ⟨_,_,rfl,T.ix_NoWriting,T.kx_NoWriting_NoRatio,?_⟩ | refine ⟨_,_,rfl,T.ix_NoWriting,T.kx_NoWriting_NoFalling,?_⟩ | refine ⟨_,_,rfl,T.ix_NoWriting,T.kx_NoWriting_Nought,?_⟩ | refine ⟨_,_,rfl,T.ix_NoWriting,T.kx_NoWriting_NoSpan,?_⟩ | refine ⟨_,_,rfl,T.ix_NoWriting,T.kx_NoWriting_NoTotal,?_⟩ | refine ⟨_,_,rfl,T.ix_NoWriting,T.kx_NoWriting_NoText,?_⟩ | refine ⟨_,_,rfl,T.ix_NoWriting,T.kx_NoWriting_NoRow,?_⟩ | refine ⟨_,_,rfl,T.ix_NoWriting,T.kx_NoWriting_ValueError,?_⟩)
  exact tH (ρ:=[]) [(.ofString "NoWriting",true),(.ofString "NoNumber",false),(.ofString "NoPairs",false),(.ofString "NoWay",false),(.ofString "TooLess",false),(.ofString "NoRatio",false),(.ofString "NoFalling",false),(.ofString "Nought",false),(.ofString "NoSpan",false),(.ofString "NoTotal",false),(.ofString "NoText",false),(.ofString "NoRow",false),(.ofString "plain",false)] q
 ·repeat (first | (walk_at "rd1") | refine ⟨by decide,?_⟩ | refine ⟨_,_,rfl,T.ix_NoNumber,T.kx_NoNumber_NoWriting,?_⟩ | refine ⟨_,_,rfl,T.ix_NoNumber,T.kx_NoNumber_NoNumber,?_⟩ | refine ⟨_,_,rfl,T.ix_NoNumber,T.kx_NoNumber_NoPairs,?_⟩ | refine ⟨_,_,rfl,T.ix_NoNumber,T.kx_NoNumber_NoWay,?_⟩ | refine ⟨_,_,rfl,T.ix_NoNumber,T.kx_NoNumber_TooLess,?_⟩ | refine ⟨_,_,rfl,T.ix_NoNumber,T.kx_NoNumber_NoRatio,?_⟩ | refine ⟨_,_,rfl,T.ix_NoNumber,T.kx_NoNumber_NoFalling,?_⟩ | refine ⟨_,_,rfl,T.ix_NoNumber,T.kx_NoNumber_Nought,?_⟩ | refine ⟨_,_,rfl,T.ix_NoNumber,T.kx_NoNumber_NoSpan,?_⟩ | refine ⟨_,_,rfl,T.ix_NoNumber,T.kx_NoNumber_NoTotal,?_⟩ | refine ⟨_,_,rfl,T.ix_NoNumber,T.kx_NoNumber_NoText,?_⟩ | refine ⟨_,_,rfl,T.ix_NoNumber,T.kx_NoNumber_NoRow,?_⟩ | refine ⟨_,_,rfl,T.ix_NoNumber,T.kx_NoNumber_ValueError,?_⟩)
  exact tH (ρ:=[]) [(.ofString "NoWriting",false),(.ofString "NoNumber",true),(.ofString "NoPairs",false),(.ofString "NoWay",false),(.ofString "TooLess",false),(.ofString "NoRatio",false),(.ofString "NoFalling",false),(.ofString "Nought",false),(.ofString "NoSpan",false),(.ofString "NoTotal",false),(.ofString "NoText",false),(.ofString "NoRow",false),(.ofString "plain",false)] q
abbrev xT:Stmt:=top 58
theorem sc_law_asked:zf ["_law_way_here","_law_row","_law_other","_law_error","_law_found","_law_e"] ["_law_way_here","_law_row","_law_other"] (defScope xT):=⟨rfl,rfl,rfl,by decide +kernel,rfl,by decide +kernel,by decide +kernel⟩
theorem rB (T:Txt K mg A) (G_moved:FOkX P w K mg base 8 "moved" (qZ A)) (G__law_names:DOk P w K mg base 1 "_law_names" (kA A)) (F:Fun K "_law_asked" "_law_asked" xT f fd):FnOk P w K mg base CX0 9 f fd ["_law_way_here","_law_row","_law_other"] (o9 K (.t false true) (oy A)):=by
 refine okT F sc_law_asked (fun ds Q h=>?_) (fun cdv A' outer s H E hr ds Q h=>?_)
 ·obtain ⟨k,n,r,k2,n2,rfl,hn,hn2,hl,hw⟩:=h
  rfl
 obtain ⟨k,n,r,k2,n2,rfl,hn,hn2,hl,hw⟩:=h
 refine ⟨_,(zb (zl (i:=3) sc_law_asked.nd rfl (Or.inl rfl) oi)
 (zb (zl (i:=4) sc_law_asked.nd rfl (Or.inl rfl) oi)
 (zb (su (i:=4) (j:=5) rfl rfl sc_law_asked.nd rfl (Or.inl rfl) rfl rfl G_moved (hr.mono (by decide)) rfl (za (dv 0) (za (dv 1) (za (dv 2) zd))) (fun _=>(ze (zl (i:=3) sc_law_asked.nd rfl (Or.inl rfl) (dv 5)))) rfl T.gc_OddError)
 (zb (zx (gJ (dv 3)) (ze (oW (eV (zI zd)) (eU 4))) zk)
 (ze (oW (eV (zi G__law_names (hr.mono (by decide)) rfl (za (dv 3) zd))) (cx oi))))))),?_⟩
 refine ⟨_,rfl,_,rfl,_,rfl,k,n,r,k2,n2,rfl,hn,hn2,hl,?_⟩
 rcases hw with ⟨h1,q⟩ | ⟨h1,h2,q⟩ | ⟨h1,h2,r2,h3,q⟩
 ·refine .inl ⟨h1,T.em_NoWriting_OddError,?_⟩
  refine ⟨_,rfl,_,rfl,_,rfl,ifF rfl ?_⟩
  exact ⟨_,rfl,_,rfl,.inl ⟨rfl,rfl,q⟩⟩
 ·refine .inr (.inl ⟨h1,h2,T.em_NoNumber_OddError,?_⟩)
  refine ⟨_,rfl,_,rfl,_,rfl,ifF rfl ?_⟩
  exact ⟨_,rfl,_,rfl,.inr ⟨rfl,rfl,q⟩⟩
 ·refine .inr (.inr ⟨h1,h2,r2,h3,_,rfl,?_⟩)
  refine ⟨_,rfl,_,rfl,ifT rfl ?_⟩
  exact ⟨rfl,.inl ⟨_,rfl,q⟩⟩
abbrev yx:Stmt:=top 52
theorem sc_law_is_writing:zf ["_law_name","_law_number","_law_row","_law_place"] ["_law_name","_law_number","_law_row"] (defScope yx):=⟨rfl,rfl,rfl,by decide +kernel,rfl,by decide +kernel,by decide +kernel⟩
theorem wW (T:Txt K mg A) (G__law_low:DOk P w K mg base 1 "_law_low" (rZ)) (G__law_high:DOk P w K mg base 1 "_law_high" (uH)) (F:Fun K "_law_is_writing" "_law_is_writing" yx f fd):FnOk P w K mg base CX0 2 f fd ["_law_name","_law_number","_law_row"] (zp K (kB)):=by
 refine okD F sc_law_is_writing (fun ds Q h=>?_) (fun cdv A' outer s H E hr ds Q h=>?_)
 ·obtain ⟨k,n,r,rfl,hn,hL,hl,q⟩:=h
  rfl
 obtain ⟨k,n,r,rfl,hn,hL,hl,q⟩:=h
 refine ⟨_,(zb (zx (xJ (zR (vR (T:=.list) T.kt T.isinstance T.n_list PyProof.Rows.boot_list (dv 2)))) (ze (zh xq)) zk)
 (zb (vg (j:=3) rfl sc_law_is_writing.nd rfl (Or.inl rfl) PassesOwn.never rfl T.range (yG rfl T.len (dv 2)) (z5 (zx (DW.dt (tx (xJ (zR (vR (T:=.int) T.kt T.isinstance T.n_int PyProof.Rows.boot_int (zv (dv 2) (dv 3) (fun _ _=>rfl))))) (vO (zR (vR (T:=.bool) T.kt T.isinstance T.n_bool PyProof.Rows.boot_bool (zv (dv 2) (dv 3) (fun _ _=>rfl))))))) (ze (zh xq)) zk)
 (zb (zx (xJ (lN (eA) (eA) (zi G__law_low (hr.mono (by decide)) rfl (za (dv 0) (za (dv 1) zd))) (zv (dv 2) (dv 3) (fun _ _=>rfl)) (zi G__law_high (hr.mono (by decide)) rfl (za (dv 0) (za (dv 1) (za (dv 3) zd)))))) (ze (zh xq)) zk)
 (ze (zx (DW.dt (yd (zq (yI) (dv 0) zt (zo _)) (yd (zq (jj) (dv 3) zc (zo _)) (yd (zq (x5 hr) (zv (dv 2) (dv 3) (fun _ _=>rfl)) (dv 1) (zo _)) (zW (zq (rG hr) (zv (dv 2) (zg yb (dv 3) zc) (fun _ _=>rfl)) zc (zo _))))))) (ze (zh xq)) zk)))))
 (ze (zh (eW (wJ (x5 hr) (yG rfl T.len (dv 2)) zc (zo _)) (tG (wJ (rG hr) (zv (dv 2) (xn zc) (fun _ _=>rfl)) zc (zo _)))))))),?_⟩
 have ll:=zG r
 walk_at "rd"
 refine ⟨_,fun i ρ=>∃ v,ρ=[.some (.str k.nam),.some (.int n),.some (zC r),v],rfl,by omega,by omega,⟨_,rfl⟩,?_,?_⟩
 ·rintro i ρ' hi ⟨v,rfl⟩
  have hi':i < r.length:=by omega
  obtain ⟨f1,f2⟩:=hL.fig i hi'
  refine ⟨fun ρ=>ρ=[.some (.str k.nam),.some (.int n),.some (zC r),.some (.int i)],?_,?_⟩
  ·refine ⟨_,rfl,_,rfl,_,_,_,rfl,rfl,wC hi',?_⟩
   walk_at "rd"
   refine ⟨_,_,_,rfl,rfl,wC hi',?_⟩
   walk_at "rd"
   rfl
  ·rintro ρ' rfl
   refine ⟨_,rfl,_,rfl,k,n,i,rfl,?_⟩
   refine ⟨_,rfl,_,rfl,_,_,_,rfl,rfl,wC hi',_,_,rfl,rfl,_,rfl,ifT (decide_eq_true f1) ?_⟩
   refine ⟨_,rfl,_,rfl,_,rfl,k,n,i,rfl,hn,_,_,rfl,rfl,_,rfl,ifF (nT (decide_eq_true f2)) ?_⟩
   by_cases hk:k=.falling
   ·subst hk
    refine ⟨_,rfl,_,_,rfl,rfl,_,rfl,ifT rfl ?_⟩
    refine ⟨_,rfl,_,_,rfl,rfl,_,rfl,?_⟩
    refine ifB (fun h3=>?_) (fun h3=>ifF rfl ⟨_,rfl⟩)
    have h3:(0:Int) < i:=of_decide_eq_true h3
    refine ⟨_,rfl,_,rfl,_,_,_,rfl,rfl,wC hi',_,rfl,rfl,rfl,_,rfl,?_⟩
    refine ifB (fun h4=>?_) (fun h4=>ifF rfl ⟨_,rfl⟩)
    refine ⟨_,rfl,_,rfl,_,_,rfl,rfl,_,_,_,rfl,rfl,vj (by omega) (by omega),rfl,rfl,_,rfl,ifF (nT (eqI ?_)) ⟨_,rfl⟩⟩
    have e1:((i:Int) - 1).toNat=i - 1:=by omega
    rw [e1]
    have hi1:i - 1 + 1=i:=by omega
    exact hL.fal rfl (i - 1) (by omega) (by rw [hi1]; exact u4 h4)
   ·have en:(k.nam == Str.ofString "falling")=false:=by cases k <;> first | rfl | exact absurd rfl hk
    exact ⟨_,rfl,_,_,rfl,rfl,_,rfl,ifF en (ifF rfl ⟨_,rfl⟩)⟩
 ·rintro ρ' ⟨v,rfl⟩
  walk_at "rd"
  rcases zE r with rfl | ⟨l,y,rfl⟩
  ·exact ifT rfl q
  ·have ez:(l ++ [y]).getD ((l ++ [y]).length - 1) 0=y:=by rw [List.length_append]; exact getD_snoc_eq
   have hy:y ≠ 0:=by
    rcases hL.end_ with h | h
    ·simp at h
    ·rw [ez] at h; exact h
   refine ifF (neI (by rw [ll,List.length_append]; simp; omega)) ?_
   refine ⟨_,rfl,_,rfl,_,_,_,rfl,rfl,wk,rfl,rfl,?_⟩
   rw [neI hy]
   exact q
abbrev uU:Stmt:=top 59
theorem sc_law:zf ["_law_script","_law_name","_law_number","_law_part","_law_other_name","_law_other_number","_law_row","_law_due","_law_pair","_law_handed","_law_way_here","_law_names_here","_law_found"] ["_law_script"] (defScope uU):=⟨rfl,rfl,rfl,by decide +kernel,rfl,by decide +kernel,by decide +kernel⟩
theorem gk (T:Txt K mg A) (G__law_chosen:DOk P w K mg base 1 "_law_chosen" (q0)) (G__law_cell_at:DOk P w K mg base 1 "_law_cell_at" (kD)) (G__law_row_by:DOk P w K mg base 2 "_law_row_by" (qY)) (G__law_spoilt:DOk P w K mg base 2 "_law_spoilt" (sY)) (G__law_pair_of:DOk P w K mg base 2 "_law_pair_of" (kz)) (G__law_way:DOk P w K mg base 5 "_law_way" (ku A)) (G__law_asked:TOk P w K mg base 9 "_law_asked" (.t false true) (oy A)) (G__law_is_writing:DOk P w K mg base 2 "_law_is_writing" (kB)) (F:Fun K "law" "law" uU f fd):FnOk P w K mg base CX0 10 f fd ["_law_script"] (zp K (nj)):=by
 refine okD F sc_law (fun ds Q h=>?_) (fun cdv A' outer s H E hr ds Q h=>?_)
 ·obtain ⟨ns,rfl,hns,q⟩:=h
  rfl
 obtain ⟨ns,rfl,hns,q⟩:=h
 refine ⟨_,(zb (lP (i:=1) (j:=2) rfl sc_law.nd rfl rfl (Or.inl rfl) (Or.inl rfl) (zi G__law_chosen (hr.mono (by decide)) rfl (za (zi G__law_cell_at (hr.mono (by decide)) rfl (za (dv 0) (za zc zd))) zd)))
 (zb (zl (i:=3) sc_law.nd rfl (Or.inl rfl) (zi G__law_cell_at (hr.mono (by decide)) rfl (za (dv 0) (za zc zd))))
 (zb (lP (i:=4) (j:=5) rfl sc_law.nd rfl rfl (Or.inl rfl) (Or.inl rfl) (zi G__law_chosen (hr.mono (by decide)) rfl (za (zg xj (dv 3) zc) zd)))
 (zb (zl (i:=6) sc_law.nd rfl (Or.inl rfl) (zi G__law_row_by (hr.mono (by decide)) rfl (za (dv 1) (za (dv 2) (za (tF (dv 0) (uC zc) (uC zc)) zd)))))
 (zb (zl (i:=7) sc_law.nd rfl (Or.inl rfl) (zI zd))
 (z5 (zx (zq (x5 hr) (zg yC (dv 3) zc) zc (zo _)) (zb (zl (i:=6) sc_law.nd rfl (Or.inl rfl) (zi G__law_spoilt (hr.mono (by decide)) rfl (za (dv 1) (za (dv 2) (za (dv 6) (za (zg xj (dv 3) zc) zd))))))
 (ze (zl (i:=7) sc_law.nd rfl (Or.inl rfl) (zI (za zt zd))))) (zb (zl (i:=8) sc_law.nd rfl (Or.inl rfl) (zi G__law_pair_of (hr.mono (by decide)) rfl (za (dv 1) (za (dv 2) (za (dv 6) zd)))))
 (z5 (zx (DW.dt (yd (zq (eo) (dv 4) zt (zo _)) (zW (zq (rG hr) (zv (dv 8) zc (fun _ _=>rfl)) zc (zo _))))) (ze (zl (i:=7) sc_law.nd rfl (Or.inl rfl) (zI (za zt zd)))) zk)
 (ze (zx (DW.dt (yd (zq lh (dv 4) (zI (za zt (za zt (za zt zd)))) (by with_unfolding_all rfl)) (zW (zq (nO) (zv (dv 8) zc (fun _ _=>rfl)) zc (zo _))))) (ze (zl (i:=7) sc_law.nd rfl (Or.inl rfl) (zI (za zt zd)))) zk)))))
 (zb (zl (i:=9) sc_law.nd rfl (Or.inl rfl) (DF.de (o0 rfl T.n_list (dv 6))))
 (zb (zl (i:=10) sc_law.nd rfl (Or.inl rfl) (zi G__law_way (hr.mono (by decide)) rfl (za (dv 1) (za (dv 2) zd))))
 (zb (oV (i:=11) (j:=12) rfl sc_law.nd rfl rfl (Or.inl rfl) (Or.inl rfl) (oX G__law_asked (hr.mono (by decide)) rfl (za (dv 10) (za (dv 9) (za (zi G__law_way (hr.mono (by decide)) rfl (za (dv 4) (za (dv 5) zd))) zd)))))
 (z5 (zx (DW.dt (tx (zq (rG hr) (dv 11) (dv 7) (zo _)) (vO (zq (rG hr) (dv 9) (dv 6) (zo _))))) (ze (zh xq)) zk)
 (z5 (zx (lO (DW.dt (yd (zq (x5 hr) (dv 7) (zI zd) (zo _)) (zW (xJ (zR (zi G__law_is_writing (hr.mono (by decide)) rfl (za (dv 4) (za (dv 5) (za (dv 12) zd)))))))))) (ze (zh xq)) zk)
 (zb (oV (i:=11) (j:=12) rfl sc_law.nd rfl rfl (Or.inl rfl) (Or.inl rfl) (oX G__law_asked (hr.mono (by decide)) rfl (za (dv 10) (za (dv 9) (za (dv 10) zd)))))
 (zb (zx (zq (x5 hr) (zg yC (dv 3) zc) zc (zo _)) (ze (zh (vS (wJ (x5 hr) (dv 11) (zI (za zt zd)) (zo _)) (tG (wJ (x5 hr) (dv 9) (dv 6) (zo _)))))) zk)
 (z5 (zx (lO (DW.dt (tx (zq (rG hr) (dv 11) (zI zd) (zo _)) (vO (zq (rG hr) (dv 12) (dv 6) (zo _)))))) (ze (zh xq)) zk)
 (zb (wI 12 zc)
 (ze (zh (wJ (x5 hr) (dv 9) (dv 6) (zo _))))))))))))))))))),?_⟩
 refine ⟨_,rfl,ns,_,rfl,by decide,fun z0=>⟨_,rfl,fun k n hn=>⟨_,_,rfl,?_⟩⟩⟩
 refine ⟨_,rfl,ns,_,rfl,by decide,fun z=>?_⟩
 refine ⟨_,rfl,_,_,rfl,rfl,kf (by decide),_,rfl,fun k2 n2 hn2=>⟨_,_,rfl,?_⟩⟩
 obtain ⟨cs,ec,lc,_⟩:=ka ns (some 2) (some 14)
 have lcs:cs.length ≤ 12:=by
  have z:=l_ (ns.map Dt.int) 2 14
  have z:(uu (ns.map Dt.int) (some 2) (some 14)).length ≤ 14 - 2:=z
  rw [ec,zG] at z
  omega
 refine ⟨_,rfl,_,rfl,_,rfl,_,rfl,_,rfl,_,rfl,?_⟩
 rw [ec]
 refine ⟨k,n,cs,rfl,hn,by omega,fun r0 hL0 hl0=>⟨rfl,?_⟩⟩
 have e1:eqD nw (.lst [])=false:=by unfold nw; rw [wv,xm]
 have e2:eqD nn (.lst [])=false:=by unfold nn; rw [wv,xm]
 have s1:eqD nw nw=true:=vb 40 rfl
 have s2:eqD nn nn=true:=vb 40 rfl
 have s0:eqD (.lst []) (.lst [])=true:=vb 40 rfl
 refine ⟨fun ρ=>∃ r d v8,ρ=[.some (.scr ns),.some (.str k.nam),.some (.int n),.some (.int z),.some (.str k2.nam),.some (.int n2),.some (zC r),.some d,v8,.none,.none,.none,.none]∧((z.fmod 3=0∧¬ Legal k n r∧r.length ≤ 200∧d=nw)∨(z.fmod 3 ≠ 0∧Legal k n r∧r.length ≤ 12∧d=if ya k2 (yW k2 (zj k n r))=true then .lst [] else nn)),?_,?_⟩
 ·refine ⟨_,rfl,_,_,rfl,rfl,sR (by decide),rfl,rfl,_,rfl,ifB (fun h=>?_) (fun h=>?_)⟩
  ·refine ⟨_,rfl,_,rfl,_,rfl,_,rfl,_,_,rfl,rfl,kf (by decide),k,n,r0,_,rfl,hn,by omega,fun r' h1 h2=>?_⟩
   exact ⟨rfl,r',_,_,rfl,.inl ⟨u4 h,h1,h2,rfl⟩⟩
  ·refine ⟨_,rfl,_,rfl,_,rfl,k,n,r0,rfl,hn,by omega,p8 hn hL0 (by omega),?_⟩
   obtain ⟨b1,hb1⟩:∃ b:Bool,b=(!(k2.nam == Str.ofString "pairs") && !(eqD (.int (zj k n r0).im) (.int 0))):=⟨_,rfl⟩
   obtain ⟨b2,hb2⟩:∃ b:Bool,b=([Str.ofString "plain",.ofString "growing",.ofString "falling"].any (fun a=>a == k2.nam) && decide ((zj k n r0).re < 0)):=⟨_,rfl⟩
   refine ⟨fun ρ=>ρ=[.some (.scr ns),.some (.str k.nam),.some (.int n),.some (.int z),.some (.str k2.nam),.some (.int n2),.some (zC r0),.some (if b1=true then nn else .lst []),.some (zj k n r0).pr,.none,.none,.none,.none],?_,?_⟩
   ·refine l8 (!(k2.nam == Str.ofString "pairs")) (!(eqD (.int (zj k n r0).im) (.int 0))) (fun R hR=>⟨_,rfl,_,_,rfl,rfl,_,rfl,hR⟩) (fun R hR=>⟨_,rfl,_,_,_,rfl,rfl,rfl,rfl,rfl,_,rfl,hR⟩) ?_
    rw [← hb1]
    cases b1 with
    | true=>exact ifT rfl ⟨rfl,rfl⟩
    | false=>exact ifF rfl rfl
   ·rintro ρ rfl
    refine l8 ([Str.ofString "plain",.ofString "growing",.ofString "falling"].any (fun a=>a == k2.nam)) (decide ((zj k n r0).re < 0)) (fun R hR=>⟨_,rfl,rfl,_,_,_,rfl,rfl,rfl,_,rfl,hR⟩) (fun R hR=>⟨_,rfl,_,_,_,rfl,rfl,rfl,_,_,rfl,rfl,_,rfl,hR⟩) ?_
    rw [← hb2]
    have hh:ya k2 (yW k2 (zj k n r0))=!(b1 || b2):=by
     rw [mj,hb1,hb2]
     cases k2 <;> rfl
    cases b2 with
    | true=>
     refine ifT rfl ⟨rfl,r0,nn,_,rfl,.inr ⟨vG h,hL0,by omega,?_⟩⟩
     rw [hh,Bool.or_true]
     rfl
    | false=>
     refine ifF rfl ⟨r0,_,_,rfl,.inr ⟨vG h,hL0,by omega,?_⟩⟩
     rw [hh,Bool.or_false]
     cases b1 <;> rfl
 rintro ρ ⟨r,d,v8,rfl,hc⟩
 have er:eqD (zC r) (zC r)=true:=vb 40 (z9 r)
 have lr:=zG r
 refine ⟨_,rfl,_,rfl,?_⟩
 refine ⟨_,rfl,_,rfl,k,n,rfl,hn,?_⟩
 refine ⟨_,rfl,_,rfl,_,rfl,_,rfl,k2,n2,rfl,hn2,?_⟩
 rcases hc with ⟨hz,hL,hl,rfl⟩ | ⟨hz,hL,hl,hd⟩
 ·refine ⟨k,n,r,k2,n2,rfl,hn,hn2,by omega,.inl ⟨hL,_,_,rfl,?_⟩⟩
  refine ⟨fun ρ=>ρ=[.some (.scr ns),.some (.str k.nam),.some (.int n),.some (.int z),.some (.str k2.nam),.some (.int n2),.some (zC r),.some nw,v8,.some (zC r),.some (zK A k n),.some nw,.some .non],?_,?_⟩
  ·refine ⟨_,rfl,_,rfl,rfl,rfl,_,rfl,ifF (nT s1) ?_⟩
   exact ⟨_,rfl,_,rfl,z9 r,z9 r,_,rfl,ifF (nT er) rfl⟩
  rintro ρ rfl
  refine ⟨fun ρ=>ρ=[.some (.scr ns),.some (.str k.nam),.some (.int n),.some (.int z),.some (.str k2.nam),.some (.int n2),.some (zC r),.some nw,v8,.some (zC r),.some (zK A k n),.some nw,.some .non],?_,?_⟩
  ·exact ⟨_,rfl,rfl,rfl,rfl,_,rfl,ifF e1 (ifF rfl rfl)⟩
  rintro ρ rfl
  refine ⟨_,rfl,_,rfl,_,rfl,k,n,r,k,n,rfl,hn,hn,by omega,.inl ⟨hL,_,_,rfl,?_⟩⟩
  refine ⟨_,rfl,_,_,rfl,rfl,sR (by decide),rfl,rfl,_,rfl,ifT (eqI hz) ?_⟩
  refine ⟨_,rfl,rfl,rfl,rfl,_,rfl,ifT s1 ?_⟩
  refine ⟨_,rfl,_,rfl,z9 r,z9 r,?_⟩
  exact er.symm ▸ q
 have hs:=sM hn hL (by omega)
 obtain ⟨w1,w2⟩:=qf hn hs r.length (by omega)
 have hm:=nR hn hL
 have hty:=yU k n r
 have w1:(zj k n r).re.natAbs ≤ 2 ^ (7 * r.length + 13):=w1
 have w2:(zj k n r).im.natAbs ≤ 2 ^ (7 * r.length + 13):=w2
 have hP:2 ^ (7 * r.length + 13) ≤ 2 ^ 200:=Nat.pow_le_pow_right (by decide) (by omega)
 have hre:(yW k2 (zj k n r)).re=(zj k n r).re∧(yW k2 (zj k n r)).im=(zj k n r).im:=by
  have e:Dt.tup [.int (yW k2 (zj k n r)).re,.int (yW k2 (zj k n r)).im]=Dt.tup [.int (zj k n r).re,.int (zj k n r).im]:=kF k2 _
  injection e with e
  injection e with e1 e2
  injection e1 with e1
  injection e2 with e2
  injection e2 with e2
  exact ⟨e1,e2⟩
 have hself:ya k (yW k (zj k n r))=true:=by rw [sw hty]; exact hm
 obtain ⟨r',hw',_⟩:=jZ (b:=200) hn hm ⟨Nat.le_trans w1 hP,Nat.le_trans w2 hP⟩ (by decide) (by decide)
 obtain rfl:r'=r:=dR hn (qe hn hm hw') hL (mf hn hm hw')
 have hw'':Wr k n (yW k (zj k n r')) r':=by rw [sw hty]; exact hw'
 have fin:∀ v11 v12:Sl,jH (iB false true 11 12 (o6 (oy A) (qS (wK 10) (qS (wK 9) (qS (wK 10) jJ)))))
   (jH (gZ (xM (dOp gEq (dOp (gIC nl fun i j=>Dt.int (i.fmod j)) (wK 3) (dC (Dt.int 3))) (dC (Dt.int 0)))) (l4 (iI (dOp gEq (wK 11) (jK (qS (dC (Dt.str (Str.ofString "NoWriting"))) jJ))) (dOp gEq (wK 9) (wK 6)))) l5)
    (iD (gZ (iH (dOr (xM (dOp gNe (wK 11) (jK jJ))) (xM (dOp gNe (wK 12) (wK 6))))) (l4 (dC (Dt.bl false))) l5) (jH (dG 12 (dC (Dt.int 1))) (l4 (dOp gEq (wK 9) (wK 6)))))) { nx:=fun _=>Q Dt.non,rt:=Q }
   [.some (.scr ns),.some (.str k.nam),.some (.int n),.some (.int z),.some (.str k2.nam),.some (.int n2),.some (zC r'),.some d,v8,.some (zC r'),.some (zK A k n),v11,v12]:=fun v11 v12=>by
  refine ⟨_,rfl,_,rfl,_,rfl,k,n,r',k,n,rfl,hn,hn,by omega,.inr (.inr ⟨hL,hself,r',hw'',_,_,rfl,?_⟩)⟩
  refine ⟨_,rfl,_,_,rfl,rfl,sR (by decide),rfl,rfl,_,rfl,ifF (neI hz) ?_⟩
  refine ⟨fun ρ=>ρ=[.some (.scr ns),.some (.str k.nam),.some (.int n),.some (.int z),.some (.str k2.nam),.some (.int n2),.some (zC r'),.some d,v8,.some (zC r'),.some (zK A k n),.some (.lst []),.own (r'.map Dt.int)],?_,?_⟩
  ·refine ⟨_,rfl,rfl,rfl,rfl,_,rfl,ifF (nT s0) ?_⟩
   exact ⟨_,rfl,_,rfl,z9 r',z9 r',_,rfl,ifF (nT er) rfl⟩
  rintro ρ rfl
  refine ⟨_,rfl,by omega,?_⟩
  refine ⟨_,rfl,_,rfl,z9 r',z9 r',?_⟩
  exact er.symm ▸ q
 cases hh:ya k2 (yW k2 (zj k n r')) with
 | false=>
  have hd:d=nn:=by rw [hd,hh]; rfl
  subst hd
  refine ⟨k,n,r',k2,n2,rfl,hn,hn2,by omega,.inr (.inl ⟨hL,hh,_,_,rfl,?_⟩)⟩
  refine ⟨fun ρ=>ρ=[.some (.scr ns),.some (.str k.nam),.some (.int n),.some (.int z),.some (.str k2.nam),.some (.int n2),.some (zC r'),.some nn,v8,.some (zC r'),.some (zK A k n),.some nn,.some .non],?_,?_⟩
  ·refine ⟨_,rfl,_,rfl,rfl,rfl,_,rfl,ifF (nT s2) ?_⟩
   exact ⟨_,rfl,_,rfl,z9 r',z9 r',_,rfl,ifF (nT er) rfl⟩
  rintro ρ rfl
  refine ⟨fun ρ=>ρ=[.some (.scr ns),.some (.str k.nam),.some (.int n),.some (.int z),.some (.str k2.nam),.some (.int n2),.some (zC r'),.some nn,v8,.some (zC r'),.some (zK A k n),.some nn,.some .non],?_,?_⟩
  ·exact ⟨_,rfl,rfl,rfl,rfl,_,rfl,ifF e2 (ifF rfl rfl)⟩
  rintro ρ rfl
  exact fin _ _
 | true=>
  have hd:d=.lst []:=by rw [hd,hh]; rfl
  subst hd
  obtain ⟨r2,hw2,hl2⟩:=jZ (b:=200) hn2 hh ⟨by rw [hre.1]; exact Nat.le_trans w1 hP,by rw [hre.2]; exact Nat.le_trans w2 hP⟩ (by decide) (by decide)
  have hL2:=qe hn2 hh hw2
  refine ⟨k,n,r',k2,n2,rfl,hn,hn2,by omega,.inr (.inr ⟨hL,hh,r2,hw2,_,_,rfl,?_⟩)⟩
  refine ⟨fun ρ=>ρ=[.some (.scr ns),.some (.str k.nam),.some (.int n),.some (.int z),.some (.str k2.nam),.some (.int n2),.some (zC r'),.some (.lst []),v8,.some (zC r'),.some (zK A k n),.some (.lst []),.own (r2.map Dt.int)],?_,?_⟩
  ·refine ⟨_,rfl,_,rfl,rfl,rfl,_,rfl,ifF (nT s0) ?_⟩
   exact ⟨_,rfl,_,rfl,z9 r',z9 r',_,rfl,ifF (nT er) rfl⟩
  rintro ρ rfl
  refine ⟨fun ρ=>ρ=[.some (.scr ns),.some (.str k.nam),.some (.int n),.some (.int z),.some (.str k2.nam),.some (.int n2),.some (zC r'),.some (.lst []),v8,.some (zC r'),.some (zK A k n),.some (.lst []),.own (r2.map Dt.int)],?_,?_⟩
  ·refine ⟨_,rfl,rfl,rfl,rfl,_,rfl,ifT s0 ?_⟩
   exact ⟨_,rfl,_,rfl,_,rfl,k2,n2,r2,rfl,hn2,hL2,by omega,_,rfl,ifF rfl rfl⟩
  rintro ρ rfl
  exact fin _ _
end
section
variable (K:PySem.W.Frag)
def FX (n q:Str) (st:Stmt) (f:Addr):Prop:=∃ oc od kV dc pm an cd ct sl,K.lookup f=some ⟨oc,od,.func (PySem.W.fnOf n q (defArgs st) (defBody st) (defScope st) .none kV dc pm an cd ct),sl⟩∧PySem.W.codeIn K cd q=true∧PySem.W.keepIn K (.ref f)=true
def FD (n:Str) (st:Stmt) (f:Addr):Prop:=PySem.W.nsIn K mainGlobals n=some (some (.ref f))∧FX K n n st f
def FM (n q:Str) (st:Stmt) (f:Addr):Prop:=PySem.W.isFn K (.ref f)=true∧FX K n q st f
def Fi (C:Addr) (n:Str) (f:Addr):Prop:=PySem.W.findIn K (.ref C) n=some (some (.ref f))
def Ki (C D:Addr) (b:Bool):Prop:=PySem.W.kitOne K (.ref C) (.ref D)=some b
def Zn (n:Str):Prop:=PySem.W.nsIn K mainGlobals n=some none
structure ClR (C:Addr) (x:Str):Prop where
 cls:Cls K C
 mks:PySem.W.makesIn K C=true
 kc:PySem.W.keepIn K (.ref C)=true
 na:PySem.W.findIn K (.ref C) x=some none
structure IR (C:Addr):Prop where
 ia:PySem.W.findIn K (.ref C) "__class__"=some (some (.builtin "object.__class__"))
 im:PySem.W.mroIn K C (.type "object")=some true
variable {K} {n q:Str} {st:Stmt} {f:Addr}
theorem FX.mk {oc od kV dc pm an cd ct sl} (l:K.lookup f=some ⟨oc,od,.func (PySem.W.fnOf n q (defArgs st) (defBody st) (defScope st) .none kV dc pm an cd ct),sl⟩) (c:PySem.W.codeIn K cd q=true) (k:PySem.W.keepIn K (.ref f)=true):FX K n q st f:=⟨_,_,_,_,_,_,_,_,_,l,c,k⟩
theorem FX.get (r:FX K n q st f) (ps:List Str) (h:∀ (kV doc pm:Value) (an:Option Addr) (cdv ct:Value) (us:List Value),us.length=ps.length→bindArgs (PySem.W.fnOf n q (defArgs st) (defBody st) (defScope st) .none kV doc pm an cdv ct) ⟨us,[]⟩=pure (ps.zip us)):∃ fd,Fun K n q st f fd∧Binds K fd ps []:=
 let ⟨_,_,_,_,_,_,_,_,_,l,c,k⟩:=r; ⟨_,p7 l c k,(p7 l c k).binds h⟩
theorem FD.get (r:FD K n st f) {h:Heap} {mg:Str→Option Value} (X:K.In h) (G:h.Ns mainGlobals mg) (ps:List Str) (h:∀ (kV doc pm:Value) (an:Option Addr) (cdv ct:Value) (us:List Value),us.length=ps.length→bindArgs (PySem.W.fnOf n n (defArgs st) (defBody st) (defScope st) .none kV doc pm an cdv ct) ⟨us,[]⟩=pure (ps.zip us)):∃ fd,mg n=some (.ref f)∧Fun K n n st f fd∧Binds K fd ps []:=
 let ⟨fd,F,b⟩:=r.2.get ps h; ⟨fd,PySem.W.mg_of X G r.1,F,b⟩
theorem FM.get (r:FM K n q st f) (ps:List Str) (h:∀ (kV doc pm:Value) (an:Option Addr) (cdv ct:Value) (us:List Value),us.length=ps.length→bindArgs (PySem.W.fnOf n q (defArgs st) (defBody st) (defScope st) .none kV doc pm an cdv ct) ⟨us,[]⟩=pure (ps.zip us)):∃ fd,Fun K n q st f fd∧Binds K fd ps []:=r.2.get ps h
end
theorem all_mk {l:PySem.W.OpenLaw} {w:World} {K:PySem.W.Frag} {h:Heap} {mg:Str→Option Value} {fa:Addr} (X:K.In h) (G:h.Ns mainGlobals mg) (hfa:mg "law"=some (.ref fa))
 {C_Plain C_Below C_Balanced C_Growing C_Falling C_Pairs C_OddError C_NoWriting C_NoNumber C_NoPairs C_NoWay C_TooLess C_NoRatio C_NoFalling C_Nought C_NoSpan C_NoTotal C_NoText C_NoRow f1 f2 f3 f4 f5 f6 f7 f8 f9 f10 f11 f12 f13 f14 f15 f16 f17 f18 f19 f20 f21 f22 f23 f24 f25 f26 f27 f28 f29 f30 f31 f32 f33 f34 f35 f36 f37 f38 f39 f40 f41 f42 f43 f44 f45 f46 f47 f48 f49 f50 f51 f52 f53 f54 f55 f56 f57 f58 f59 f60 f61:Addr}
 (aC_Plain:PySem.W.nsIn K mainGlobals "Plain"=some (some (.ref C_Plain)))
 (aC_Below:PySem.W.nsIn K mainGlobals "Below"=some (some (.ref C_Below)))
 (aC_Balanced:PySem.W.nsIn K mainGlobals "Balanced"=some (some (.ref C_Balanced)))
 (aC_Growing:PySem.W.nsIn K mainGlobals "Growing"=some (some (.ref C_Growing)))
 (aC_Falling:PySem.W.nsIn K mainGlobals "Falling"=some (some (.ref C_Falling)))
 (aC_Pairs:PySem.W.nsIn K mainGlobals "Pairs"=some (some (.ref C_Pairs)))
 (aC_OddError:PySem.W.nsIn K mainGlobals "OddError"=some (some (.ref C_OddError)))
 (aC_NoWriting:PySem.W.nsIn K mainGlobals "NoWriting"=some (some (.ref C_NoWriting)))
 (aC_NoNumber:PySem.W.nsIn K mainGlobals "NoNumber"=some (some (.ref C_NoNumber)))
 (aC_NoPairs:PySem.W.nsIn K mainGlobals "NoPairs"=some (some (.ref C_NoPairs)))
 (aC_NoWay:PySem.W.nsIn K mainGlobals "NoWay"=some (some (.ref C_NoWay)))
 (aC_TooLess:PySem.W.nsIn K mainGlobals "TooLess"=some (some (.ref C_TooLess)))
 (aC_NoRatio:PySem.W.nsIn K mainGlobals "NoRatio"=some (some (.ref C_NoRatio)))
 (aC_NoFalling:PySem.W.nsIn K mainGlobals "NoFalling"=some (some (.ref C_NoFalling)))
 (aC_Nought:PySem.W.nsIn K mainGlobals "Nought"=some (some (.ref C_Nought)))
 (aC_NoSpan:PySem.W.nsIn K mainGlobals "NoSpan"=some (some (.ref C_NoSpan)))
 (aC_NoTotal:PySem.W.nsIn K mainGlobals "NoTotal"=some (some (.ref C_NoTotal)))
 (aC_NoText:PySem.W.nsIn K mainGlobals "NoText"=some (some (.ref C_NoText)))
 (aC_NoRow:PySem.W.nsIn K mainGlobals "NoRow"=some (some (.ref C_NoRow)))
 (r1:FD K "_law_chosen" xy f1)
 (r2:FD K "_law_cell_at" xa f2)
 (r3:FD K "_law_low" vv f3)
 (r4:FD K "_law_high" wA f4)
 (r5:FD K "_law_row_by" xx f5)
 (r6:FD K "_law_spoilt" xw f6)
 (r7:FD K "_law_next" wz f7)
 (r8:FD K "_law_pair_of" y_ f8)
 (r9:FD K "is_whole" wB f9)
 (r10:FD K "bounded" vx f10)
 (a11_Plain:Fi K C_Plain "__init__" f11)
 (r11:FM K "__init__" "Plain.__init__" yM f11)
 (a12_Below:Fi K C_Below "__init__" f12)
 (r12:FM K "__init__" "Below.__init__" yO f12)
 (a13_Balanced:Fi K C_Balanced "__init__" f13)
 (r13:FM K "__init__" "Balanced.__init__" yg f13)
 (a14_Growing:Fi K C_Growing "__init__" f14)
 (r14:FM K "__init__" "Growing.__init__" yn f14)
 (a15_Falling:Fi K C_Falling "__init__" f15)
 (r15:FM K "__init__" "Falling.__init__" yp f15)
 (a16_Pairs:Fi K C_Pairs "__init__" f16)
 (r16:FM K "__init__" "Pairs.__init__" yN f16)
 (r17:FD K "_law_way" vt f17)
 (r18:FD K "has_mosts_above_noughts_alone" zB f18)
 (a19_Plain:Fi K C_Plain "low" f19)
 (a19_Below:Fi K C_Below "low" f19)
 (a19_Growing:Fi K C_Growing "low" f19)
 (a19_Falling:Fi K C_Falling "low" f19)
 (a19_Pairs:Fi K C_Pairs "low" f19)
 (r19:FM K "low" "Way.low" vz f19)
 (a20_Balanced:Fi K C_Balanced "low" f20)
 (r20:FM K "low" "Balanced.low" y1 f20)
 (a21_Plain:Fi K C_Plain "high" f21)
 (r21:FM K "high" "Plain.high" xB f21)
 (a22_Below:Fi K C_Below "high" f22)
 (r22:FM K "high" "Below.high" xD f22)
 (a23_Balanced:Fi K C_Balanced "high" f23)
 (r23:FM K "high" "Balanced.high" yE f23)
 (a24_Growing:Fi K C_Growing "high" f24)
 (r24:FM K "high" "Growing.high" yZ f24)
 (a25_Falling:Fi K C_Falling "high" f25)
 (r25:FM K "high" "Falling.high" y0 f25)
 (a26_Pairs:Fi K C_Pairs "high" f26)
 (r26:FM K "high" "Pairs.high" xC f26)
 (r27:FD K "has_figures_alone" yc f27)
 (r28:FD K "is_writing" xz f28)
 (r29:FD K "held_to_be_writings" zU f29)
 (r30:FD K "trimmed" vp f30)
 (r31:FD K "as_pair" vy f31)
 (r32:FD K "added" rm f32)
 (r33:FD K "multiplied" xv f33)
 (a34_Plain:Fi K C_Plain "nought" f34)
 (a34_Below:Fi K C_Below "nought" f34)
 (a34_Balanced:Fi K C_Balanced "nought" f34)
 (a34_Growing:Fi K C_Growing "nought" f34)
 (a34_Falling:Fi K C_Falling "nought" f34)
 (r34:FM K "nought" "Way.nought" xA f34)
 (a35_Pairs:Fi K C_Pairs "nought" f35)
 (r35:FM K "nought" "Pairs.nought" yY f35)
 (a36_Plain:Fi K C_Plain "ratio" f36)
 (r36:FM K "ratio" "Plain.ratio" xc f36)
 (a37_Below:Fi K C_Below "ratio" f37)
 (r37:FM K "ratio" "Below.ratio" xh f37)
 (a38_Balanced:Fi K C_Balanced "ratio" f38)
 (r38:FM K "ratio" "Balanced.ratio" yy f38)
 (a39_Growing:Fi K C_Growing "ratio" f39)
 (r39:FM K "ratio" "Growing.ratio" yD f39)
 (a40_Pairs:Fi K C_Pairs "ratio" f40)
 (r40:FM K "ratio" "Pairs.ratio" xg f40)
 (a41_Plain:Fi K C_Plain "weights" f41)
 (a41_Below:Fi K C_Below "weights" f41)
 (a41_Balanced:Fi K C_Balanced "weights" f41)
 (a41_Growing:Fi K C_Growing "weights" f41)
 (a41_Pairs:Fi K C_Pairs "weights" f41)
 (r41:FM K "weights" "Way.weights" xb f41)
 (a42_Falling:Fi K C_Falling "weights" f42)
 (r42:FM K "weights" "Falling.weights" yo f42)
 (r43:FD K "written_by_weights" zY f43)
 (r44:FD K "thing_at" wy f44)
 (a45_Plain:Fi K C_Plain "has" f45)
 (a45_Growing:Fi K C_Growing "has" f45)
 (a45_Falling:Fi K C_Falling "has" f45)
 (r45:FM K "has" "Way.has" vA f45)
 (a46_Below:Fi K C_Below "has" f46)
 (r46:FM K "has" "Below.has" xX f46)
 (a47_Balanced:Fi K C_Balanced "has" f47)
 (r47:FM K "has" "Balanced.has" y2 f47)
 (r48:FD K "is_pair" vw f48)
 (a49_Pairs:Fi K C_Pairs "has" f49)
 (r49:FM K "has" "Pairs.has" xW f49)
 (a50_Plain:Fi K C_Plain "split" f50)
 (a50_Below:Fi K C_Below "split" f50)
 (a50_Balanced:Fi K C_Balanced "split" f50)
 (a50_Growing:Fi K C_Growing "split" f50)
 (r50:FM K "split" "Way.split" xV f50)
 (a51_Pairs:Fi K C_Pairs "split" f51)
 (r51:FM K "split" "Pairs.split" xf f51)
 (r52:FD K "figures_and_carries" zV f52)
 (r53:FD K "settled" vq f53)
 (r54:FD K "written" vo f54)
 (r55:FD K "as_wanted" xU f55)
 (r56:FD K "worth" rj f56)
 (r57:FD K "moved" rk f57)
 (r58:FD K "_law_names" y9 f58)
 (r59:FD K "_law_asked" xT f59)
 (r60:FD K "_law_is_writing" yx f60)
 (r61:FD K "law" uU f61)
 (c_Plain:ClR K C_Plain "base")
 (c_Below:ClR K C_Below "base")
 (c_Balanced:ClR K C_Balanced "half")
 (c_Growing:ClR K C_Growing "first")
 (c_Falling:ClR K C_Falling "most")
 (c_Pairs:ClR K C_Pairs "most")
 (i_Plain:IR K C_Plain)
 (ki_Plain_Falling:Ki K C_Plain C_Falling false)
 (ki_Plain_Pairs:Ki K C_Plain C_Pairs false)
 (i_Below:IR K C_Below)
 (ki_Below_Falling:Ki K C_Below C_Falling false)
 (ki_Below_Pairs:Ki K C_Below C_Pairs false)
 (i_Balanced:IR K C_Balanced)
 (ki_Balanced_Falling:Ki K C_Balanced C_Falling false)
 (ki_Balanced_Pairs:Ki K C_Balanced C_Pairs false)
 (i_Growing:IR K C_Growing)
 (ki_Growing_Falling:Ki K C_Growing C_Falling false)
 (ki_Growing_Pairs:Ki K C_Growing C_Pairs false)
 (i_Falling:IR K C_Falling)
 (ki_Falling_Falling:Ki K C_Falling C_Falling true)
 (ki_Falling_Pairs:Ki K C_Falling C_Pairs false)
 (i_Pairs:IR K C_Pairs)
 (ki_Pairs_Falling:Ki K C_Pairs C_Falling false)
 (ki_Pairs_Pairs:Ki K C_Pairs C_Pairs true)
 (in_:PySem.W.specialIn K (.builtin "object.__class__") "__get__"=some (some (.builtin "getset_descriptor.__get__")))
 (it_:PySem.W.takesIn K (.builtin "object.__class__")=some true)
 (ex_NoWriting:ExcK K C_NoWriting)
 (ix_NoWriting:v9 K C_NoWriting)
 (em_NoWriting_OddError:PySem.W.exmOne K (.ref C_NoWriting) (.ref C_OddError)=some true)
 (kx_NoWriting_OddError:Ki K C_NoWriting C_OddError true)
 (kx_NoWriting_NoWriting:Ki K C_NoWriting C_NoWriting true)
 (kx_NoWriting_NoNumber:Ki K C_NoWriting C_NoNumber false)
 (kx_NoWriting_NoPairs:Ki K C_NoWriting C_NoPairs false)
 (kx_NoWriting_NoWay:Ki K C_NoWriting C_NoWay false)
 (kx_NoWriting_TooLess:Ki K C_NoWriting C_TooLess false)
 (kx_NoWriting_NoRatio:Ki K C_NoWriting C_NoRatio false)
 (kx_NoWriting_NoFalling:Ki K C_NoWriting C_NoFalling false)
 (kx_NoWriting_Nought:Ki K C_NoWriting C_Nought false)
 (kx_NoWriting_NoSpan:Ki K C_NoWriting C_NoSpan false)
 (kx_NoWriting_NoTotal:Ki K C_NoWriting C_NoTotal false)
 (kx_NoWriting_NoText:Ki K C_NoWriting C_NoText false)
 (kx_NoWriting_NoRow:Ki K C_NoWriting C_NoRow false)
 (kx_NoWriting_ValueError:PySem.W.kitOne K (.ref C_NoWriting) (.type "ValueError")=some true)
 (ex_NoNumber:ExcK K C_NoNumber)
 (ix_NoNumber:v9 K C_NoNumber)
 (em_NoNumber_OddError:PySem.W.exmOne K (.ref C_NoNumber) (.ref C_OddError)=some true)
 (kx_NoNumber_OddError:Ki K C_NoNumber C_OddError true)
 (kx_NoNumber_NoWriting:Ki K C_NoNumber C_NoWriting false)
 (kx_NoNumber_NoNumber:Ki K C_NoNumber C_NoNumber true)
 (kx_NoNumber_NoPairs:Ki K C_NoNumber C_NoPairs false)
 (kx_NoNumber_NoWay:Ki K C_NoNumber C_NoWay false)
 (kx_NoNumber_TooLess:Ki K C_NoNumber C_TooLess false)
 (kx_NoNumber_NoRatio:Ki K C_NoNumber C_NoRatio false)
 (kx_NoNumber_NoFalling:Ki K C_NoNumber C_NoFalling false)
 (kx_NoNumber_Nought:Ki K C_NoNumber C_Nought false)
 (kx_NoNumber_NoSpan:Ki K C_NoNumber C_NoSpan false)
 (kx_NoNumber_NoTotal:Ki K C_NoNumber C_NoTotal false)
 (kx_NoNumber_NoText:Ki K C_NoNumber C_NoText false)
 (kx_NoNumber_NoRow:Ki K C_NoNumber C_NoRow false)
 (kx_NoNumber_ValueError:PySem.W.kitOne K (.ref C_NoNumber) (.type "ValueError")=some true)
 (z_isinstance:Zn K "isinstance")
 (z_int:Zn K "int")
 (z_bool:Zn K "bool")
 (z_tuple:Zn K "tuple")
 (z_list:Zn K "list")
 (z_len:Zn K "len")
 (z_range:Zn K "range")
 (z_zip:Zn K "zip")
 (z_enumerate:Zn K "enumerate")
 (z_reversed:Zn K "reversed")
 (z_ValueError:Zn K "ValueError"):
 ∃ fd:FuncData,(∀ (s:Shared) (v:Value),BindsTo s fd ⟨[v],[]⟩ [("_law_script",v)])∧∀ base:Heap,K.In base→base.Ns mainGlobals mg→FnOk l.prog w K mg base CX0 10 fa fd ["_law_script"] (zp K (nj)):=by
 let A:Adr:=⟨C_Plain,C_Below,C_Balanced,C_Growing,C_Falling,C_Pairs,C_OddError,C_NoWriting,C_NoNumber,C_NoPairs,C_NoWay,C_TooLess,C_NoRatio,C_NoFalling,C_Nought,C_NoSpan,C_NoTotal,C_NoText,C_NoRow⟩
 have T:Txt K mg A:=⟨cm K,PySem.W.mg_none_of X G z_isinstance,PySem.W.mg_none_of X G z_int,PySem.W.mg_none_of X G z_bool,PySem.W.mg_none_of X G z_tuple,PySem.W.mg_none_of X G z_list,PySem.W.mg_none_of X G z_len,PySem.W.mg_none_of X G z_range,PySem.W.mg_none_of X G z_zip,PySem.W.mg_none_of X G z_enumerate,PySem.W.mg_none_of X G z_reversed,PySem.W.mg_none_of X G z_ValueError,c_Plain.cls,c_Plain.na,c_Below.cls,c_Below.na,c_Balanced.cls,c_Balanced.na,c_Growing.cls,c_Growing.na,c_Falling.cls,c_Falling.na,c_Pairs.cls,c_Pairs.na,PySem.W.mg_of X G aC_Falling,PySem.W.mg_of X G aC_Pairs,⟨c_Plain.cls,i_Plain.1,in_,it_,i_Plain.2⟩,ki_Plain_Falling,ki_Plain_Pairs,⟨c_Below.cls,i_Below.1,in_,it_,i_Below.2⟩,ki_Below_Falling,ki_Below_Pairs,⟨c_Balanced.cls,i_Balanced.1,in_,it_,i_Balanced.2⟩,ki_Balanced_Falling,ki_Balanced_Pairs,⟨c_Growing.cls,i_Growing.1,in_,it_,i_Growing.2⟩,ki_Growing_Falling,ki_Growing_Pairs,⟨c_Falling.cls,i_Falling.1,in_,it_,i_Falling.2⟩,ki_Falling_Falling,ki_Falling_Pairs,⟨c_Pairs.cls,i_Pairs.1,in_,it_,i_Pairs.2⟩,ki_Pairs_Falling,ki_Pairs_Pairs,PySem.W.mg_of X G aC_OddError,PySem.W.mg_of X G aC_NoWriting,PySem.W.mg_of X G aC_NoNumber,PySem.W.mg_of X G aC_NoPairs,PySem.W.mg_of X G aC_NoWay,PySem.W.mg_of X G aC_TooLess,PySem.W.mg_of X G aC_NoRatio,PySem.W.mg_of X G aC_NoFalling,PySem.W.mg_of X G aC_Nought,PySem.W.mg_of X G aC_NoSpan,PySem.W.mg_of X G aC_NoTotal,PySem.W.mg_of X G aC_NoText,PySem.W.mg_of X G aC_NoRow,ex_NoWriting,ix_NoWriting,em_NoWriting_OddError,kx_NoWriting_OddError,kx_NoWriting_NoWriting,kx_NoWriting_NoNumber,kx_NoWriting_NoPairs,kx_NoWriting_NoWay,kx_NoWriting_TooLess,kx_NoWriting_NoRatio,kx_NoWriting_NoFalling,kx_NoWriting_Nought,kx_NoWriting_NoSpan,kx_NoWriting_NoTotal,kx_NoWriting_NoText,kx_NoWriting_NoRow,kx_NoWriting_ValueError,ex_NoNumber,ix_NoNumber,em_NoNumber_OddError,kx_NoNumber_OddError,kx_NoNumber_NoWriting,kx_NoNumber_NoNumber,kx_NoNumber_NoPairs,kx_NoNumber_NoWay,kx_NoNumber_TooLess,kx_NoNumber_NoRatio,kx_NoNumber_NoFalling,kx_NoNumber_Nought,kx_NoNumber_NoSpan,kx_NoNumber_NoTotal,kx_NoNumber_NoText,kx_NoNumber_NoRow,kx_NoNumber_ValueError⟩
 obtain ⟨_,m1,F1,b1⟩:=r1.get X G ["_law_cell"] fun _ _ _ _ _ _ us hl=>match us,hl with | [_],_=>rfl
 obtain ⟨_,m2,F2,b2⟩:=r2.get X G ["_law_script","_law_k"] fun _ _ _ _ _ _ us hl=>match us,hl with | [_,_],_=>rfl
 obtain ⟨_,m3,F3,b3⟩:=r3.get X G ["_law_name","_law_number"] fun _ _ _ _ _ _ us hl=>match us,hl with | [_,_],_=>rfl
 obtain ⟨_,m4,F4,b4⟩:=r4.get X G ["_law_name","_law_number","_law_place"] fun _ _ _ _ _ _ us hl=>match us,hl with | [_,_,_],_=>rfl
 obtain ⟨_,m5,F5,b5⟩:=r5.get X G ["_law_name","_law_number","_law_cells"] fun _ _ _ _ _ _ us hl=>match us,hl with | [_,_,_],_=>rfl
 obtain ⟨_,m6,F6,b6⟩:=r6.get X G ["_law_name","_law_number","_law_row","_law_cell"] fun _ _ _ _ _ _ us hl=>match us,hl with | [_,_,_,_],_=>rfl
 obtain ⟨_,m7,F7,b7⟩:=r7.get X G ["_law_name","_law_number","_law_place","_law_here","_law_lower"] fun _ _ _ _ _ _ us hl=>match us,hl with | [_,_,_,_,_],_=>rfl
 obtain ⟨_,m8,F8,b8⟩:=r8.get X G ["_law_name","_law_number","_law_row"] fun _ _ _ _ _ _ us hl=>match us,hl with | [_,_,_],_=>rfl
 obtain ⟨_,m9,F9,b9⟩:=r9.get X G ["value"] fun _ _ _ _ _ _ us hl=>match us,hl with | [_],_=>rfl
 obtain ⟨_,m10,F10,b10⟩:=r10.get X G ["number","least","most"] fun _ _ _ _ _ _ us hl=>match us,hl with | [_,_,_],_=>rfl
 obtain ⟨_,F11,b11⟩:=r11.get ["self","base"] fun _ _ _ _ _ _ us hl=>match us,hl with | [_,_],_=>rfl
 obtain ⟨_,F12,b12⟩:=r12.get ["self","base"] fun _ _ _ _ _ _ us hl=>match us,hl with | [_,_],_=>rfl
 obtain ⟨_,F13,b13⟩:=r13.get ["self","half"] fun _ _ _ _ _ _ us hl=>match us,hl with | [_,_],_=>rfl
 obtain ⟨_,F14,b14⟩:=r14.get ["self","first"] fun _ _ _ _ _ _ us hl=>match us,hl with | [_,_],_=>rfl
 obtain ⟨_,F15,b15⟩:=r15.get ["self","most"] fun _ _ _ _ _ _ us hl=>match us,hl with | [_,_],_=>rfl
 obtain ⟨_,F16,b16⟩:=r16.get ["self","most"] fun _ _ _ _ _ _ us hl=>match us,hl with | [_,_],_=>rfl
 obtain ⟨_,m17,F17,b17⟩:=r17.get X G ["_law_name","_law_number"] fun _ _ _ _ _ _ us hl=>match us,hl with | [_,_],_=>rfl
 obtain ⟨_,m18,F18,b18⟩:=r18.get X G ["way","row"] fun _ _ _ _ _ _ us hl=>match us,hl with | [_,_],_=>rfl
 obtain ⟨_,F19,b19⟩:=r19.get ["self","place"] fun _ _ _ _ _ _ us hl=>match us,hl with | [_,_],_=>rfl
 obtain ⟨_,F20,b20⟩:=r20.get ["self","place"] fun _ _ _ _ _ _ us hl=>match us,hl with | [_,_],_=>rfl
 obtain ⟨_,F21,b21⟩:=r21.get ["self","place"] fun _ _ _ _ _ _ us hl=>match us,hl with | [_,_],_=>rfl
 obtain ⟨_,F22,b22⟩:=r22.get ["self","place"] fun _ _ _ _ _ _ us hl=>match us,hl with | [_,_],_=>rfl
 obtain ⟨_,F23,b23⟩:=r23.get ["self","place"] fun _ _ _ _ _ _ us hl=>match us,hl with | [_,_],_=>rfl
 obtain ⟨_,F24,b24⟩:=r24.get ["self","place"] fun _ _ _ _ _ _ us hl=>match us,hl with | [_,_],_=>rfl
 obtain ⟨_,F25,b25⟩:=r25.get ["self","place"] fun _ _ _ _ _ _ us hl=>match us,hl with | [_,_],_=>rfl
 obtain ⟨_,F26,b26⟩:=r26.get ["self","place"] fun _ _ _ _ _ _ us hl=>match us,hl with | [_,_],_=>rfl
 obtain ⟨_,m27,F27,b27⟩:=r27.get X G ["way","row"] fun _ _ _ _ _ _ us hl=>match us,hl with | [_,_],_=>rfl
 obtain ⟨_,m28,F28,b28⟩:=r28.get X G ["way","row"] fun _ _ _ _ _ _ us hl=>match us,hl with | [_,_],_=>rfl
 obtain ⟨_,m29,F29,b29⟩:=r29.get X G ["way","rows"] fun _ _ _ _ _ _ us hl=>match us,hl with | [_,_],_=>rfl
 obtain ⟨_,m30,F30,b30⟩:=r30.get X G ["row"] fun _ _ _ _ _ _ us hl=>match us,hl with | [_],_=>rfl
 obtain ⟨_,m31,F31,b31⟩:=r31.get X G ["number"] fun _ _ _ _ _ _ us hl=>match us,hl with | [_],_=>rfl
 obtain ⟨_,m32,F32,b32⟩:=r32.get X G ["one","other"] fun _ _ _ _ _ _ us hl=>match us,hl with | [_,_],_=>rfl
 obtain ⟨_,m33,F33,b33⟩:=r33.get X G ["one","other"] fun _ _ _ _ _ _ us hl=>match us,hl with | [_,_],_=>rfl
 obtain ⟨_,F34,b34⟩:=r34.get ["self"] fun _ _ _ _ _ _ us hl=>match us,hl with | [_],_=>rfl
 obtain ⟨_,F35,b35⟩:=r35.get ["self"] fun _ _ _ _ _ _ us hl=>match us,hl with | [_],_=>rfl
 obtain ⟨_,F36,b36⟩:=r36.get ["self","place"] fun _ _ _ _ _ _ us hl=>match us,hl with | [_,_],_=>rfl
 obtain ⟨_,F37,b37⟩:=r37.get ["self","place"] fun _ _ _ _ _ _ us hl=>match us,hl with | [_,_],_=>rfl
 obtain ⟨_,F38,b38⟩:=r38.get ["self","place"] fun _ _ _ _ _ _ us hl=>match us,hl with | [_,_],_=>rfl
 obtain ⟨_,F39,b39⟩:=r39.get ["self","place"] fun _ _ _ _ _ _ us hl=>match us,hl with | [_,_],_=>rfl
 obtain ⟨_,F40,b40⟩:=r40.get ["self","place"] fun _ _ _ _ _ _ us hl=>match us,hl with | [_,_],_=>rfl
 obtain ⟨_,F41,b41⟩:=r41.get ["self","many"] fun _ _ _ _ _ _ us hl=>match us,hl with | [_,_],_=>rfl
 obtain ⟨_,F42,b42⟩:=r42.get ["self","many"] fun _ _ _ _ _ _ us hl=>match us,hl with | [_,_],_=>rfl
 obtain ⟨_,m43,F43,b43⟩:=r43.get X G ["way","number"] fun _ _ _ _ _ _ us hl=>match us,hl with | [_,_],_=>rfl
 obtain ⟨_,m44,F44,b44⟩:=r44.get X G ["row","place"] fun _ _ _ _ _ _ us hl=>match us,hl with | [_,_],_=>rfl
 obtain ⟨_,F45,b45⟩:=r45.get ["self","number"] fun _ _ _ _ _ _ us hl=>match us,hl with | [_,_],_=>rfl
 obtain ⟨_,F46,b46⟩:=r46.get ["self","number"] fun _ _ _ _ _ _ us hl=>match us,hl with | [_,_],_=>rfl
 obtain ⟨_,F47,b47⟩:=r47.get ["self","number"] fun _ _ _ _ _ _ us hl=>match us,hl with | [_,_],_=>rfl
 obtain ⟨_,m48,F48,b48⟩:=r48.get X G ["value"] fun _ _ _ _ _ _ us hl=>match us,hl with | [_],_=>rfl
 obtain ⟨_,F49,b49⟩:=r49.get ["self","number"] fun _ _ _ _ _ _ us hl=>match us,hl with | [_,_],_=>rfl
 obtain ⟨_,F50,b50⟩:=r50.get ["self","total","place"] fun _ _ _ _ _ _ us hl=>match us,hl with | [_,_,_],_=>rfl
 obtain ⟨_,F51,b51⟩:=r51.get ["self","total","place"] fun _ _ _ _ _ _ us hl=>match us,hl with | [_,_,_],_=>rfl
 obtain ⟨_,m52,F52,b52⟩:=r52.get X G ["way","totals"] fun _ _ _ _ _ _ us hl=>match us,hl with | [_,_],_=>rfl
 obtain ⟨_,m53,F53,b53⟩:=r53.get X G ["way","totals"] fun _ _ _ _ _ _ us hl=>match us,hl with | [_,_],_=>rfl
 obtain ⟨_,m54,F54,b54⟩:=r54.get X G ["way","number"] fun _ _ _ _ _ _ us hl=>match us,hl with | [_,_],_=>rfl
 obtain ⟨_,m55,F55,b55⟩:=r55.get X G ["way","number"] fun _ _ _ _ _ _ us hl=>match us,hl with | [_,_],_=>rfl
 obtain ⟨_,m56,F56,b56⟩:=r56.get X G ["way","row"] fun _ _ _ _ _ _ us hl=>match us,hl with | [_,_],_=>rfl
 obtain ⟨_,m57,F57,b57⟩:=r57.get X G ["way","row","other"] fun _ _ _ _ _ _ us hl=>match us,hl with | [_,_,_],_=>rfl
 obtain ⟨_,m58,F58,b58⟩:=r58.get X G ["_law_e"] fun _ _ _ _ _ _ us hl=>match us,hl with | [_],_=>rfl
 obtain ⟨_,m59,F59,b59⟩:=r59.get X G ["_law_way_here","_law_row","_law_other"] fun _ _ _ _ _ _ us hl=>match us,hl with | [_,_,_],_=>rfl
 obtain ⟨_,m60,F60,b60⟩:=r60.get X G ["_law_name","_law_number","_law_row"] fun _ _ _ _ _ _ us hl=>match us,hl with | [_,_,_],_=>rfl
 obtain ⟨a61,_,_,kV,dc,pm,an,cd,ct,_,l61,c61,k61⟩:=r61
 cases hfa.symm.trans (PySem.W.mg_of X G a61)
 have F61:=p7 (st:=uU) l61 c61 k61
 refine ⟨PySem.W.fnOf "law" "law" (defArgs uU) (defBody uU) (defScope uU) .none kV dc pm an cd ct,fun s v=>.of_eq rfl,fun base _ _=>?_⟩
 have G__law_chosen:=DOk.mk' F1 m1 b1 (t_ (P:=l.prog) (w:=w) (base:=base) T F1)
 have G__law_cell_at:=DOk.mk' F2 m2 b2 (uX (P:=l.prog) (w:=w) (base:=base) T F2)
 have G__law_low:=DOk.mk' F3 m3 b3 (pR (P:=l.prog) (w:=w) (base:=base) T F3)
 have G__law_high:=DOk.mk' F4 m4 b4 (qC (P:=l.prog) (w:=w) (base:=base) T F4)
 have G__law_row_by:=DOk.mk' F5 m5 b5 (tZ T G__law_low G__law_high F5)
 have G__law_spoilt:=DOk.mk' F6 m6 b6 (tY T G__law_high G__law_low F6)
 have G__law_next:=DOk.mk' F7 m7 b7 (qB (P:=l.prog) (w:=w) (base:=base) T F7)
 have G__law_pair_of:=DOk.mk' F8 m8 b8 (uW T G__law_next F8)
 have G_is_whole:=DOk.mk' F9 m9 b9 (qD (P:=l.prog) (w:=w) (base:=base) T F9)
 have G_bounded:=DOk.mk' F10 m10 b10 (pT T G_is_whole F10)
 have M_Plain:KOk l.prog w K mg base 3 "Plain" A.Plain "base" (Kd.ok .plain):=⟨_,_,_,PySem.W.mg_of X G aC_Plain,⟨c_Plain.mks,a11_Plain,r11.1,c_Plain.kc⟩,b11,se T G_bounded F11⟩
 have M_Below:KOk l.prog w K mg base 3 "Below" A.Below "base" (Kd.ok .below):=⟨_,_,_,PySem.W.mg_of X G aC_Below,⟨c_Below.mks,a12_Below,r12.1,c_Below.kc⟩,b12,sk T G_bounded F12⟩
 have M_Balanced:KOk l.prog w K mg base 3 "Balanced" A.Balanced "half" (Kd.ok .balanced):=⟨_,_,_,PySem.W.mg_of X G aC_Balanced,⟨c_Balanced.mks,a13_Balanced,r13.1,c_Balanced.kc⟩,b13,vE T G_bounded F13⟩
 have M_Growing:KOk l.prog w K mg base 3 "Growing" A.Growing "first" (Kd.ok .growing):=⟨_,_,_,PySem.W.mg_of X G aC_Growing,⟨c_Growing.mks,a14_Growing,r14.1,c_Growing.kc⟩,b14,uj T G_bounded F14⟩
 have M_Falling:KOk l.prog w K mg base 3 "Falling" A.Falling "most" (Kd.ok .falling):=⟨_,_,_,PySem.W.mg_of X G aC_Falling,⟨c_Falling.mks,a15_Falling,r15.1,c_Falling.kc⟩,b15,ul T G_bounded F15⟩
 have M_Pairs:KOk l.prog w K mg base 3 "Pairs" A.Pairs "most" (Kd.ok .pairs):=⟨_,_,_,PySem.W.mg_of X G aC_Pairs,⟨c_Pairs.mks,a16_Pairs,r16.1,c_Pairs.kc⟩,b16,si T G_bounded F16⟩
 have G__law_way:=DOk.mk' F17 m17 b17 (pQ T M_Plain M_Below M_Balanced M_Growing M_Falling M_Pairs F17)
 have G_has_mosts_above_noughts_alone:=DOk.mk' F18 m18 b18 (yr (P:=l.prog) (w:=w) (base:=base) T F18)
 have N_Plain_low:=MOk.mk (C:=A.Plain) T.cl_Plain ⟨_,_,_,⟨a19_Plain,r19.1,F19.kp⟩,b19,y4 (P:=l.prog) (w:=w) (base:=base) T F19⟩
 have N_Below_low:=MOk.mk (C:=A.Below) T.cl_Below ⟨_,_,_,⟨a19_Below,r19.1,F19.kp⟩,b19,y4 (P:=l.prog) (w:=w) (base:=base) T F19⟩
 have N_Growing_low:=MOk.mk (C:=A.Growing) T.cl_Growing ⟨_,_,_,⟨a19_Growing,r19.1,F19.kp⟩,b19,y4 (P:=l.prog) (w:=w) (base:=base) T F19⟩
 have N_Falling_low:=MOk.mk (C:=A.Falling) T.cl_Falling ⟨_,_,_,⟨a19_Falling,r19.1,F19.kp⟩,b19,y4 (P:=l.prog) (w:=w) (base:=base) T F19⟩
 have N_Pairs_low:=MOk.mk (C:=A.Pairs) T.cl_Pairs ⟨_,_,_,⟨a19_Pairs,r19.1,F19.kp⟩,b19,y4 (P:=l.prog) (w:=w) (base:=base) T F19⟩
 have N_Balanced_low:=MOk.mk (C:=A.Balanced) T.cl_Balanced ⟨_,_,_,⟨a20_Balanced,r20.1,F20.kp⟩,b20,uo (P:=l.prog) (w:=w) (base:=base) T F20⟩
 have N_Plain_high:=MOk.mk (C:=A.Plain) T.cl_Plain ⟨_,_,_,⟨a21_Plain,r21.1,F21.kp⟩,b21,sf (P:=l.prog) (w:=w) (base:=base) T F21⟩
 have N_Below_high:=MOk.mk (C:=A.Below) T.cl_Below ⟨_,_,_,⟨a22_Below,r22.1,F22.kp⟩,b22,sr (P:=l.prog) (w:=w) (base:=base) T F22⟩
 have N_Balanced_high:=MOk.mk (C:=A.Balanced) T.cl_Balanced ⟨_,_,_,⟨a23_Balanced,r23.1,F23.kp⟩,b23,vF (P:=l.prog) (w:=w) (base:=base) T F23⟩
 have N_Growing_high:=MOk.mk (C:=A.Growing) T.cl_Growing ⟨_,_,_,⟨a24_Growing,r24.1,F24.kp⟩,b24,uk (P:=l.prog) (w:=w) (base:=base) T F24⟩
 have N_Falling_high:=MOk.mk (C:=A.Falling) T.cl_Falling ⟨_,_,_,⟨a25_Falling,r25.1,F25.kp⟩,b25,um (P:=l.prog) (w:=w) (base:=base) T F25⟩
 have N_Pairs_high:=MOk.mk (C:=A.Pairs) T.cl_Pairs ⟨_,_,_,⟨a26_Pairs,r26.1,F26.kp⟩,b26,sj (P:=l.prog) (w:=w) (base:=base) T F26⟩
 have HLo:∀ k:Kd,MOk l.prog w K mg base 1 (A.at k) "low" (xr A k (k.low))∧MOk l.prog w K mg base 1 (A.at k) "high" (xr A k (k.high)):=fun k=>match k with
  | .plain=>⟨N_Plain_low.imp fun ds Q ⟨n,p,e,_,q⟩=>⟨_,_,e,q⟩,N_Plain_high⟩
  | .below=>⟨N_Below_low.imp fun ds Q ⟨n,p,e,_,q⟩=>⟨_,_,e,q⟩,N_Below_high⟩
  | .balanced=>⟨N_Balanced_low,N_Balanced_high⟩
  | .growing=>⟨N_Growing_low.imp fun ds Q ⟨n,p,e,_,q⟩=>⟨_,_,e,q⟩,N_Growing_high⟩
  | .falling=>⟨N_Falling_low.imp fun ds Q ⟨n,p,e,_,q⟩=>⟨_,_,e,q⟩,N_Falling_high⟩
  | .pairs=>⟨N_Pairs_low.imp fun ds Q ⟨n,p,e,_,q⟩=>⟨_,_,e,q⟩,N_Pairs_high⟩
 have G_has_figures_alone:=DOk.mk' F27 m27 b27 (xZ (P:=l.prog) (w:=w) (base:=base) T HLo F27)
 have G_is_writing:=DOk.mk' F28 m28 b28 (sd T G_has_mosts_above_noughts_alone G_has_figures_alone F28)
 have G_held_to_be_writings:=DOkX.mk' F29 m29 b29 (xF T G_is_writing F29)
 have G_trimmed:=FOk.mk' F30 m30 b30 (pO (P:=l.prog) (w:=w) (base:=base) T F30)
 have G_as_pair:=DOk.mk' F31 m31 b31 (pU T G_is_whole F31)
 have G_added:=DOk.mk' F32 m32 b32 (lf T G_is_whole G_as_pair F32)
 have G_multiplied:=DOk.mk' F33 m33 b33 (tX T G_is_whole G_as_pair F33)
 have N_Plain_nought:=MOk.mk (C:=A.Plain) T.cl_Plain ⟨_,_,_,⟨a34_Plain,r34.1,F34.kp⟩,b34,yf (P:=l.prog) (w:=w) (base:=base) T F34⟩
 have N_Below_nought:=MOk.mk (C:=A.Below) T.cl_Below ⟨_,_,_,⟨a34_Below,r34.1,F34.kp⟩,b34,yf (P:=l.prog) (w:=w) (base:=base) T F34⟩
 have N_Balanced_nought:=MOk.mk (C:=A.Balanced) T.cl_Balanced ⟨_,_,_,⟨a34_Balanced,r34.1,F34.kp⟩,b34,yf (P:=l.prog) (w:=w) (base:=base) T F34⟩
 have N_Growing_nought:=MOk.mk (C:=A.Growing) T.cl_Growing ⟨_,_,_,⟨a34_Growing,r34.1,F34.kp⟩,b34,yf (P:=l.prog) (w:=w) (base:=base) T F34⟩
 have N_Falling_nought:=MOk.mk (C:=A.Falling) T.cl_Falling ⟨_,_,_,⟨a34_Falling,r34.1,F34.kp⟩,b34,yf (P:=l.prog) (w:=w) (base:=base) T F34⟩
 have N_Pairs_nought:=MOk.mk (C:=A.Pairs) T.cl_Pairs ⟨_,_,_,⟨a35_Pairs,r35.1,F35.kp⟩,b35,ui (P:=l.prog) (w:=w) (base:=base) T F35⟩
 have HNo:∀ k:Kd,MOk l.prog w K mg base 1 (A.at k) "nought" (jU k):=fun k=>match k with
  | .plain=>N_Plain_nought | .below=>N_Below_nought | .balanced=>N_Balanced_nought | .growing=>N_Growing_nought | .falling=>N_Falling_nought | .pairs=>N_Pairs_nought
 have N_Plain_ratio:=MOk.mk (C:=A.Plain) T.cl_Plain ⟨_,_,_,⟨a36_Plain,r36.1,F36.kp⟩,b36,uY (P:=l.prog) (w:=w) (base:=base) T F36⟩
 have N_Below_ratio:=MOk.mk (C:=A.Below) T.cl_Below ⟨_,_,_,⟨a37_Below,r37.1,F37.kp⟩,b37,u3 (P:=l.prog) (w:=w) (base:=base) T F37⟩
 have N_Balanced_ratio:=MOk.mk (C:=A.Balanced) T.cl_Balanced ⟨_,_,_,⟨a38_Balanced,r38.1,F38.kp⟩,b38,wX (P:=l.prog) (w:=w) (base:=base) T F38⟩
 have N_Growing_ratio:=MOk.mk (C:=A.Growing) T.cl_Growing ⟨_,_,_,⟨a39_Growing,r39.1,F39.kp⟩,b39,vC (P:=l.prog) (w:=w) (base:=base) T F39⟩
 have N_Pairs_ratio:=MOk.mk (C:=A.Pairs) T.cl_Pairs ⟨_,_,_,⟨a40_Pairs,r40.1,F40.kp⟩,b40,u0 (P:=l.prog) (w:=w) (base:=base) T F40⟩
 have HR:∀ k:Kd,k.five=true→MOk l.prog w K mg base 1 (A.at k) "ratio" (wl A k (k.ratN)):=fun k hk=>match k,hk with
  | .plain,_=>N_Plain_ratio
  | .below,_=>N_Below_ratio
  | .balanced,_=>N_Balanced_ratio
  | .growing,_=>N_Growing_ratio
  | .pairs,_=>N_Pairs_ratio
 have N_Plain_weights:=FMOk.mk (C:=A.Plain) T.cl_Plain ⟨_,_,_,⟨a41_Plain,r41.1,F41.kp⟩,b41,zZ T G_added G_multiplied HNo HR F41⟩
 have N_Below_weights:=FMOk.mk (C:=A.Below) T.cl_Below ⟨_,_,_,⟨a41_Below,r41.1,F41.kp⟩,b41,zZ T G_added G_multiplied HNo HR F41⟩
 have N_Balanced_weights:=FMOk.mk (C:=A.Balanced) T.cl_Balanced ⟨_,_,_,⟨a41_Balanced,r41.1,F41.kp⟩,b41,zZ T G_added G_multiplied HNo HR F41⟩
 have N_Growing_weights:=FMOk.mk (C:=A.Growing) T.cl_Growing ⟨_,_,_,⟨a41_Growing,r41.1,F41.kp⟩,b41,zZ T G_added G_multiplied HNo HR F41⟩
 have N_Pairs_weights:=FMOk.mk (C:=A.Pairs) T.cl_Pairs ⟨_,_,_,⟨a41_Pairs,r41.1,F41.kp⟩,b41,zZ T G_added G_multiplied HNo HR F41⟩
 have N_Falling_weights:=FMOk.mk (C:=A.Falling) T.cl_Falling ⟨_,_,_,⟨a42_Falling,r42.1,F42.kp⟩,b42,wG (P:=l.prog) (w:=w) (base:=base) T F42⟩
 have HW:∀ k:Kd,FMOk l.prog w K mg base 4 (A.at k) "weights" (kr A k):=fun k=>match k with
  | .plain=>(N_Plain_weights.imp fun ds Q ⟨n,m,e,a,b,c,q⟩=>⟨.plain,n,m,e,rfl,a,b,c,q⟩).mono (by decide)
  | .below=>(N_Below_weights.imp fun ds Q ⟨n,m,e,a,b,c,q⟩=>⟨.below,n,m,e,rfl,a,b,c,q⟩).mono (by decide)
  | .balanced=>(N_Balanced_weights.imp fun ds Q ⟨n,m,e,a,b,c,q⟩=>⟨.balanced,n,m,e,rfl,a,b,c,q⟩).mono (by decide)
  | .growing=>(N_Growing_weights.imp fun ds Q ⟨n,m,e,a,b,c,q⟩=>⟨.growing,n,m,e,rfl,a,b,c,q⟩).mono (by decide)
  | .falling=>N_Falling_weights.mono (by decide)
  | .pairs=>(N_Pairs_weights.imp fun ds Q ⟨n,m,e,a,b,c,q⟩=>⟨.pairs,n,m,e,rfl,a,b,c,q⟩).mono (by decide)
 have G_written_by_weights:=FOk.mk' F43 m43 b43 (xO T G_trimmed HW F43)
 have G_thing_at:=DOk.mk' F44 m44 b44 (qA (P:=l.prog) (w:=w) (base:=base) T F44)
 have N_Plain_has:=MOk.mk (C:=A.Plain) T.cl_Plain ⟨_,_,_,⟨a45_Plain,r45.1,F45.kp⟩,b45,wE T G_is_whole F45⟩
 have N_Growing_has:=MOk.mk (C:=A.Growing) T.cl_Growing ⟨_,_,_,⟨a45_Growing,r45.1,F45.kp⟩,b45,wE T G_is_whole F45⟩
 have N_Falling_has:=MOk.mk (C:=A.Falling) T.cl_Falling ⟨_,_,_,⟨a45_Falling,r45.1,F45.kp⟩,b45,wE T G_is_whole F45⟩
 have N_Below_has:=MOk.mk (C:=A.Below) T.cl_Below ⟨_,_,_,⟨a46_Below,r46.1,F46.kp⟩,b46,rE T G_is_whole F46⟩
 have N_Balanced_has:=MOk.mk (C:=A.Balanced) T.cl_Balanced ⟨_,_,_,⟨a47_Balanced,r47.1,F47.kp⟩,b47,uq T G_is_whole F47⟩
 have G_is_pair:=DOk.mk' F48 m48 b48 (pS T G_is_whole F48)
 have N_Pairs_has:=MOk.mk (C:=A.Pairs) T.cl_Pairs ⟨_,_,_,⟨a49_Pairs,r49.1,F49.kp⟩,b49,rD T G_is_pair F49⟩
 have HHas:∀ k:Kd,MOk l.prog w K mg base 3 (A.at k) "has" (wP k):=fun k=>match k with
  | .plain=>N_Plain_has.mono (by decide)
  | .below=>N_Below_has.mono (by decide)
  | .balanced=>N_Balanced_has.mono (by decide)
  | .growing=>(N_Growing_has.imp fun ds Q ⟨o,d,m,e,a,q⟩=>⟨o,d,m,e,a,by cases m <;> exact q⟩).mono (by decide)
  | .falling=>(N_Falling_has.imp fun ds Q ⟨o,d,m,e,a,q⟩=>⟨o,d,m,e,a,by cases m <;> exact q⟩).mono (by decide)
  | .pairs=>N_Pairs_has.mono (by decide)
 have N_Plain_split:=MOk.mk (C:=A.Plain) T.cl_Plain ⟨_,_,_,⟨a50_Plain,r50.1,F50.kp⟩,b50,yP (P:=l.prog) (w:=w) (base:=base) T HLo HR F50⟩
 have N_Below_split:=MOk.mk (C:=A.Below) T.cl_Below ⟨_,_,_,⟨a50_Below,r50.1,F50.kp⟩,b50,yP (P:=l.prog) (w:=w) (base:=base) T HLo HR F50⟩
 have N_Balanced_split:=MOk.mk (C:=A.Balanced) T.cl_Balanced ⟨_,_,_,⟨a50_Balanced,r50.1,F50.kp⟩,b50,yP (P:=l.prog) (w:=w) (base:=base) T HLo HR F50⟩
 have N_Growing_split:=MOk.mk (C:=A.Growing) T.cl_Growing ⟨_,_,_,⟨a50_Growing,r50.1,F50.kp⟩,b50,yP (P:=l.prog) (w:=w) (base:=base) T HLo HR F50⟩
 have N_Pairs_split:=MOk.mk (C:=A.Pairs) T.cl_Pairs ⟨_,_,_,⟨a51_Pairs,r51.1,F51.kp⟩,b51,uZ T G_as_pair G_multiplied F51⟩
 have HSp:∀ k:Kd,k.five=true→MOk l.prog w K mg base 4 (A.at k) "split" (ng A k):=fun k hk=>match k,hk with
  | .plain,_=>(N_Plain_split.imp fun ds Q ⟨n,m,j,e,⟨a,em⟩,h1,h2,q⟩=>⟨.plain,n,a,j,by rw [e,em]; rfl,rfl,h1,h2,by rw [em] at q; exact q⟩).mono (by decide)
  | .below,_=>(N_Below_split.imp fun ds Q ⟨n,m,j,e,⟨a,em⟩,h1,h2,q⟩=>⟨.below,n,a,j,by rw [e,em]; rfl,rfl,h1,h2,by rw [em] at q; exact q⟩).mono (by decide)
  | .balanced,_=>(N_Balanced_split.imp fun ds Q ⟨n,m,j,e,⟨a,em⟩,h1,h2,q⟩=>⟨.balanced,n,a,j,by rw [e,em]; rfl,rfl,h1,h2,by rw [em] at q; exact q⟩).mono (by decide)
  | .growing,_=>(N_Growing_split.imp fun ds Q ⟨n,m,j,e,⟨a,em⟩,h1,h2,q⟩=>⟨.growing,n,a,j,by rw [e,em]; rfl,rfl,h1,h2,by rw [em] at q; exact q⟩).mono (by decide)
  | .pairs,_=>(N_Pairs_split.imp fun ds Q ⟨n,m,j,e,_,h1,h2,q⟩=>⟨n,_,m,j,e,z_ m,h1,q⟩).mono (by decide)
 have G_figures_and_carries:=DOk.mk' F52 m52 b52 (xG T G_added G_thing_at HNo HHas HSp F52)
 have G_settled:=FOk.mk' F53 m53 b53 (pP T G_trimmed G_figures_and_carries F53)
 have G_written:=FOkX.mk' F54 m54 b54 (pN T G_written_by_weights G_settled HHas F54)
 have G_as_wanted:=DOk.mk' F55 m55 b55 (rC T G_as_pair G_is_pair F55)
 have G_worth:=DOk.mk' F56 m56 b56 (m_ T G_added G_multiplied HNo HW F56)
 have G_moved:=FOkX.mk' F57 m57 b57 (la T G_held_to_be_writings G_written G_as_wanted G_worth F57)
 have G__law_names:=DOk.mk' F58 m58 b58 (rA (P:=l.prog) (w:=w) (base:=base) T F58)
 have G__law_asked:=TOk.mk' F59 m59 b59 (rB T G_moved G__law_names F59)
 have G__law_is_writing:=DOk.mk' F60 m60 b60 (wW T G__law_low G__law_high F60)
 exact gk T G__law_chosen G__law_cell_at G__law_row_by G__law_spoilt G__law_pair_of G__law_way G__law_asked G__law_is_writing F61
theorem walk {l:PySem.W.OpenLaw} {q:Program} {loose:List Str} {XP:(Str→Option Value)→Heap→Prop} {YP:World→Heap→Prop} {d:DefRec} {K:Params→PySem.W.Frag} (hn:l.most=some 63) (hdf:d.params.defaults=[])
  (hY:∀ (w:World) (h:Heap),YP w h→(K w.params).In h)
  (F:∀ (w:World) (mg:Str→Option Value) (fa:Addr) (h:Heap),(K w.params).In h→h.Ns mainGlobals mg→mg d.name=some (.ref fa)→
   ∃ fd:FuncData,(∀ (s:Shared) (u:Value),BindsTo s fd ⟨[u],[]⟩ [("_law_script",u)])∧∀ base:Heap,(K w.params).In base→base.Ns mainGlobals mg→FnOk l.prog w (K w.params) mg base CX0 10 fa fd ["_law_script"] (zp (K w.params) (nj))):
  PySem.W.WalkO q loose XP YP l.row.toRowW d [] (fun f vs=>PySem.call f vs):=
 L2.walk_of (n:=63) (k:=10) (x:="_law_script") (CX:=fun _=>CX0) (sp:=fun w=>zp (K w.params) (nj)) hn (by decide) hdf ⟨rfl,by decide,by decide⟩ hY F (fun w H a ns hl _ hS=>⟨⟨H,H,Same.refl H⟩,[.scr ns],fun d=>d=.bl true,rfl,allIs_cons.mpr ⟨_,_,rfl,is_scr.mpr ⟨a,rfl,hS⟩,allIs_nil.mpr rfl⟩,⟨ns,rfl,hl,rfl⟩,fun d v W' _ i e=>by subst e; exact is_bl.mp i⟩) fun _ _ _ _ _ z=>z
end My
local macro_rules | `(tactic| walk_at "fx") => `(tactic| (refine' My.FX.mk ?l ?c ?k; (case l => k_is); (case c => k_is); (case k => k_is)))
local macro_rules | `(tactic| walk_at "kk") => `(tactic| first | k_is | kit_is | kts_exm | (delta L2.ExcK; k_exc) | (delta My.Fi; k_is) | (delta My.Zn; k_is) | (delta My.Ki; kit_is) | (delta My.FD; refine ⟨?a, ?b⟩; (case a => k_is); (case b => walk_at "fx")) | (delta My.FM; refine ⟨?a, ?b⟩; (case a => k_is); (case b => walk_at "fx")) | (refine ⟨⟨?_, ?_, ?_, ?_⟩, ?_, ?_, ?_⟩ <;> k_is) | (refine ⟨?_, ?_, ?_, ?_, ?_, ?_, ?_⟩ <;> k_is) | (refine ⟨?_, ?_⟩ <;> k_is))
open PySem PySem.W PyProof.Rows
set_option maxRecDepth 100000 in
set_option maxHeartbeats 0 in
theorem PySem.Challenge.cw_oddbases_k52_moved_refused_holds : PySem.Challenge.rw_oddbases_k52_moved_refused.Holds := by
 w_on; o_law
 refine holds_open (q:=My.h_view_39) (loose:=[]) (Xt:=(fun s=>xlAt My.h_view_39 [] s && recOk (RowW.records (OpenRow.toRowW PySem.Challenge.rw_oddbases_k52_moved_refused.row)) s)) (XP:=XL My.h_view_39 []) (Yf:=Hook.obs (kHook My.h_heap_39 My.myAs My.myE)) (Ya:=Hook.val (kHook My.h_heap_39 My.myAs My.myE)) (YP:=Hook.says (kHook My.h_heap_39 My.myAs My.myE)) (N:=12788) My.left (Hook.of _) (Hook.keeps _) (fun s e=>xl_of s (Bool.and_eq_true_iff.mp e).1) XL.keeps (by rfl) (by rfl) (by rfl) (fun s e=>recFacts_of (Bool.and_eq_true_iff.mp e).2) (by rfl) (by first | assumption | decide +kernel) (by decide +kernel) ⟨rfl,rfl,rfl,rfl,rfl,by decide +kernel⟩ ?hw ?hc
 case hw=>w_witness2
 k_fill
 refine My.walk (l:=PySem.Challenge.rw_oddbases_k52_moved_refused) rfl rfl (fun w h Y=>PySem.W.kIn_of Y) ?F
 case F=>
  intro w mg fa h KX G hmg
  refine' My.all_mk KX G hmg ?aC_Plain ?aC_Below ?aC_Balanced ?aC_Growing ?aC_Falling ?aC_Pairs ?aC_OddError ?aC_NoWriting ?aC_NoNumber ?aC_NoPairs ?aC_NoWay ?aC_TooLess ?aC_NoRatio ?aC_NoFalling ?aC_Nought ?aC_NoSpan ?aC_NoTotal ?aC_NoText ?aC_NoRow ?r1 ?r2 ?r3 ?r4 ?r5 ?r6 ?r7 ?r8 ?r9 ?r10 ?a11_Plain ?r11 ?a12_Below ?r12 ?a13_Balanced ?r13 ?a14_Growing ?r14 ?a15_Falling ?r15 ?a16_Pairs ?r16 ?r17 ?r18 ?a19_Plain ?a19_Below ?a19_Growing ?a19_Falling ?a19_Pairs ?r19 ?a20_Balanced ?r20 ?a21_Plain ?r21 ?a22_Below ?r22 ?a23_Balanced ?r23 ?a24_Growing ?r24 ?a25_Falling ?r25 ?a26_Pairs ?r26 ?r27 ?r28 ?r29 ?r30 ?r31 ?r32 ?r33 ?a34_Plain ?a34_Below ?a34_Balanced ?a34_Growing ?a34_Falling ?r34 ?a35_Pairs ?r35 ?a36_Plain ?r36 ?a37_Below ?r37 ?a38_Balanced ?r38 ?a39_Growing ?r39 ?a40_Pairs ?r40 ?a41_Plain ?a41_Below ?a41_Balanced ?a41_Growing ?a41_Pairs ?r41 ?a42_Falling ?r42 ?r43 ?r44 ?a45_Plain ?a45_Growing ?a45_Falling ?r45 ?a46_Below ?r46 ?a47_Balanced ?r47 ?r48 ?a49_Pairs ?r49 ?a50_Plain ?a50_Below ?a50_Balanced ?a50_Growing ?r50 ?a51_Pairs ?r51 ?r52 ?r53 ?r54 ?r55 ?r56 ?r57 ?r58 ?r59 ?r60 ?r61 ?c_Plain ?c_Below ?c_Balanced ?c_Growing ?c_Falling ?c_Pairs ?i_Plain ?ki_Plain_Falling ?ki_Plain_Pairs ?i_Below ?ki_Below_Falling ?ki_Below_Pairs ?i_Balanced ?ki_Balanced_Falling ?ki_Balanced_Pairs ?i_Growing ?ki_Growing_Falling ?ki_Growing_Pairs ?i_Falling ?ki_Falling_Falling ?ki_Falling_Pairs ?i_Pairs ?ki_Pairs_Falling ?ki_Pairs_Pairs ?in_ ?it_ ?ex_NoWriting ?ix_NoWriting ?em_NoWriting_OddError ?kx_NoWriting_OddError ?kx_NoWriting_NoWriting ?kx_NoWriting_NoNumber ?kx_NoWriting_NoPairs ?kx_NoWriting_NoWay ?kx_NoWriting_TooLess ?kx_NoWriting_NoRatio ?kx_NoWriting_NoFalling ?kx_NoWriting_Nought ?kx_NoWriting_NoSpan ?kx_NoWriting_NoTotal ?kx_NoWriting_NoText ?kx_NoWriting_NoRow ?kx_NoWriting_ValueError ?ex_NoNumber ?ix_NoNumber ?em_NoNumber_OddError ?kx_NoNumber_OddError ?kx_NoNumber_NoWriting ?kx_NoNumber_NoNumber ?kx_NoNumber_NoPairs ?kx_NoNumber_NoWay ?kx_NoNumber_TooLess ?kx_NoNumber_NoRatio ?kx_NoNumber_NoFalling ?kx_NoNumber_Nought ?kx_NoNumber_NoSpan ?kx_NoNumber_NoTotal ?kx_NoNumber_NoText ?kx_NoNumber_NoRow ?kx_NoNumber_ValueError ?z_isinstance ?z_int ?z_bool ?z_tuple ?z_list ?z_len ?z_range ?z_zip ?z_enumerate ?z_reversed ?z_ValueError
  (case aC_Plain=>walk_at "kk")
  (case aC_Below=>walk_at "kk")
  (case aC_Balanced=>walk_at "kk")
  (case aC_Growing=>walk_at "kk")
  (case aC_Falling=>walk_at "kk")
  (case aC_Pairs=>walk_at "kk")
  (case aC_OddError=>walk_at "kk")
  (case aC_NoWriting=>walk_at "kk")
  (case aC_NoNumber=>walk_at "kk")
  (case aC_NoPairs=>walk_at "kk")
  (case aC_NoWay=>walk_at "kk")
  (case aC_TooLess=>walk_at "kk")
  (case aC_NoRatio=>walk_at "kk")
  (case aC_NoFalling=>walk_at "kk")
  (case aC_Nought=>walk_at "kk")
  (case aC_NoSpan=>walk_at "kk")
  (case aC_NoTotal=>walk_at "kk")
  (case aC_NoText=>walk_at "kk")
  (case aC_NoRow=>walk_at "kk")
  (case r1=>walk_at "kk")
  (case r2=>walk_at "kk")
  (case r3=>walk_at "kk")
  (case r4=>walk_at "kk")
  (case r5=>walk_at "kk")
  (case r6=>walk_at "kk")
  (case r7=>walk_at "kk")
  (case r8=>walk_at "kk")
  (case r9=>walk_at "kk")
  (case r10=>walk_at "kk")
  (case a11_Plain=>walk_at "kk")
  (case r11=>walk_at "kk")
  (case a12_Below=>walk_at "kk")
  (case r12=>walk_at "kk")
  (case a13_Balanced=>walk_at "kk")
  (case r13=>walk_at "kk")
  (case a14_Growing=>walk_at "kk")
  (case r14=>walk_at "kk")
  (case a15_Falling=>walk_at "kk")
  (case r15=>walk_at "kk")
  (case a16_Pairs=>walk_at "kk")
  (case r16=>walk_at "kk")
  (case r17=>walk_at "kk")
  (case r18=>walk_at "kk")
  (case a19_Plain=>walk_at "kk")
  (case a19_Below=>walk_at "kk")
  (case a19_Growing=>walk_at "kk")
  (case a19_Falling=>walk_at "kk")
  (case a19_Pairs=>walk_at "kk")
  (case r19=>walk_at "kk")
  (case a20_Balanced=>walk_at "kk")
  (case r20=>walk_at "kk")
  (case a21_Plain=>walk_at "kk")
  (case r21=>walk_at "kk")
  (case a22_Below=>walk_at "kk")
  (case r22=>walk_at "kk")
  (case a23_Balanced=>walk_at "kk")
  (case r23=>walk_at "kk")
  (case a24_Growing=>walk_at "kk")
  (case r24=>walk_at "kk")
  (case a25_Falling=>walk_at "kk")
  (case r25=>walk_at "kk")
  (case a26_Pairs=>walk_at "kk")
  (case r26=>walk_at "kk")
  (case r27=>walk_at "kk")
  (case r28=>walk_at "kk")
  (case r29=>walk_at "kk")
  (case r30=>walk_at "kk")
  (case r31=>walk_at "kk")
  (case r32=>walk_at "kk")
  (case r33=>walk_at "kk")
  (case a34_Plain=>walk_at "kk")
  (case a34_Below=>walk_at "kk")
  (case a34_Balanced=>walk_at "kk")
  (case a34_Growing=>walk_at "kk")
  (case a34_Falling=>walk_at "kk")
  (case r34=>walk_at "kk")
  (case a35_Pairs=>walk_at "kk")
  (case r35=>walk_at "kk")
  (case a36_Plain=>walk_at "kk")
  (case r36=>walk_at "kk")
  (case a37_Below=>walk_at "kk")
  (case r37=>walk_at "kk")
  (case a38_Balanced=>walk_at "kk")
  (case r38=>walk_at "kk")
  (case a39_Growing=>walk_at "kk")
  (case r39=>walk_at "kk")
  (case a40_Pairs=>walk_at "kk")
  (case r40=>walk_at "kk")
  (case a41_Plain=>walk_at "kk")
  (case a41_Below=>walk_at "kk")
  (case a41_Balanced=>walk_at "kk")
  (case a41_Growing=>walk_at "kk")
  (case a41_Pairs=>walk_at "kk")
  (case r41=>walk_at "kk")
  (case a42_Falling=>walk_at "kk")
  (case r42=>walk_at "kk")
  (case r43=>walk_at "kk")
  (case r44=>walk_at "kk")
  (case a45_Plain=>walk_at "kk")
  (case a45_Growing=>walk_at "kk")
  (case a45_Falling=>walk_at "kk")
  (case r45=>walk_at "kk")
  (case a46_Below=>walk_at "kk")
  (case r46=>walk_at "kk")
  (case a47_Balanced=>walk_at "kk")
  (case r47=>walk_at "kk")
  (case r48=>walk_at "kk")
  (case a49_Pairs=>walk_at "kk")
  (case r49=>walk_at "kk")
  (case a50_Plain=>walk_at "kk")
  (case a50_Below=>walk_at "kk")
  (case a50_Balanced=>walk_at "kk")
  (case a50_Growing=>walk_at "kk")
  (case r50=>walk_at "kk")
  (case a51_Pairs=>walk_at "kk")
  (case r51=>walk_at "kk")
  (case r52=>walk_at "kk")
  (case r53=>walk_at "kk")
  (case r54=>walk_at "kk")
  (case r55=>walk_at "kk")
  (case r56=>walk_at "kk")
  (case r57=>walk_at "kk")
  (case r58=>walk_at "kk")
  (case r59=>walk_at "kk")
  (case r60=>walk_at "kk")
  (case r61=>walk_at "kk")
  (case c_Plain=>walk_at "kk")
  (case c_Below=>walk_at "kk")
  (case c_Balanced=>walk_at "kk")
  (case c_Growing=>walk_at "kk")
  (case c_Falling=>walk_at "kk")
  (case c_Pairs=>walk_at "kk")
  (case i_Plain=>walk_at "kk")
  (case ki_Plain_Falling=>walk_at "kk")
  (case ki_Plain_Pairs=>walk_at "kk")
  (case i_Below=>walk_at "kk")
  (case ki_Below_Falling=>walk_at "kk")
  (case ki_Below_Pairs=>walk_at "kk")
  (case i_Balanced=>walk_at "kk")
  (case ki_Balanced_Falling=>walk_at "kk")
  (case ki_Balanced_Pairs=>walk_at "kk")
  (case i_Growing=>walk_at "kk")
  (case ki_Growing_Falling=>walk_at "kk")
  (case ki_Growing_Pairs=>walk_at "kk")
  (case i_Falling=>walk_at "kk")
  (case ki_Falling_Falling=>walk_at "kk")
  (case ki_Falling_Pairs=>walk_at "kk")
  (case i_Pairs=>walk_at "kk")
  (case ki_Pairs_Falling=>walk_at "kk")
  (case ki_Pairs_Pairs=>walk_at "kk")
  (case in_=>walk_at "kk")
  (case it_=>walk_at "kk")
  (case ex_NoWriting=>walk_at "kk")
  (case ix_NoWriting=>walk_at "kk")
  (case em_NoWriting_OddError=>walk_at "kk")
  (case kx_NoWriting_OddError=>walk_at "kk")
  (case kx_NoWriting_NoWriting=>walk_at "kk")
  (case kx_NoWriting_NoNumber=>walk_at "kk")
  (case kx_NoWriting_NoPairs=>walk_at "kk")
  (case kx_NoWriting_NoWay=>walk_at "kk")
  (case kx_NoWriting_TooLess=>walk_at "kk")
  (case kx_NoWriting_NoRatio=>walk_at "kk")
  (case kx_NoWriting_NoFalling=>walk_at "kk")
  (case kx_NoWriting_Nought=>walk_at "kk")
  (case kx_NoWriting_NoSpan=>walk_at "kk")
  (case kx_NoWriting_NoTotal=>walk_at "kk")
  (case kx_NoWriting_NoText=>walk_at "kk")
  (case kx_NoWriting_NoRow=>walk_at "kk")
  (case kx_NoWriting_ValueError=>walk_at "kk")
  (case ex_NoNumber=>walk_at "kk")
  (case ix_NoNumber=>walk_at "kk")
  (case em_NoNumber_OddError=>walk_at "kk")
  (case kx_NoNumber_OddError=>walk_at "kk")
  (case kx_NoNumber_NoWriting=>walk_at "kk")
  (case kx_NoNumber_NoNumber=>walk_at "kk")
  (case kx_NoNumber_NoPairs=>walk_at "kk")
  (case kx_NoNumber_NoWay=>walk_at "kk")
  (case kx_NoNumber_TooLess=>walk_at "kk")
  (case kx_NoNumber_NoRatio=>walk_at "kk")
  (case kx_NoNumber_NoFalling=>walk_at "kk")
  (case kx_NoNumber_Nought=>walk_at "kk")
  (case kx_NoNumber_NoSpan=>walk_at "kk")
  (case kx_NoNumber_NoTotal=>walk_at "kk")
  (case kx_NoNumber_NoText=>walk_at "kk")
  (case kx_NoNumber_NoRow=>walk_at "kk")
  (case kx_NoNumber_ValueError=>walk_at "kk")
  (case z_isinstance=>walk_at "kk")
  (case z_int=>walk_at "kk")
  (case z_bool=>walk_at "kk")
  (case z_tuple=>walk_at "kk")
  (case z_list=>walk_at "kk")
  (case z_len=>walk_at "kk")
  (case z_range=>walk_at "kk")
  (case z_zip=>walk_at "kk")
  (case z_enumerate=>walk_at "kk")
  (case z_reversed=>walk_at "kk")
  (case z_ValueError=>walk_at "kk")
