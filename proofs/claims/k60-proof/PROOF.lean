import PyProof.Rows.All
import Wide.All
import OpenK.AllK
import Wide.FinOn
import Lean
import PyProof.EqAt
import PyProof.EqKinds
import PyProof.TupleCall
import PyProof.NeKinds
import PySem.Challenge.RW_oddbases_k60_rows_refused
set_option Elab.async false
set_option linter.all false
set_option maxRecDepth 100000
set_option bootstrap.genMatcherCode false
noncomputable section
local macro_rules | `(tactic| walk_at "v") => `(tactic| first | exact Or.inl rfl | exact Or.inr (Or.inl rfl) | exact Or.inr (Or.inr rfl))
local macro_rules | `(tactic| walk_at "f") => `(tactic| first | exact .inl rfl | exact .inr rfl | assumption)
abbrev A_:=PySem.W.Frag
theorem A':type_of% @List.length_map:=@List.length_map
theorem Ba:type_of% @Bool.false_ne_true:=@Bool.false_ne_true
theorem Bb:type_of% @Bool.and_eq_true:=@Bool.and_eq_true
theorem Bc:type_of% @List.size_toArray:=@List.size_toArray
theorem Bd:type_of% @List.mem_cons_of_mem:=@List.mem_cons_of_mem
theorem Be:type_of% @List.getElem?_set_ne:=@List.getElem?_set_ne
theorem Bf:type_of% @Nat.le_of_ble_eq_true:=@Nat.le_of_ble_eq_true
theorem Bg:type_of% @Nat.le_refl:=@Nat.le_refl
theorem Bh:type_of% @List.getElem?_eq_getElem:=@List.getElem?_eq_getElem
theorem Bi:type_of% @List.mem_cons_self:=@List.mem_cons_self
theorem Bj:type_of% @Nat.lt_of_lt_of_le:=@Nat.lt_of_lt_of_le
theorem Bk:type_of% @List.mem_cons:=@List.mem_cons
theorem Bl:type_of% @Nat.ne_of_lt:=@Nat.ne_of_lt
theorem Bm:type_of% @List.length_cons:=@List.length_cons
theorem Bn:type_of% @List.getElem?_map:=@List.getElem?_map
theorem Bo:type_of% @List.length_append:=@List.length_append
theorem Bp:type_of% @List.mem_of_getElem?:=@List.mem_of_getElem?
theorem Bq:type_of% @List.getD_eq_getElem?_getD:=@List.getD_eq_getElem?_getD
theorem Br:type_of% @Nat.le_trans:=@Nat.le_trans
theorem Bs:type_of% @List.all_eq_true:=@List.all_eq_true
theorem Bt:type_of% @List.getElem?_eq_none:=@List.getElem?_eq_none
theorem Bu:type_of% @List.getElem?_set_self:=@List.getElem?_set_self
theorem Bv:type_of% @List.append_nil:=@List.append_nil
theorem Bw:type_of% @Option.map_eq_some_iff:=@Option.map_eq_some_iff
theorem Bx:type_of% @List.mem_append:=@List.mem_append
theorem By:type_of% @List.mem_singleton:=@List.mem_singleton
theorem Bz:type_of% @List.length_reverse:=@List.length_reverse
theorem BB:type_of% @List.mem_map:=@List.mem_map
theorem BC:type_of% @List.length_set:=@List.length_set
theorem BD:type_of% @List.getElem?_append_right:=@List.getElem?_append_right
theorem BE:type_of% @List.mem_reverse:=@List.mem_reverse
theorem BF:type_of% @List.cons_ne_nil:=@List.cons_ne_nil
theorem BG:type_of% @List.getElem?_eq_some_iff:=@List.getElem?_eq_some_iff
theorem BH:type_of% @List.getElem?_append_left:=@List.getElem?_append_left
theorem BI:type_of% @List.map_append:=@List.map_append
theorem BJ:type_of% @List.any_cons:=@List.any_cons
theorem BK:type_of% @List.mem_append_right:=@List.mem_append_right
theorem BL:type_of% @Nat.mul_le_mul_right:=@Nat.mul_le_mul_right
theorem BM:type_of% @Nat.lt_irrefl:=@Nat.lt_irrefl
theorem BN:type_of% @Nat.succ_ne_self:=@Nat.succ_ne_self
theorem BO:type_of% @List.mem_filterMap:=@List.mem_filterMap
theorem BP:type_of% @List.replicate_succ:=@List.replicate_succ
theorem BQ:type_of% @Nat.lt_or_ge:=@Nat.lt_or_ge
theorem BR:type_of% @List.reverse_cons:=@List.reverse_cons
theorem BS:type_of% @List.flatten_cons:=@List.flatten_cons
theorem BU:type_of% @Int.toNat_natCast:=@Int.toNat_natCast
theorem BV:type_of% @Nat.lt_of_le_of_lt:=@Nat.lt_of_le_of_lt
theorem BW:type_of% @Bool.eq_iff_iff:=@Bool.eq_iff_iff
theorem BX:type_of% @List.mem_range:=@List.mem_range
theorem BY:type_of% @Nat.zero_le:=@Nat.zero_le
theorem B0:type_of% @Nat.lt_trans:=@Nat.lt_trans
theorem B1:type_of% @List.map_cons:=@List.map_cons
theorem B2:type_of% @Bool.eq_false_iff:=@Bool.eq_false_iff
abbrev ug(x:PySem.Str):Prop:=(x==("__debug__":PySem.Str))=false
abbrev we(x:PySem.Str):Prop:=(x==("__classdict__":PySem.Str))=false
abbrev J'(v:PySem.Env)(e:PySem.Expr)(es:List PySem.Expr):Prop:=PySem.starEach (e::es) v=(false,PySem.eval e v)::PySem.starEach es v
abbrev K'(v:PySem.Env)(p:PySem.Pos)(es:List PySem.Expr):Prop:=(PySem.backTo p (PySem.starEach es v)).any (·.1)=false
abbrev am:=List (PySem.Addr×PySem.Obj)
abbrev be:=PySem.Str→Option PySem.Value
abbrev cp:=PySem.Value→PySem.Shared→Prop
namespace L2
open PySem PySem.Spec PyProof.Rows
abbrev Key:=Sum Int Str
def V5:Key→Value→Bool
 | .inl k,v=>Value.isInt k v
 | .inr x,v=>Value.isStrOf x v
def Mt(w:World):Key→Int
 | .inl k=>hashInt k
 | .inr x=>hashStr w x
theorem z7:∀{k:Key}{v:Value},V5 k v=true→(∃i t,k=Sum.inl i∧v=Value.int i t)∨(∃x t,k=Sum.inr x∧v=Value.str x t)
 | .inl i,v,h=>by
  obtain⟨t,e⟩:=Value.isInt_shape (k:=i) (v:=v) h
  exact .inl ⟨i,t,rfl,e⟩
 | .inr x,v,h=>by
  obtain⟨t,e⟩:=Value.isStrOf_shape (x:=x) (v:=v) h
  exact .inr ⟨x,t,rfl,e⟩
def Qn(a b:Int):decide ((Sum.inl a:Key)=Sum.inl b)=(a==b):=by
 by_cases e:a=b
 ·subst e;simp
 ·have h:¬(Sum.inl a:Key)=Sum.inl b:=fun q=>e (Sum.inl.inj q)
  rw[decide_eq_false h]
  exact(beq_eq_false_iff_ne.mpr e).symm
def Qk(a b:Str):decide ((Sum.inr a:Key)=Sum.inr b)=decide (a=b):=by
 by_cases e:a=b
 ·subst e;simp
 ·have h:¬(Sum.inr a:Key)=Sum.inr b:=fun q=>e (Sum.inr.inj q)
  rw[decide_eq_false h,decide_eq_false e]
def Qm(a:Int)(b:Str):decide ((Sum.inl a:Key)=Sum.inr b)=false:=decide_eq_false (fun q=>nomatch q)
def Ql(a:Str)(b:Int):decide ((Sum.inr a:Key)=Sum.inl b)=false:=decide_eq_false (fun q=>nomatch q)
def ou(prog:Program)(w:World):PySem.KeyKind prog w Key where
 is:=V5
 hash:=Mt w
 inj:=fun v a b ha hb=>by
  rcases z7 ha with ⟨i,t,rfl,rfl⟩|⟨x,t,rfl,rfl⟩
  ·rcases z7 hb with ⟨j,u,rfl,e⟩|⟨y,u,rfl,e⟩
   ·injection e with e1 _;rw[e1]
   ·exact nomatch e
  ·rcases z7 hb with ⟨j,u,rfl,e⟩|⟨y,u,rfl,e⟩
   ·exact nomatch e
   ·injection e with e1 _;rw[e1]
 byValue:=fun k v h=>by
  rcases z7 h with ⟨i,t,rfl,rfl⟩|⟨x,t,rfl,rfl⟩<;>rfl
 pyHash:=fun hv h=>by
  rcases z7 hv with ⟨i,t,rfl,rfl⟩|⟨x,t,rfl,rfl⟩
  ·exact wpAny_pyHash_int h
  ·exact wpAny_pyHash_str h
 eqBool:=fun hu hv h=>by
  rcases z7 hu with ⟨i,t,rfl,rfl⟩|⟨x,t,rfl,rfl⟩
  ·rcases z7 hv with ⟨j,u,rfl,rfl⟩|⟨y,u,rfl,rfl⟩
   ·rw[Qn]at h;exact wpAny_eqBool_int h
   ·rw[Qm]at h;exact SeqAt.EqAt.int_str i t y u _ _ _ _ h
  ·rcases z7 hv with ⟨j,u,rfl,rfl⟩|⟨y,u,rfl,rfl⟩
   ·rw[Ql]at h;exact SeqAt.EqAt.str_int x t j u _ _ _ _ h
   ·rw[Qk]at h;exact wpAny_eqBool_str h
 «strs»:=fun k x t v h=>by
  rcases z7 h with ⟨i,u,rfl,e⟩|⟨y,u,rfl,e⟩
  ·exact nomatch e
  ·injection e with e1 _
   subst e1
   cases v<;>rfl
inductive V where
 | non|bl (b:Bool)|int (i:Int)|str (x:Str)|byt (b:Array UInt8)|flt (b:UInt64)|ref (a:Addr)|ty (n:String)
 deriving DecidableEq
def RelV:V→Value→Prop
 | .non,u=>u=Value.none
 | .bl b,u=>u=Value.bool b
 | .int i,u=>∃t,u=Value.int i t
 | .str x,u=>∃t,u=Value.str x t
 | .byt b,u=>∃t,u=Value.bytes b t
 | .flt b,u=>∃t,u=Value.float b t
 | .ref a,u=>u=Value.ref a
 | .ty n,u=>u=Value.type n
abbrev Vals:List V→List Value→Prop:=Paired RelV
def Vals.length{xs:List V}{us:List Value}(r:Vals xs us):xs.length=us.length:=Paired.length r
theorem Vals.get:∀{xs:List V}{us:List Value}{i:Nat}{x:V},Vals xs us→xs[i]? = some x→∃u,us[i]? = some u∧RelV x u
 | _,_,_,_,.nil,e=>by simp at e
 | _,_,0,_,.cons r _,e=>by simp at e;subst e;exact⟨_,rfl,r⟩
 | _,_,i+1,x,.cons _ t,e=>by
  obtain⟨u,h1,h2⟩:=Vals.get (i:=i) (x:=x) t (by simpa using e)
  exact⟨u,by simpa using h1,h2⟩
theorem Vals.set{x:V}{u:Value}(r:RelV x u):∀{xs:List V}{us:List Value}(i:Nat),Vals xs us→Vals (xs.set i x) (us.set i u)
 | _,_,_,.nil=>.nil
 | _,_,0,.cons _ t=>.cons r t
 | _,_,i+1,.cons q t=>.cons q (Vals.set r i t)
theorem Vals.append:∀{xs ys:List V}{us ws:List Value},Vals xs us→Vals ys ws→Vals (xs++ys) (us++ws)
 | _,_,_,_,.nil,s=>s
 | _,_,_,_,.cons r t,s=>.cons r (Vals.append t s)
theorem Vals.take:∀{xs:List V}{us:List Value}(n:Nat),Vals xs us→Vals (xs.take n) (us.take n)
 | _,_,0,_=>.nil
 | _,_,_+1,.nil=>.nil
 | _,_,n+1,.cons r t=>.cons r (Vals.take n t)
theorem Vals.drop:∀{xs:List V}{us:List Value}(n:Nat),Vals xs us→Vals (xs.drop n) (us.drop n)
 | _,_,0,r=>r
 | _,_,_+1,.nil=>.nil
 | _,_,n+1,.cons _ t=>Vals.drop n t
def RelO:Option V→Option Value→Prop
 | some v,some u=>RelV v u
 | none,none=>True
 | _,_=>False
def KV{κ:Type}:List (κ×V)→List (κ×Value)→Prop:=Paired fun(p:κ×V)(q:κ×Value)=>p.1=q.1∧RelV p.2 q.2
def kV:Key→V
 | .inl i=>.int i
 | .inr x=>.str x
inductive HO where
 | lst (xs:List V)
 | tup (xs:List V)
 | dK (kvs:List (Key×V))|dT (kvs:List (List Key×V))
 | set (S:Int→Bool) (n:Nat)
 | ins (C dx:Addr) (fs:List (Str×V))
 | own (x:Addr)
 | xd (fs:List (Str×V))
 | met (f x:Addr)
 | rng (lo hi:Int)
 | frz (o:Obj) (u:HO)
 | tbl (ps:Array Value)
 | ext (φ:Heap→Prop)
abbrev Hp:=Addr→Option HO
def upd(H:Hp)(a:Addr)(o:HO):Hp:=fun b=>if b=a then some o else H b
def zr{H:Hp}{a:Addr}{o:HO}:upd H a o a=some o:=by unfold upd;rw[if_pos rfl]
def zt{H:Hp}{a b:Addr}{o:HO}(h:b≠a):upd H a o b=H b:=by unfold upd;rw[if_neg h]
def zV{H:Hp}{a b:Addr}{o:HO}(h:H a=some o)(h':H b=none):a≠b:=by
 intro e;subst e;rw[h]at h';cases h'
section
variable(P:Program)(w:World)
def ObjOk(H:Hp)(h:Heap)(a:Addr):HO→Prop
 | .lst xs=>xs.length≤sizeLine∧∃(its:List Value)(n:Nat),Vals xs its∧h.get? a=some { cls:=.type "list",data:=.seq its.toArray n }
 | .tup xs=>xs.length≤sizeLine∧∃its:List Value,Vals xs its∧IsTup h a its.toArray
 | .dK kvs=>kvs.length≤sizeLine∧(a==sysModules)=false∧∃vs,KV kvs vs∧h.DictOf (ou P w) a vs
 | .dT kvs=>kvs.length≤sizeLine∧(a==sysModules)=false∧∃xs:List (List Key×Addr×Value),
   Paired (fun(p:List Key×V)(q:List Key×Addr×Value)=>p.1=q.1∧H q.2.1=some (.tup (p.1.map kV))∧RelV p.2 q.2.2) kvs xs∧
   ∃o es ep,h.get? a=some o∧o.ExactDict∧o.data=.dict es ep∧es.toList=xs.map (entryOfKey (tupleKind (ou P w)))∧(xs.map (·.1)).Nodup
 | .set S n=>h.SetOf (intKind P w) a S n
 | .ins C dx fs=>H dx=some (.own a)∧fs.length≤1000∧dx≠a∧h.get? a=some (PySem.W.instObj C dx)∧
   ∃mA,h.Ns1 dx mA∧(∀f,RelO (fs.lookup f) (mA f))∧PySem.Within mA (fs.map (·.1))
 | .own _=>∃o,h.get? a=some o
 | .xd fs=>∃mA,h.Ns1 a mA∧∀f,RelO (fs.lookup f) (mA f)
 | .rng lo hi=>∃t u v,h.get? a=some { cls:=.type "range",data:=.fields #[.int lo t,.int hi u,.int 1 v] }
 | .frz o u=>h.get? a=some o∧ObjOk H h a u
 | .tbl ps=>h.get? a=some { cls:=.none,data:=.fields ps }
 | .met f x=>h.get? a=some (PySem.W.methodObj (.ref f) (.ref x))
 | .ext φ=>φ h∧(∃o,h.get? a=some o)∧∀h1 h2:Heap,φ h1→(∀o,h1.get? a=some o→h2.get? a=some o)→φ h2
def HOk(H:Hp)(h:Heap):Prop:=∀a o,H a=some o→ObjOk P w H h a o
end
section
variable{P:Program}{w:World}{H H':Hp}{h h':Heap}{a:Addr}{o:HO}
def ObjOk.lt(x:ObjOk P w H h a o):a<h.objs.size:=by
 cases o with
 | lst xs=>obtain⟨_,_,_,_,e⟩:=x;exact Heap.lt_size e
 | tup xs=>obtain⟨_,_,_,p⟩:=x;exact p.lt
 | dK kvs=>obtain⟨_,_,_,_,o,_,_,e,_⟩:=x;exact Heap.lt_size e
 | dT kvs=>obtain⟨_,_,_,_,o,_,_,e,_⟩:=x;exact Heap.lt_size e
 | set S n=>obtain⟨o,_,_,_,e,_⟩:=x;exact Heap.lt_size e
 | ins C dx fs=>obtain⟨_,_,_,e,_⟩:=x;exact Heap.lt_size e
 | own y=>obtain⟨_,e⟩:=x;exact Heap.lt_size e
 | xd fs=>obtain⟨_,⟨_,_,_,e,_⟩,_⟩:=x;exact Heap.lt_size e
 | rng lo hi=>obtain⟨_,_,_,e⟩:=x;exact Heap.lt_size e
 | frz ob u=>obtain⟨e,_⟩:=x;exact Heap.lt_size e
 | tbl ps=>exact Heap.lt_size (show h.get? a=some _ from x)
 | met f y=>exact Heap.lt_size (show h.get? a=some _ from x)
 | ext φ=>obtain⟨_,⟨_,e⟩,_⟩:=x;exact Heap.lt_size e
theorem Paired.mapP{α β:Type}{F G:α→β→Prop}:∀{l₁:List α}{l₂:List β},Paired F l₁ l₂→(∀a b,F a b→G a b)→Paired G l₁ l₂
 | _,_,.nil,_=>.nil
 | _,_,.cons r t,f=>.cons (f _ _ r) (Paired.mapP t f)
theorem ObjOk.stay(x:ObjOk P w H h a o)(k:∀b u,(b=a∨H b=some (.own a))→h.get? b=some u→h'.get? b=some u)
  (ho:∀b,H b=some (.own a)→H' b=some (.own a)) (ht:∀b xs,H b=some (.tup xs)→H' b=some (.tup xs)):ObjOk P w H' h' a o:=by
 induction o with
 | lst xs=>obtain⟨z,its,n,r,e⟩:=x;exact⟨z,its,n,r,k _ _ (.inl rfl) e⟩
 | tup xs=>obtain⟨z,its,r,ob,e,c⟩:=x;exact⟨z,its,r,ob,k _ _ (.inl rfl) e,c⟩
 | dK kvs=>obtain⟨z,y,vs,r,ob,es,ep,e,c⟩:=x;exact⟨z,y,vs,r,ob,es,ep,k _ _ (.inl rfl) e,c⟩
 | dT kvs=>
  obtain⟨z,y,xs,r,ob,es,ep,e,c⟩:=x
  exact⟨z,y,xs,Paired.mapP r fun p q z=>⟨z.1,ht _ _ z.2.1,z.2.2⟩,ob,es,ep,k _ _ (.inl rfl) e,c⟩
 | set S n=>obtain⟨ob,es,ep,t,e,c⟩:=x;exact⟨ob,es,ep,t,k _ _ (.inl rfl) e,c⟩
 | ins C dx fs=>
  obtain⟨d,z,ne,e,mA,⟨od,es,ep,e2,c⟩,r⟩:=x
  exact⟨ho _ d,z,ne,k _ _ (.inl rfl) e,mA,⟨od,es,ep,k _ _ (.inr d) e2,c⟩,r⟩
 | own y=>obtain⟨ob,e⟩:=x;exact⟨ob,k _ _ (.inl rfl) e⟩
 | xd fs=>obtain⟨mA,⟨od,es,ep,e,c⟩,r⟩:=x;exact⟨mA,⟨od,es,ep,k _ _ (.inl rfl) e,c⟩,r⟩
 | rng lo hi=>obtain⟨t,u,v,e⟩:=x;exact⟨t,u,v,k _ _ (.inl rfl) e⟩
 | frz ob u ih=>obtain⟨e,q⟩:=x;exact⟨k _ _ (.inl rfl) e,ih q⟩
 | tbl ps=>
  have e:h.get? a=some { cls:=.none,data:=.fields ps }:=x
  show h'.get? a=some { cls:=.none,data:=.fields ps }
  exact k a _ (.inl rfl) e
 | met f y=>
  have e:h.get? a=some (PySem.W.methodObj (.ref f) (.ref y)):=x
  show h'.get? a=some (PySem.W.methodObj (.ref f) (.ref y))
  exact k a _ (.inl rfl) e
 | ext φ=>obtain⟨p,⟨o,e⟩,st⟩:=x;exact⟨st _ _ p fun o q=>k _ _ (.inl rfl) q,⟨o,k _ _ (.inl rfl) e⟩,st⟩
def HOk.lt(x:HOk P w H h)(e:H a=some o):a<h.objs.size:=(x a o e).lt
def HOk.fresh(x:HOk P w H h)(e:h.objs.size≤a):H a=none:=by
 cases q:H a with
 | none=>rfl
 | some u=>exact absurd (Bj (x.lt q) e) (BM _)
def HOk.kept(x:HOk P w H h)(k:∀b u,h.get? b=some u→h'.get? b=some u):HOk P w H h':=fun a o e=>
 (x a o e).stay (fun b u _ q=>k b u q) (fun _ q=>q) fun _ _ q=>q
def HOk.laid(x:HOk P w H h)(k:∀b u,h.get? b=some u→h'.get? b=some u)(hp:h.objs.size≤a)(new:ObjOk P w (upd H a o) h' a o):HOk P w (upd H a o) h':=fun b u e=>by
 have hn:=x.fresh hp
 by_cases hb:b=a
 ·subst hb;rw[zr]at e;cases e;exact new
 ·rw[zt hb]at e
  exact(x b u e).stay (fun c v _ q=>k c v q) (fun c q=>by rw[zt (zV q hn)];exact q) fun c xs q=>by rw[zt (zV q hn)];exact q
end
def Rd(H:Hp)(a:Addr)(u:HO):Prop:=H a=some u∨∃o,H a=some (.frz o u)
def Rd.ok{P:Program}{w:World}{H:Hp}{h:Heap}{a:Addr}{u:HO}(r:Rd H a u)(x:HOk P w H h):ObjOk P w H h a u:=by
 rcases r with r|⟨o,r⟩
 ·exact x a u r
 ·obtain⟨_,q⟩:=x a _ r
  exact q
def Mut:Option HO→Prop
 | some (.lst _)=>True
 | some (.dK _)=>True
 | some (.dT _)=>True
 | some (.set _ _)=>True
 | some (.ins _ _ _)=>True
 | some (.ext _)=>True
 | _=>False
section
variable{P:Program}{w:World}{H:Hp}{h h':Heap}{x e:Addr}{o':HO}
theorem HOk.write(ok:HOk P w H h)(mu:Mut (H x))(he:e=x∨H e=some (.own x))(k:∀b u,b≠e→h.get? b=some u→h'.get? b=some u)(heo:∃u,h'.get? e=some u)
  (new:ObjOk P w (upd H x o') h' x o'):HOk P w (upd H x o') h':=fun b u q=>by
 have nown:∀c y,H c=some (.own y)→c≠x:=fun c y r z=>by subst z;rw[r]at mu;exact mu
 have ntup:∀c xs,H c=some (.tup xs)→c≠x:=fun c xs r z=>by subst z;rw[r]at mu;exact mu
 by_cases hb:b=x
 ·subst hb;rw[zr]at q;cases q;exact new
 ·rw[zt hb]at q
  by_cases hbe:b=e
  ·have q':H b=some (.own x):=by
    rcases he with z|z
    ·exact absurd (hbe.trans z) hb
    ·rw[hbe];exact z
   rw[q]at q';cases q'
   obtain⟨v,hv⟩:=heo
   exact⟨v,by rw[hbe];exact hv⟩
  ·refine(ok b u q).stay (fun c v hc r=>k c v ?_ r) (fun c r=>by rw[zt (nown c b r)];exact r) fun c xs r=>by rw[zt (ntup c xs r)];exact r
   rcases hc with rfl|hc
   ·exact hbe
   ·rintro rfl
    rcases he with z|z
    ·exact nown c b hc z
    ·rw[hc]at z;cases z;exact hb rfl
end
structure Un(fs ex:List Addr)(H H':Hp)(h h':Heap):Prop where
 keep:∀b o,h.get? b=some o→H b=none→b∉fs→b∉ex→h'.get? b=some o
 slot:∀b o,h.get? b=some o→H b=none→b∈fs→b∉ex→∃sl,h'.get? b=some { o with slots:=sl }
 free:∀b o,h.get? b=some o→H b=none→b∉ex→H' b=none
 there:∀b o,h.get? b=some o→b∉ex→∃o',h'.get? b=some o'
 tups:∀b xs,H b=some (.tup xs)→H' b=some (.tup xs)
 frzs:∀b o u,H b=some (.frz o u)→H' b=some (.frz o u)
 tbls:∀b ps,H b=some (.tbl ps)→∃more,H' b=some (.tbl (ps++more))
section
variable{fs ex:List Addr}{H H1:Hp}{h h1 h':Heap}{a x e:Addr}{o:HO}
def Un.any(u:Un fs ex H H1 h h1){b:Addr}{ob:Obj}(q:h.get? b=some ob)(n:H b=none)(hx:b∉ex):∃sl,h1.get? b=some { ob with slots:=sl }:=by
 by_cases hb:b∈fs
 ·exact u.slot b ob q n hb hx
 ·exact⟨ob.slots,u.keep b ob q n hb hx⟩
def Un.kept(k:∀b u,h.get? b=some u→h'.get? b=some u):Un fs ex H H h h':=
 ⟨fun b ob q _ _ _=>k b ob q,fun b ob q _ _ _=>⟨ob.slots,k b ob q⟩,fun _ _ _ n _=>n,fun b ob q _=>⟨ob,k b ob q⟩,fun _ _ q=>q,fun _ _ _ q=>q,fun _ ps q=>⟨#[],by rw[q];simp⟩⟩
def Un.refl:Un fs ex H H h h:=Un.kept fun _ _ q=>q
theorem Un.laid(k:∀b u,h.get? b=some u→h'.get? b=some u)(hp:h.objs.size≤a)(hn:H a=none):Un fs ex H (upd H a o) h h' where
 keep:=fun b u q _ _ _=>k b u q
 slot:=fun b u q _ _ _=>⟨u.slots,k b u q⟩
 free:=fun b u q n _=>by rw[zt (Bl (Bj (Heap.lt_size q) hp))];exact n
 there:=fun b u q _=>⟨u,k b u q⟩
 tups:=fun b xs q=>by rw[zt (zV q hn)];exact q
 frzs:=fun b u xs q=>by rw[zt (zV q hn)];exact q
 tbls:=fun b ps q=>⟨#[],by rw[zt (zV q hn),q];simp⟩
def Un.write(mu:Mut (H x))(he:e=x∨H e=some (.own x))(k:∀b u,b≠e→h.get? b=some u→h'.get? b=some u)(heo:∃u,h'.get? e=some u):Un fs ex H (upd H x o) h h':=by
 have hx:∀b,H b=none→b≠x:=fun b n z=>by subst z;rw[n]at mu;exact mu
 have hb:∀b,H b=none→b≠e:=fun b n z=>by
  subst z
  rcases he with r|r
  ·exact hx b n r
  ·rw[n]at r;cases r
 have hm:∀b u,H b=some u→¬Mut (some u)→b≠x:=fun b u q nm z=>by subst z;rw[q]at mu;exact nm mu
 refine⟨fun b u q n _ _=>k b u (hb b n) q,fun b u q n _ _=>⟨u.slots,k b u (hb b n) q⟩,fun b u q n _=>by rw[zt (hx b n)];exact n,fun b u q _=>?_,
  fun b xs q=>by rw[zt (hm b _ q fun z=>z)];exact q,fun b u xs q=>by rw[zt (hm b _ q fun z=>z)];exact q,fun b ps q=>⟨#[],by rw[zt (hm b _ q fun z=>z),q];simp⟩⟩
 by_cases hbe:b=e
 ·subst hbe;exact heo
 ·exact⟨u,k b u hbe q⟩
end
def trk(h:Heap)(H:Hp):List Addr:=(List.range h.objs.size).filter fun a=>(H a).isSome
def oE(h:Heap)(H:Hp):Heap:=PySem.W.hideAll h (trk h H)
def j7(h:Heap)(H:Hp):(oE h H).objs.size=h.objs.size:=PySem.W.hideAll_size _ _
def d3{h:Heap}{H:Hp}{b:Addr}{o:Obj}(e:h.get? b=some o)(n:H b=none):(oE h H).get? b=some o:=
 PySem.W.hideAll_get _ e fun hm=>by
  have q:(H b).isSome=true:=(List.mem_filter.mp hm).2
  rw[n]at q;simp at q
def ai{h:Heap}{H:Hp}{b:Addr}{o:Obj}(e:(oE h H).get? b=some o):h.get? b=some o∧H b=none:=by
 have e':h.get? b=some o:=PySem.W.of_hideAll (trk h H) e
 refine⟨e',?_⟩
 cases q:H b with
 | none=>rfl
 | some x=>
  have hm:b∈trk h H:=List.mem_filter.mpr ⟨List.mem_range.mpr (Heap.lt_size e'),by simp[q]⟩
  have z:(oE h H).get? b=none:=PySem.W.hideAll_none (trk h H) hm
  rw[z]at e;cases e
def VE(g h:Heap)(L:Addr):List (Addr×Obj):=(List.range h.objs.size).filterMap fun a=>if a=L∨(g.get? a).isSome=true then none else(h.get? a).map fun o=>(a,o)
def yG(g h:Heap)(L d:Addr):List (Addr×Obj):=(VE g h L).filter fun p=>decide (p.1≠d)
structure Mod(K:A_)(mg:be)(base:Heap):Prop where
 kin:K.In base
 glob:base.Ns mainGlobals mg
 blt:∃mb,base.Ns builtinsNs mb∧∀x:Str,x≠"__name__"→mb x=bootBuiltins x
 nolimit:base.NoLimit
structure Cx where
 prog:Program
 w:World
 K:PySem.W.Frag
 mg:Str→Option Value
 base:Heap
 A:Around
 N:List Str
 s₀:Shared
 H₀:Hp
 env:Env
 outer:List Env
 stack:List Env
 ex:List Addr
 fn:Str→Bool
 calm:Bool
 pn:List (Addr×Obj)
 xe:Value→Shared→Prop
def frs(l:List Env):List Addr:=l.filterMap (·.frame)
abbrev Cx.fs(X:Cx):List Addr:=frs X.outer
def Vis(sc:Scope)(x:Str):Prop:=sc.names.lookup x=some .local∨sc.names.lookup x=some .cell∨sc.names.lookup x=some .free
def Loc(sc:Scope)(x:Str):Prop:=sc.names.lookup x=some .local∨sc.names.lookup x=some .cell
def Ld(env:Env)(h:Heap)(m:be)(x:Str)(u:Value):Prop:=
 (env.kindOf x=some .local∧m x=some u)∨((env.kindOf x=some .cell∨env.kindOf x=some .free)∧∃c,env.cells.lookup x=some c∧h.IsCell c (some u))
structure Cx.Ok(X:Cx):Prop where
 mod:Mod X.K X.mg X.base
 kind:X.env.scope.kind=.function
 glob:X.env.globals=mainGlobals
 blt:X.env.builtins=builtinsNs
 above:X.s₀.heap.objs.size≤X.env.locals
 inj:∀x y c,X.env.cells.lookup x=some c→X.env.cells.lookup y=some c→x=y
 has:∀x,(X.env.kindOf x=some .cell∨X.env.kindOf x=some .free)→∃c,X.env.cells.lookup x=some c
 cab:∀x c,X.fn x=true→X.env.cells.lookup x=some c→X.s₀.heap.objs.size≤c
 hd:X.calm=true→X.A.handled=none
 frames:X.A.frames=some X.stack
 stk:X.stack=X.outer∨(X.stack=X.env::X.outer∧X.env.frame=some X.env.locals)
 exf:∀b∈X.ex,b≠X.env.locals∧∀x c,X.env.cells.lookup x=some c→c≠b
 bs:∀b o,X.base.get? b=some o→X.s₀.heap.get? b=some o∧X.H₀ b=none
 bsz:X.base.objs.size≤X.s₀.heap.objs.size
 noex:∀b o,X.base.get? b=some o→b∉X.ex
 exfs:∀b∈X.ex,b∉X.fs
 funs:X.s₀.heap.FunFrames X.base X.outer
 frf:∀b∈X.fs,X.H₀ b=none
structure Inv(X:Cx)(Aa:am)(σ:List (Option V))(H:Hp)(s:Shared):Prop where
 ok:X.Ok
 os:s.os=X.s₀.os
 bare:AllBare s.gens
 base:Un X.fs X.ex X.H₀ H X.s₀.heap s.heap
 loc:∃m,s.heap.Ns X.env.locals m∧∀(i:Nat)(x:Str)(v:V),X.N[i]? = some x→σ[i]? = some (some v)→Vis X.env.scope x→∃u,RelV v u∧Ld X.env s.heap m x u
 cell:∀x c,X.env.cells.lookup x=some c→∃v,s.heap.IsCell c v
 free:H X.env.locals=none
 freeC:∀x c,X.env.cells.lookup x=some c→H c=none
 pin:∀p∈X.pn++Aa,s.heap.get? p.1=some p.2∧H p.1=none∧p.1≠X.env.locals∧p.1∉X.fs∧∀v,p.2.data≠.cell v
 hok:HOk X.prog X.w H s.heap
 len:σ.length=X.N.length
section
variable{X:Cx}{Aa:am}{σ:List (Option V)}{H H':Hp}{s:Shared}{h':Heap}
def Cx.Ok.nofr(ok:X.Ok){b:Addr}{o:Obj}(e:X.base.get? b=some o):b∉X.fs:=fun hb=>by
 have:=(ok.funs.mem hb).1
 rw[e]at this;cases this
def Inv.bs(I:Inv X Aa σ H s):∀b o,X.base.get? b=some o→s.heap.get? b=some o∧H b=none:=fun b o e=>
 ⟨I.base.keep b o (I.ok.bs b o e).1 (I.ok.bs b o e).2 (I.ok.nofr e) (I.ok.noex b o e),I.base.free b o (I.ok.bs b o e).1 (I.ok.bs b o e).2 (I.ok.noex b o e)⟩
def Inv.bk(I:Inv X Aa σ H s):∀b o,X.base.get? b=some o→s.heap.get? b=some o:=fun b o e=>(I.bs b o e).1
def Inv.mod(I:Inv X Aa σ H s):Mod X.K X.mg X.base:=I.ok.mod
def Inv.kIn(I:Inv X Aa σ H s):X.K.In s.heap:=I.ok.mod.kin.keeps I.bk
def Inv.lt(I:Inv X Aa σ H s):X.env.locals<s.heap.objs.size:=let⟨_,hn,_⟩:=I.loc;hn.lt
def Inv.sz(I:Inv X Aa σ H s):X.s₀.heap.objs.size≤s.heap.objs.size:=Br I.ok.above (Nat.le_of_lt I.lt)
def Inv.nofs(I:Inv X Aa σ H s){a:Addr}(h:s.heap.objs.size≤a):a∉X.fs:=fun hb=>by
 obtain⟨_,o,ho,_⟩:=I.ok.funs.mem hb
 exact absurd (Bj (Heap.lt_size ho) (Br I.sz h)) (BM _)
def Inv.cne(I:Inv X Aa σ H s):∀x c,X.env.cells.lookup x=some c→c≠X.env.locals:=fun x c e z=>by
 obtain⟨v,o,ho,hd⟩:=I.cell x c e
 obtain⟨m,⟨o',es,ep,ho',hd',_⟩,_⟩:=I.loc
 rw[z,ho']at ho;cases ho;rw[hd']at hd;cases hd
def Inv.funs(I:Inv X Aa σ H s):s.heap.FunFrames X.base X.outer:=by
 have all:∀(l:List Env),(∀b∈frs l,b∈X.fs)→X.s₀.heap.FunFrames X.base l→s.heap.FunFrames X.base l:=by
  intro l
  induction l with
  | nil=>intro _ _;trivial
  | cons env r ih=>
   intro hs hl
   obtain⟨hk,⟨L,o,hf,hn,ho,hd⟩,hr⟩:=hl
   have hL:L∈X.fs:=hs L (by unfold frs;rw[List.filterMap_cons,hf];exact List.mem_cons_self)
   obtain⟨sl,e⟩:=I.base.slot L o ho (I.ok.frf L hL) hL fun z=>I.ok.exfs L z hL
   exact⟨hk,⟨L,_,hf,hn,e,hd⟩,ih (fun b hb=>hs b (by unfold frs;rw[List.filterMap_cons,hf];exact List.mem_cons_of_mem _ hb)) hr⟩
 exact all X.outer (fun _ hb=>hb) I.ok.funs
def Inv.stack(I:Inv X Aa σ H s):s.heap.FunFrames X.base X.stack:=by
 rcases I.ok.stk with e|⟨e,hf⟩
 ·rw[e];exact I.funs
 ·rw[e]
  obtain⟨m,hn,_⟩:=I.loc
  refine .cons (by rw[I.ok.kind];decide) hf hn ?_ I.funs
  exact Heap.get?_none_of_le (Br I.ok.bsz I.ok.above)
def Inv.stkSub(I:Inv X Aa σ H s):∀b∈frs X.stack,b∈X.env.locals::X.fs:=fun b hb=>by
 rcases I.ok.stk with e|⟨e,hf⟩
 ·rw[e]at hb;exact Bd _ hb
 ·rw[e]at hb
  unfold frs at hb
  rw[List.filterMap_cons,hf]at hb
  exact hb
def Inv.stkFree(I:Inv X Aa σ H s):∀b∈frs X.stack,H b=none:=fun b hb=>by
 rcases Bk.mp (I.stkSub b hb) with e|hb
 ·rw[e];exact I.free
 ·obtain⟨_,o,ho,_⟩:=I.ok.funs.mem hb
  exact I.base.free b o ho (I.ok.frf b hb) fun z=>I.ok.exfs b z hb
theorem Inv.step{g':Array GenState}{t':Nat}{d':Drawn}{ch:List Addr}(I:Inv X Aa σ H s)
  (hch:∀b∈ch,(b∈X.ex∨X.s₀.heap.objs.size≤b)∧b≠X.env.locals∧(∀x c,X.env.cells.lookup x=some c→c≠b)∧∀p∈X.pn++Aa,p.1≠b)
  (keep:∀b o,b≠X.env.locals→b∉X.fs→b∉ch→s.heap.get? b=some o→H b=none→h'.get? b=some o)
  (slot:∀b o,b≠X.env.locals→b∈X.fs→b∉ch→s.heap.get? b=some o→H b=none→∃sl,h'.get? b=some { o with slots:=sl }) (free:∀b o,b∉ch→s.heap.get? b=some o→H b=none→H' b=none)
  (there:∀b o,b∉ch→s.heap.get? b=some o→∃o',h'.get? b=some o')
  (tups:∀b xs,H b=some (.tup xs)→H' b=some (.tup xs)) (frzs:∀b o u,H b=some (.frz o u)→H' b=some (.frz o u)) (tbls:∀b ps,H b=some (.tbl ps)→∃more,H' b=some (.tbl (ps++more)))
  (ns:∀m,s.heap.Ns X.env.locals m→h'.Ns X.env.locals m) (hok:HOk X.prog X.w H' h') (hg:AllBare g'):
  Inv X Aa σ H' { s with heap:=h',gens:=g',drawn:=d',toks:=t' }:=by
 have neL:∀b o,X.s₀.heap.get? b=some o→b≠X.env.locals:=fun b o e=>Bl (Bj (Heap.lt_size e) I.ok.above)
 have neC:∀b o,X.s₀.heap.get? b=some o→b∉X.ex→b∉ch:=fun b o e hx hb=>by
  rcases(hch b hb).1 with z|z
  ·exact hx z
  ·exact absurd (Bj (Heap.lt_size e) z) (BM _)
 have cellK:∀x c,X.env.cells.lookup x=some c→∀v,s.heap.IsCell c v→h'.IsCell c v:=fun x c e v ⟨o,ho,hd⟩=>by
  have nch:c∉ch:=fun z=>(hch c z).2.2.1 x c e rfl
  by_cases hc:c∈X.fs
  ·obtain⟨sl,q⟩:=slot c o (I.cne x c e) hc nch ho (I.freeC x c e)
   exact⟨_,q,hd⟩
  ·exact⟨o,keep c o (I.cne x c e) hc nch ho (I.freeC x c e),hd⟩
 refine⟨I.ok,I.os,hg,⟨fun b o e n hb hx=>?_,fun b o e n hb hx=>?_,fun b o e n hx=>?_,fun b o e hx=>?_,fun b xs e=>tups b xs (I.base.tups b xs e),fun b o xs e=>frzs b o xs (I.base.frzs b o xs e),fun b ps e=>?_⟩,?_,fun x c e=>?_,?_,fun x c e=>?_,fun p hp=>?_,hok,I.len⟩
 ·exact keep b o (neL b o e) hb (neC b o e hx) (I.base.keep b o e n hb hx) (I.base.free b o e n hx)
 ·obtain⟨sl,e1⟩:=I.base.slot b o e n hb hx
  obtain⟨sl',e2⟩:=slot b _ (neL b o e) hb (neC b o e hx) e1 (I.base.free b o e n hx)
  exact⟨sl',e2⟩
 ·obtain⟨o',e1⟩:=I.base.there b o e hx
  exact free b o' (neC b o e hx) e1 (I.base.free b o e n hx)
 ·obtain⟨o',e1⟩:=I.base.there b o e hx
  exact there b o' (neC b o e hx) e1
 ·obtain⟨m1,e1⟩:=I.base.tbls b ps e
  obtain⟨m2,e2⟩:=tbls b _ e1
  exact⟨m1++m2,by rw[e2,Array.append_assoc]⟩
 ·obtain⟨m,hn,hl⟩:=I.loc
  refine⟨m,ns m hn,fun i x v e1 e2 e3=>?_⟩
  obtain⟨u,r,l⟩:=hl i x v e1 e2 e3
  refine⟨u,r,?_⟩
  rcases l with l|⟨k,c,e,z⟩
  ·exact .inl l
  ·exact .inr ⟨k,c,e,cellK x c e _ z⟩
 ·obtain⟨v,z⟩:=I.cell x c e
  exact⟨v,cellK x c e v z⟩
 ·obtain⟨m,⟨o,_,_,ho,_⟩,_⟩:=I.loc
  exact free _ o (fun z=>(hch _ z).2.1 rfl) ho I.free
 ·obtain⟨v,o,ho,hd⟩:=I.cell x c e
  exact free c o (fun z=>(hch c z).2.2.1 x c e rfl) ho (I.freeC x c e)
 ·obtain⟨e,n,ne,nf,d⟩:=I.pin p hp
  have nch:p.1∉ch:=fun z=>(hch p.1 z).2.2.2 p hp rfl
  exact⟨keep p.1 p.2 ne nf nch e n,free p.1 p.2 nch e n,ne,nf,d⟩
def Inv.un{t':Nat}(I:Inv X Aa σ H s)(u:Un X.fs [] H H' s.heap h')(hok:HOk X.prog X.w H' h'):Inv X Aa σ H' { s with heap:=h',toks:=t' }:=by
 obtain⟨m,⟨o,es,ep,ho,r⟩,_⟩:=id I.loc
 obtain⟨sl,hL⟩:=u.any ho I.free (by simp)
 exact I.step (g':=s.gens) (d':=s.drawn) (ch:=[]) (fun _ z=>nomatch z) (fun b o _ hb _ e n=>u.keep b o e n hb (by simp)) (fun b o _ hb _ e n=>u.slot b o e n hb (by simp)) (fun b o _ e n=>u.free b o e n (by simp)) (fun b o _ e=>u.there b o e (by simp)) u.tups u.frzs u.tbls (fun m' hm=>by
  obtain⟨o',es',ep',ho',r'⟩:=hm
  rw[ho]at ho';cases ho'
  exact⟨_,es',ep',hL,r'⟩) hok I.bare
theorem Inv.call{g':Array GenState}{t':Nat}{d':Drawn}{ch:List Addr}(I:Inv X Aa σ H s)(u:Un (frs X.stack) ch H H' s.heap h')(hok:HOk X.prog X.w H' h')(hg:AllBare g')
  (hch:∀b∈ch,(b∈X.ex∨X.s₀.heap.objs.size≤b)∧b≠X.env.locals∧(∀x c,X.env.cells.lookup x=some c→c≠b)∧∀p∈X.pn++Aa,p.1≠b):
  Inv X Aa σ H' { s with heap:=h',gens:=g',drawn:=d',toks:=t' }:=by
 obtain⟨m,⟨o,es,ep,ho,r⟩,_⟩:=id I.loc
 obtain⟨sl,hL⟩:=u.any ho I.free fun z=>(hch _ z).2.1 rfl
 exact I.step (ch:=ch) hch (fun b o hL hb hc e n=>u.keep b o e n (fun z=>(Bk.mp (I.stkSub b z)).elim hL hb) hc) (fun b o _ _ hc e n=>u.any e n hc) (fun b o hc e n=>u.free b o e n hc) (fun b o hc e=>u.there b o e hc) u.tups u.frzs u.tbls (fun m' hm=>by
  obtain⟨o',es',ep',ho',r'⟩:=hm
  rw[ho]at ho';cases ho'
  exact⟨_,es',ep',hL,r'⟩) hok hg
theorem Inv.turned{t':Nat}{it:Addr}(I:Inv X Aa σ H s)(k:∀b o,b≠it→s.heap.get? b=some o→h'.get? b=some o)(hn:H it=none)(hL:it≠X.env.locals)
  (h1:it∈X.ex∨X.s₀.heap.objs.size≤it) (h2:∀x c,X.env.cells.lookup x=some c→c≠it) (h3:∀p∈X.pn++Aa,p.1≠it):Inv X Aa σ H { s with heap:=h',toks:=t' }:=by
 have nit:∀b u,H b=some u→b≠it:=fun b u e z=>by rw[z,hn]at e;cases e
 refine I.step (g':=s.gens) (d':=s.drawn) (ch:=[it]) (fun b hb=>?_) (fun b o _ _ hc e _=>k b o (fun z=>hc (by simp[z])) e) (fun b o _ _ hc e _=>⟨o.slots,k b o (fun z=>hc (by simp[z])) e⟩) (fun _ _ _ _ n=>n)
  (fun b o hc e=>⟨o,k b o (fun z=>hc (by simp[z])) e⟩) (fun _ _ e=>e) (fun _ _ _ e=>e) (fun b ps e=>⟨#[],by rw[e];simp⟩) (fun m hm=>?_) (fun b u e=>?_) I.bare
 ·have e:b=it:=by simpa using hb
  subst e
  exact⟨h1,hL,h2,h3⟩
 ·obtain⟨o,es,ep,ho,r⟩:=hm
  exact⟨o,es,ep,k _ o (Ne.symm hL) ho,r⟩
 ·refine(I.hok b u e).stay (fun c v hc q=>k c v ?_ q) (fun _ q=>q) fun _ _ q=>q
  rcases hc with z|z
  ·rw[z];exact nit b u e
  ·exact nit c _ z
def Inv.tok(I:Inv X Aa σ H s)(t:Nat):Inv X Aa σ H { s with toks:=t }:=I.un (h':=s.heap) (t':=t) Un.refl I.hok
def Inv.kept{t':Nat}(I:Inv X Aa σ H s)(k:∀b u,s.heap.get? b=some u→h'.get? b=some u):Inv X Aa σ H { s with heap:=h',toks:=t' }:=I.un (Un.kept k) (I.hok.kept k)
theorem Inv.laid{a:Addr}{o:HO}{t':Nat}(I:Inv X Aa σ H s)(k:∀b u,s.heap.get? b=some u→h'.get? b=some u)(hp:s.heap.objs.size≤a)(new:ObjOk X.prog X.w (upd H a o) h' a o):
  Inv X Aa σ (upd H a o) { s with heap:=h',toks:=t' }:=I.un (Un.laid k hp (I.hok.fresh hp)) (I.hok.laid k hp new)
theorem Inv.write{x e:Addr}{o:HO}{t':Nat}(I:Inv X Aa σ H s)(mu:Mut (H x))(he:e=x∨H e=some (.own x))(k:∀b u,b≠e→s.heap.get? b=some u→h'.get? b=some u)(heo:∃u,h'.get? e=some u)
  (new:ObjOk X.prog X.w (upd H x o) h' x o):Inv X Aa σ (upd H x o) { s with heap:=h',toks:=t' }:=I.un (Un.write mu he k heo) (I.hok.write mu he k heo new)
def Inv.pins_of{pins':am}(I:Inv X Aa σ H s)(h:∀p∈pins',s.heap.get? p.1=some p.2∧H p.1=none∧p.1≠X.env.locals∧p.1∉X.fs∧∀v,p.2.data≠.cell v):Inv X pins' σ H s:=
 ⟨I.ok,I.os,I.bare,I.base,I.loc,I.cell,I.free,I.freeC,fun p hp=>(Bx.mp hp).elim (fun z=>I.pin p (List.mem_append_left _ z)) (h p),I.hok,I.len⟩
def rA{N:List Str}(hN:N.Nodup){i j:Nat}{x:Str}(a:N[i]? = some x)(b:N[j]? = some x):i=j:=by
 obtain⟨h1,e1⟩:=BG.mp a
 obtain⟨h2,e2⟩:=BG.mp b
 exact(List.getElem_inj hN).mp (e1.trans e2.symm)
theorem qH{M:Model}{A:Around}{E:cp}{i:Nat}{x:Str}{v:V}{u:Value}{Q:Unit→Shared→Prop}(I:Inv X Aa σ H s)(hN:X.N.Nodup)(hi:X.N[i]? = some x)(hx:Loc X.env.scope x)(r:RelV v u)
  (h:∀s',Inv X Aa (σ.set i (some v)) H s'→(∃a,Heap.SameBut a s.heap s'.heap∧(a=X.env.locals∨X.env.cells.lookup x=some a))→Q () s') (hf:X.fn x=true∨X.env.scope.names.lookup x=some .local:=by walk_at "f"):wpAny M A (storeName X.env x u) Q E s:=by
 obtain⟨m,hn,hl⟩:=id I.loc
 have hcls:(X.env.scope.kind == .class||(X.env.scope.kind == .module&&X.env.locals != X.env.globals))=false:=by rw[I.ok.kind];rfl
 have hiσ:i<σ.length:=by rw[I.len];exact(BG.mp hi).1
 have cne:=I.cne
 have tracked:∀{a:Addr}{h':Heap},(∃o,s.heap.get? a=some o∧H a=none)→Heap.SameBut a s.heap h'→HOk X.prog X.w H h':=fun{a h'} ha hs b ob e=>by
  obtain⟨_,_,hfree⟩:=ha
  refine(I.hok b ob e).stay (fun c w' hc q=>(hs.2 c ?_).trans q) (fun _ q=>q) fun _ _ q=>q
  rintro rfl
  rcases hc with rfl|hc
  ·rw[hfree]at e;cases e
  ·rw[hfree]at hc;cases hc
 rcases hx with hk|hk
 ·refine wpAny_storeName_local hk hn (fun h' hn' hs=>?_) hcls
  obtain⟨oL,_,_,hoL,_⟩:=id hn
  refine h _ ⟨I.ok,I.os,I.bare,⟨fun b o e n hb hx=>?_,fun b o e n hb hx=>?_,I.base.free,fun b o e hx=>?_,I.base.tups,I.base.frzs,I.base.tbls⟩,⟨_,hn',fun j y v' e1 e2 e3=>?_⟩,fun y c e=>?_,I.free,I.freeC,fun p hp=>?_,tracked ⟨oL,hoL,I.free⟩ hs,by simpa using I.len⟩ ⟨_,hs,.inl rfl⟩
  ·exact(hs.2 b (Bl (Bj (Heap.lt_size e) I.ok.above))).trans (I.base.keep b o e n hb hx)
  ·obtain⟨sl,e1⟩:=I.base.slot b o e n hb hx
   exact⟨sl,(hs.2 b (Bl (Bj (Heap.lt_size e) I.ok.above))).trans e1⟩
  ·obtain⟨o',e1⟩:=I.base.there b o e hx
   exact⟨o',(hs.2 b (Bl (Bj (Heap.lt_size e) I.ok.above))).trans e1⟩
  ·by_cases hj:j=i
   ·subst hj
    rw[hi]at e1;cases e1
    rw[Bu hiσ]at e2
    cases e2
    exact⟨u,r,.inl ⟨hk,by simp⟩⟩
   ·rw[Be (Ne.symm hj)]at e2
    obtain⟨u',r',q⟩:=hl j y v' e1 e2 e3
    refine⟨u',r',?_⟩
    rcases q with ⟨k,e⟩|⟨k,c,e,z⟩
    ·refine .inl ⟨k,?_⟩
     have:y≠x:=fun e=>hj (rA hN e1 (e ▸ hi))
     simp[this,e]
    ·exact .inr ⟨k,c,e,z.sameBut hs (cne y c e)⟩
  ·obtain⟨w',z⟩:=I.cell y c e
   exact⟨w',z.sameBut hs (cne y c e)⟩
  ·obtain⟨e,n,ne,nf,d⟩:=I.pin p hp
   exact⟨(hs.2 p.1 ne).trans e,n,ne,nf,d⟩
 ·have hfn:X.fn x=true:=by
   rcases hf with z|z
   ·exact z
   ·rw[z]at hk;cases hk
  obtain⟨c,hc⟩:=I.ok.has x (.inl hk)
  obtain⟨w',z⟩:=I.cell x c hc
  refine wpAny_storeName_cell I.ok.kind hk hc z (fun h' hc' hs=>?_)
  obtain⟨oc,hoc,hocd⟩:=id z
  refine h { s with heap:=h' } ⟨I.ok,I.os,I.bare,⟨fun b o e n hb hx=>?_,fun b o e n hb hx=>?_,I.base.free,fun b o e hx=>?_,I.base.tups,I.base.frzs,I.base.tbls⟩,⟨m,hn.sameBut hs (Ne.symm (cne x c hc)),fun j y v' e1 e2 e3=>?_⟩,fun y c' e=>?_,I.free,I.freeC,fun p hp=>?_,tracked ⟨oc,hoc,I.freeC x c hc⟩ hs,by simpa using I.len⟩ ⟨c,hs,.inr hc⟩
  ·exact(hs.2 b (Bl (Bj (Heap.lt_size e) (I.ok.cab x c hfn hc)))).trans (I.base.keep b o e n hb hx)
  ·obtain⟨sl,e1⟩:=I.base.slot b o e n hb hx
   exact⟨sl,(hs.2 b (Bl (Bj (Heap.lt_size e) (I.ok.cab x c hfn hc)))).trans e1⟩
  ·obtain⟨o',e1⟩:=I.base.there b o e hx
   exact⟨o',(hs.2 b (Bl (Bj (Heap.lt_size e) (I.ok.cab x c hfn hc)))).trans e1⟩
  ·by_cases hj:j=i
   ·subst hj
    rw[hi]at e1;cases e1
    rw[Bu hiσ]at e2
    cases e2
    exact⟨u,r,.inr ⟨.inl hk,c,hc,hc'⟩⟩
   ·rw[Be (Ne.symm hj)]at e2
    obtain⟨u',r',q⟩:=hl j y v' e1 e2 e3
    refine⟨u',r',?_⟩
    rcases q with q|⟨k,c',e,z'⟩
    ·exact .inl q
    ·refine .inr ⟨k,c',e,z'.sameBut hs ?_⟩
     rintro rfl
     exact hj (rA hN e1 (I.ok.inj _ _ _ e hc ▸ hi))
  ·by_cases hcc:c'=c
   ·subst hcc;exact⟨_,hc'⟩
   ·obtain⟨w2,z2⟩:=I.cell y c' e
    exact⟨w2,z2.sameBut hs hcc⟩
  ·obtain⟨e,n,ne,nf,d⟩:=I.pin p hp
   refine⟨(hs.2 p.1 ?_).trans e,n,ne,nf,d⟩
   intro q
   rw[q,hoc]at e
   have q':oc=p.2:=Option.some.inj e
   exact d w' (by rw[←q'];exact hocd)
theorem wK{M:Model}{A:Around}{E:cp}{i:Nat}{x:Str}{v:V}{u:Value}{Q:Unit→Shared→Prop}(I:Inv X Aa σ H s)(hN:X.N.Nodup)(hi:X.N[i]? = some x)(hx:Loc X.env.scope x)(r:RelV v u)
  (h:∀s',Inv X Aa (σ.set i (some v)) H s'→Q () s') (hf:X.fn x=true∨X.env.scope.names.lookup x=some .local:=by walk_at "f"):wpAny M A (storeName X.env x u) Q E s:=
 qH I hN hi hx r (fun s' I' _=>h s' I') hf
theorem Inv.call'{s':Shared}{ch:List Addr}(I:Inv X Aa σ H s)(ho:s'.os=s.os)(u:Un (frs X.stack) ch H H' s.heap s'.heap)(hok:HOk X.prog X.w H' s'.heap)(hg:AllBare s'.gens)
  (hch:∀b∈ch,(b∈X.ex∨X.s₀.heap.objs.size≤b)∧b≠X.env.locals∧(∀x c,X.env.cells.lookup x=some c→c≠b)∧∀p∈X.pn++Aa,p.1≠b):Inv X Aa σ H' s':=by
 obtain⟨h',g',d',t',o'⟩:=s'
 have e:o'=s.os:=ho
 subst e
 exact I.call (g':=g') (t':=t') (d':=d') u hok hg hch
end
abbrev XK:=Value→Option Addr→Hp→Prop
abbrev St:=List (Option V)
abbrev VK:=V→Hp→Prop
abbrev TE:=St→Hp→VK→Prop
abbrev TT:=St→Hp→(Bool→Hp→Prop)→Prop
abbrev TA:=St→Hp→(List V→Hp→Prop)→Prop
structure Ends where
 nx:St→Hp→Prop
 rt:VK
 bk:St→Hp→Prop:=fun _ _=>False
 ct:St→Hp→Prop:=fun _ _=>False
abbrev TS:=Ends→St→Hp→Prop
def EP(X:Cx)(Aa:am)(σ:St)(Q:VK)(u:Value)(s':Shared):Prop:=∃v H',Inv X Aa σ H' s'∧RelV v u∧Q v H'
def TP(X:Cx)(Aa:am)(σ:St)(Q:Bool→Hp→Prop)(b:Bool)(s':Shared):Prop:=∃H',Inv X Aa σ H' s'∧Q b H'
def AP(X:Cx)(Aa:am)(σ:St)(Q:List V→Hp→Prop)(us:List Value)(s':Shared):Prop:=∃vs H',Inv X Aa σ H' s'∧Vals vs us∧Q vs H'
def SP(X:Cx)(Aa:am)(D:Ends)(f:Flow)(s':Shared):Prop:=
 match f with
 | .next=>∃σ' H',Inv X Aa σ' H' s'∧D.nx σ' H'
 | .brk=>∃σ' H',Inv X Aa σ' H' s'∧D.bk σ' H'
 | .cont=>∃σ' H',Inv X Aa σ' H' s'∧D.ct σ' H'
 | .ret u=>∃v σ' H',Inv X Aa σ' H' s'∧RelV v u∧D.rt v H'
def PE(X:Cx)(e:Expr)(t:TE):Prop:=
 ∀(Aa:am)(s:Shared)(σ:St)(H:Hp)(Q:VK),Inv X Aa σ H s→t σ H Q→wpAny (model X.prog X.w) X.A (eval e X.env) (EP X Aa σ Q) X.xe s
def PT(X:Cx)(e:Expr)(t:TT):Prop:=
 ∀(Aa:am)(s:Shared)(σ:St)(H:Hp)(Q:Bool→Hp→Prop),Inv X Aa σ H s→t σ H Q→wpAny (model X.prog X.w) X.A (isTrue e X.env (eval e X.env)) (TP X Aa σ Q) X.xe s
def PW(X:Cx)(e:Expr)(t:TT):Prop:=
 ∀(whole:Sem Value)(Aa:am)(s:Shared)(σ:St)(H:Hp)(Q:Bool→Hp→Prop),Inv X Aa σ H s→t σ H Q→wpAny (model X.prog X.w) X.A (isTrue e X.env whole) (TP X Aa σ Q) X.xe s
def PW.pt{X:Cx}{e:Expr}{t:TT}(h:PW X e t):PT X e t:=h _
def PA(X:Cx)(es:List Expr)(t:TA):Prop:=
 ∀(pos:Pos)(Aa:am)(s:Shared)(σ:St)(H:Hp)(Q:List V→Hp→Prop),Inv X Aa σ H s→t σ H Q→wpAny (model X.prog X.w) X.A (spliced (backTo pos (starEach es X.env))) (AP X Aa σ Q) X.xe s
def PS(X:Cx)(st:Stmt)(t:TS):Prop:=
 ∀(Aa:am)(s:Shared)(σ:St)(H:Hp)(D:Ends),Inv X Aa σ H s→t D σ H→wpAny (model X.prog X.w) X.A (exec st X.env) (SP X Aa D) X.xe s
def PSs(X:Cx)(st:List Stmt)(t:TS):Prop:=
 ∀(Aa:am)(s:Shared)(σ:St)(H:Hp)(D:Ends),Inv X Aa σ H s→t D σ H→wpAny (model X.prog X.w) X.A (execs st X.env) (SP X Aa D) X.xe s
def thn{α:Type}{t:Sem α}{Q Q':α→Shared→Prop}{M:Model}{A:Around}{E:cp}{s:Shared}(h:wpAny M A t Q E s)(hQ:∀a s,Q a s→Q' a s):wpAny M A t Q' E s:=wpAny_mono h hQ fun _ _ x=>x
section
variable{X:Cx}
def iX(i:Nat):TE:=fun σ H Q=>∃v,σ[i]? = some (some v)∧Q v H
def tC(v:V):TE:=fun _ H Q=>Q v H
def yj{i:Nat}{x:Str}{pos:Pos}(hN:X.N[i]? = some x)(hv:Vis X.env.scope x)(hd:ug x:=by decide)(hcd:we x:=by decide):PE X (.Name x pos) (iX i):=by
 intro Aa s σ H Q I h
 obtain⟨v,e,h⟩:=h
 obtain⟨m,hn,hl⟩:=I.loc
 obtain⟨u,r,l⟩:=hl i x v hN e hv
 have fin:EP X Aa σ Q u s:=⟨v,H,I,r,h⟩
 rcases l with ⟨hk,hm⟩|⟨hk,c,hc,hcell⟩
 ·exact wpAny_Name (wpAny_loadName_local I.ok.kind hk hn hm fin) hd
 ·rcases hk with hk|hk
  ·exact wpAny_Name (wpAny_loadName_cell I.ok.kind hk hc hcell fin) hd
  ·exact wpAny_Name (wpAny_loadName_free I.ok.kind hk hc hcell fin hcd) hd
def gi{i j pos}:PE X (.Constant (.int i) j pos) (tC (.int i)):=fun _ _ _ H _ I h=>wpAny_Constant_int ⟨.int i,H,I.tok _,⟨_,rfl⟩,h⟩
def Pz{b j pos}:PE X (.Constant (.bool b) j pos) (tC (.bl b)):=fun _ _ _ H _ I h=>Constant_bool ⟨.bl b,H,I,rfl,h⟩
def UZ{j pos}:PE X (.Constant .none j pos) (tC .non):=fun _ _ _ H _ I h=>Constant_none ⟨.non,H,I,rfl,h⟩
def UW{x j pos}:PE X (.Constant (.str x) j pos) (tC (.str x)):=fun _ _ _ H _ I h=>Calls.Constant_str ⟨.str x,H,I.tok _,⟨_,rfl⟩,h⟩
def Gl(X:Cx)(x:Str):Prop:=X.env.kindOf x=some .globalImplicit
theorem yT{E:cp}{Aa:am}{s:Shared}{σ:St}{H:Hp}{x:Str}{u:Value}{pos:Pos}{Q:cp}(I:Inv X Aa σ H s)(hg:Gl X x)(hm:X.mg x=some u)(h:Q u s)
  (hd:ug x:=by decide):wpAny (model X.prog X.w) X.A (eval (.Name x pos) X.env) Q E s:=
 Calls.Name_function_global I.ok.kind hg (Calls.loadGlobal_global (by rw[I.ok.glob];exact I.mod.glob.keeps I.bk) hm h) hd
theorem xY{E:cp}{Aa:am}{s:Shared}{σ:St}{H:Hp}{x:Str}{u:Value}{pos:Pos}{Q:cp}(I:Inv X Aa σ H s)(hg:Gl X x)(hm:X.mg x=none)(hv:bootBuiltins x=some u)(h:Q u s)
  (hn:x≠"__name__":=by decide) (hd:ug x:=by decide):wpAny (model X.prog X.w) X.A (eval (.Name x pos) X.env) Q E s:=by
 obtain⟨mb,h1,h2⟩:=I.mod.blt
 exact Calls.Name_function_global I.ok.kind hg (Calls.loadGlobal_builtin (by rw[I.ok.glob];exact I.mod.glob.keeps I.bk) hm (by rw[I.ok.blt];exact h1.keeps I.bk) ((h2 x hn).trans hv) h) hd
def sw{x:Str}{v:V}{u:Value}{pos:Pos}(hg:Gl X x)(hm:X.mg x=some u)(r:RelV v u)(hd:ug x:=by decide):PE X (.Name x pos) (tC v):=
 fun _ _ _ H _ I h=>yT I hg hm ⟨v,H,I,r,h⟩ hd
def bW{x:Str}{v:V}{u:Value}{pos:Pos}(hg:Gl X x)(hm:X.mg x=none)(hv:bootBuiltins x=some u)(r:RelV v u)(hn:x≠"__name__":=by decide)(hd:ug x:=by decide):PE X (.Name x pos) (tC v):=
 fun _ _ _ H _ I h=>xY I hg hm hv ⟨v,H,I,r,h⟩ hn hd
variable{a b:Expr}{ta tb:TE}{pos:Pos}
def PC(X:Cx)(op:CmpOp)(a b:Expr)(t:TE):Prop:=
 ∀(Aa:am)(s:Shared)(σ:St)(H:Hp)(Q:VK),Inv X Aa σ H s→t σ H Q→
  wpAny (model X.prog X.w) X.A (eval a X.env) (fun v s₁=>wpAny (model X.prog X.w) X.A (eval b X.env) (fun u s₂=>wpAny (model X.prog X.w) X.A (compareOp op v u) (EP X Aa σ Q) X.xe s₂) X.xe s₁) X.xe s
def dA(b:Expr){op:CmpOp}(h:op≠.In)(h2:op≠.NotIn):behindInMarks op b=false:=by
 have e1:(op==CmpOp.In)=false:=by cases op<;>first|rfl|exact absurd rfl h
 have e2:(op==CmpOp.NotIn)=false:=by cases op<;>first|rfl|exact absurd rfl h2
 cases b<;>simp[behindInMarks,e1,e2]
def Pj(ta:TE):TE:=fun σ H Q=>ta σ H fun x H1=>Q (.bl (decide (x=.non))) H1
def RelV.none_iff{x:V}{v:Value}(r:RelV x v):(v==Value.none)=decide (x=.non):=by
 cases x with
 | non=>cases r;rfl
 | bl _=>cases r;rfl
 | int _=>obtain⟨t,rfl⟩:=r;rfl
 | str _=>obtain⟨t,rfl⟩:=r;rfl
 | byt _=>obtain⟨t,rfl⟩:=r;rfl
 | flt _=>obtain⟨t,rfl⟩:=r;rfl
 | ref _=>cases r;rfl
 | ty _=>cases r;rfl
def Te{j pos'}(ha:PE X a ta):PC X .Is a (.Constant .none j pos') (Pj ta):=by
 intro Aa s σ H Q I h
 refine thn (ha Aa s σ H _ I h) fun v s1 zz=>?_
 obtain⟨x,H1,I1,r1,q1⟩:=zz
 exact Constant_none (is_none_gen ⟨.bl _,H1,I1,by rw[r1.none_iff];rfl,q1⟩)
def tB(t:TE):TT:=fun σ H Q=>t σ H fun x H1=>∃c,x=.bl c∧Q c H1
def UN{op:CmpOp}{t:TE}(h:PC X op a b t)(h1:behindInMarks op b=false:=by first|exact dA _ (by decide) (by decide)|rfl):PT X (.Compare a [op] [b] pos) (tB t):=by
 intro Aa s σ H Q I hw
 refine wpAny_isTrue_Compare1 (thn (h Aa s σ H _ I hw) fun v s1 h1=>thn h1 fun u s2 h2=>thn h2 fun c s3 zz=>?_) h1
 obtain⟨x,H1,I1,r1,q1⟩:=zz
 obtain⟨d,rfl,q⟩:=q1
 cases r1
 exact wpAny_truthy_bool ⟨H1,I1,q⟩
def UL{e:Expr}{t:TE}(h:PE X e t)(he:∀whole,isTrue e X.env whole=(do let v ←whole;standAt e.pos;holding [v] (truthy v)):=by intro _;rfl):PT X e (tB t):=by
 intro Aa s σ H Q I hw
 refine isTrue_plain (thn (h Aa s σ H _ I hw) fun v s1 zz=>?_) (he _)
 obtain⟨x,H1,I1,r1,q1⟩:=zz
 obtain⟨d,rfl,q⟩:=q1
 cases r1
 exact wpAny_truthy_bool ⟨H1,I1,q⟩
variable{tA tB':TT}{yG:List Expr}
def N5(t u:TT):TT:=fun σ H Q=>t σ H fun c H1=>if c=true then u σ H1 Q else Q false H1
def tOr(t u:TT):TT:=fun σ H Q=>t σ H fun c H1=>if c=true then Q true H1 else u σ H1 Q
def NW(t:TT):TT:=fun σ H Q=>t σ H fun c H1=>Q (!c) H1
def bJ(ha:PT X a tA):PW X (.BoolOp .And [a] pos) tA:=by
 intro wh Aa s σ H Q I h
 refine isTrue_and (thn (ha Aa s σ H Q I h) fun c s1 e=>?_)
 cases c with
 | true=>exact isTrue_and_nil e
 | false=>exact e
def UJ(ha:PT X a tA):PW X (.BoolOp .Or [a] pos) tA:=by
 intro wh Aa s σ H Q I h
 refine isTrue_or (thn (ha Aa s σ H Q I h) fun c s1 e=>?_)
 cases c with
 | false=>exact isTrue_or_nil e
 | true=>exact e
def UK(ha:PT X a tA)(hb:PW X (.BoolOp .And (b::yG) pos) tB'):PW X (.BoolOp .And (a::b::yG) pos) (N5 tA tB'):=by
 intro wh Aa s σ H Q I h
 refine isTrue_and (thn (ha Aa s σ H _ I h) fun c s1 zz=>?_)
 obtain⟨H1,I1,q1⟩:=zz
 cases c with
 | true=>exact hb wh Aa s1 σ H1 Q I1 q1
 | false=>exact⟨H1,I1,q1⟩
def Pw(ha:PT X a tA)(hb:PW X (.BoolOp .Or (b::yG) pos) tB'):PW X (.BoolOp .Or (a::b::yG) pos) (tOr tA tB'):=by
 intro wh Aa s σ H Q I h
 refine isTrue_or (thn (ha Aa s σ H _ I h) fun c s1 zz=>?_)
 obtain⟨H1,I1,q1⟩:=zz
 cases c with
 | true=>exact⟨H1,I1,q1⟩
 | false=>exact hb wh Aa s1 σ H1 Q I1 q1
def UM(ha:PT X a tA):PT X (.UnaryOp .Not a pos) (NW tA):=by
 intro Aa s σ H Q I h
 exact isTrue_not (ha Aa s σ H (fun c H1=>Q (!c) H1) I h)
def Po(ta tb:TE):TE:=fun σ H Q=>ta σ H fun x H1=>∃c,x=.bl c∧if c=true then tb σ H1 Q else Q (.bl false) H1
def Pg(ta:TE):TE:=fun σ H Q=>ta σ H fun x H1=>∃c,x=.bl c∧Q (.bl (!c)) H1
def UX{op}{t:TE}(h:PE X a t):PE X (.BoolOp op [a] pos) t:=fun Aa s σ H Q I hw=>BoolOp_one (h Aa s σ H Q I hw)
def Tc(ha:PE X a ta)(hb:PE X (.BoolOp .And (b::yG) pos) tb):PE X (.BoolOp .And (a::b::yG) pos) (Po ta tb):=by
 intro Aa s σ H Q I h
 refine BoolOp_and (thn (ha Aa s σ H _ I h) fun v s1 zz=>?_)
 obtain⟨x,H1,I1,r1,q1⟩:=zz
 obtain⟨c,rfl,q1⟩:=q1
 cases r1
 refine wpAny_truthy_bool ?_
 cases c with
 | true=>exact hb Aa s1 σ H1 Q I1 q1
 | false=>exact⟨.bl false,H1,I1,rfl,q1⟩
def UY(ha:PE X a ta):PE X (.UnaryOp .Not a pos) (Pg ta):=by
 intro Aa s σ H Q I h
 refine UnaryOp_ (thn (ha Aa s σ H _ I h) fun v s1 zz=>?_)
 obtain⟨x,H1,I1,r1,q1⟩:=zz
 obtain⟨c,rfl,q1⟩:=q1
 cases r1
 exact not_of (wpAny_truthy_bool ⟨.bl (!c),H1,I1,rfl,q1⟩)
def tIf(t:TT)(ta tb:TE):TE:=fun σ H Q=>t σ H fun c H1=>if c=true then ta σ H1 Q else tb σ H1 Q
def gj{c:Expr}(hc:PT X c tA)(ha:PE X a ta)(hb:PE X b tb):PE X (.IfExp c a b pos) (tIf tA ta tb):=by
 intro Aa s σ H Q I h
 refine wpAny_IfExp (thn (hc Aa s σ H _ I h) fun d s1 zz=>?_)
 obtain⟨H1,I1,q1⟩:=zz
 cases d with
 | true=>exact ha Aa s1 σ H1 Q I1 q1
 | false=>exact hb Aa s1 σ H1 Q I1 q1
end
def SqL(K:A_)(H:Hp)(a:Addr)(xs:List V):Prop:=
 Rd H a (.lst xs)∨
  ∃(o:Obj)(its:Array Value)(n:Nat),K.lookup a=some o∧o.cls=.type "list"∧o.dict=none∧o.data=.seq its n∧its.size≤sizeLine∧Vals xs its.toList
def SqT(K:A_)(H:Hp)(a:Addr)(xs:List V):Prop:=
 Rd H a (.tup xs)∨
  ∃(o:Obj)(its:Array Value)(n:Nat),K.lookup a=some o∧o.cls=.type "tuple"∧o.data=.seq its n∧its.size≤sizeLine∧Vals xs its.toList
def M9:Value→Option V
 | .none=>some .non
 | .bool b=>some (.bl b)
 | .int i _=>some (.int i)
 | .str x _=>some (.str x)
 | .bytes b _=>some (.byt b)
 | .float b _=>some (.flt b)
 | .ref a=>some (.ref a)
 | .type n=>some (.ty n)
 | _=>none
def RelV.abs{x:V}{u:Value}(r:RelV x u):M9 u=some x:=by
 cases x with
 | non=>cases r;rfl
 | bl _=>cases r;rfl
 | int _=>obtain⟨t,rfl⟩:=r;rfl
 | str _=>obtain⟨t,rfl⟩:=r;rfl
 | byt _=>obtain⟨t,rfl⟩:=r;rfl
 | flt _=>obtain⟨t,rfl⟩:=r;rfl
 | ref _=>cases r;rfl
 | ty _=>cases r;rfl
def RelV.inj{x y:V}{u:Value}(r:RelV x u)(q:RelV y u):x=y:=Option.some.inj (r.abs.symm.trans q.abs)
theorem Vals.inj:∀{xs ys:List V}{us:List Value},Vals xs us→Vals ys us→xs=ys
 | _,_,_,.nil,.nil=>rfl
 | _,_,_,.cons r t,.cons r' t'=>by rw[r.inj r',Vals.inj t t']
section
variable{X:Cx}{Aa:am}{σ:St}{H:Hp}{s:Shared}{a:Addr}{xs ys:List V}
def SqL.of{K:A_}(h:H a=some (.lst xs)):SqL K H a xs:=.inl (.inl h)
def SqT.of{K:A_}(h:H a=some (.tup xs)):SqT K H a xs:=.inl (.inl h)
def Inv.list(I:Inv X Aa σ H s)(h:SqL X.K H a xs):∃its:List Value,Vals xs its∧PlainL s.heap a its.toArray∧xs.length≤sizeLine:=by
 rcases h with h|⟨o,its,n,hk,hc,hd,hs,hz,r⟩
 ·obtain⟨z,its,n,r,e⟩:=h.ok I.hok
  exact⟨its,r,⟨_,n,e,rfl,rfl,rfl⟩,z⟩
 ·refine⟨its.toList,r,⟨o,n,I.kIn a o hk,hc,hd,by simpa using hs⟩,?_⟩
  have e:=r.length
  simp only[Array.length_toList]at e
  omega
def Inv.tuple(I:Inv X Aa σ H s)(h:SqT X.K H a xs):∃its:List Value,Vals xs its∧IsTup s.heap a its.toArray∧xs.length≤sizeLine:=by
 rcases h with h|⟨o,its,n,hk,hc,hs,hz,r⟩
 ·obtain⟨z,its,r,p⟩:=h.ok I.hok
  exact⟨its,r,p,z⟩
 ·refine⟨its.toList,r,⟨o,I.kIn a o hk,hc,n,by simpa using hs⟩,?_⟩
  have e:=r.length
  simp only[Array.length_toList]at e
  omega
def Inv.list_inj(I:Inv X Aa σ H s)(h:SqL X.K H a xs)(h':SqL X.K H a ys):xs=ys:=by
 obtain⟨its,r,⟨o,n,e,_,_,d⟩,_⟩:=I.list h
 obtain⟨its',r',⟨o',n',e',_,_,d'⟩,_⟩:=I.list h'
 rw[e]at e';cases e'
 rw[d]at d'
 injection d' with d1 _
 have:its=its':=by simpa using congrArg Array.toList d1
 subst this
 exact r.inj r'
end
abbrev Cx.wish(X:Cx)(E:cp):Cx:={ X with xe:=E }
abbrev Cx.nox(X:Cx):Cx:=X.wish fun _ _=>False
def Cx.Ok.wish{X:Cx}(ok:X.Ok)(E:cp):(X.wish E).Ok:=
 ⟨ok.mod,ok.kind,ok.glob,ok.blt,ok.above,ok.inj,ok.has,ok.cab,ok.hd,ok.frames,ok.stk,ok.exf,ok.bs,ok.bsz,ok.noex,ok.exfs,ok.funs,ok.frf⟩
def Cx.Ok.unwish{X:Cx}{E:cp}(ok:(X.wish E).Ok):X.Ok:=
 ⟨ok.mod,ok.kind,ok.glob,ok.blt,ok.above,ok.inj,ok.has,ok.cab,ok.hd,ok.frames,ok.stk,ok.exf,ok.bs,ok.bsz,ok.noex,ok.exfs,ok.funs,ok.frf⟩
section
variable{X:Cx}{Aa:am}{σ:St}{H:Hp}{s:Shared}{E:cp}
def Inv.wish(I:Inv X Aa σ H s)(E:cp):Inv (X.wish E) Aa σ H s:=⟨I.ok.wish E,I.os,I.bare,I.base,I.loc,I.cell,I.free,I.freeC,I.pin,I.hok,I.len⟩
def Inv.unwish(I:Inv (X.wish E) Aa σ H s):Inv X Aa σ H s:=⟨I.ok.unwish,I.os,I.bare,I.base,I.loc,I.cell,I.free,I.freeC,I.pin,I.hok,I.len⟩
def SP.unwish{D:Ends}{f:Flow}{s':Shared}(h:SP (X.wish E) Aa D f s'):SP X Aa D f s':=by
 cases f with
 | next=>obtain⟨σ',H',I,q⟩:=h;exact⟨σ',H',I.unwish,q⟩
 | brk=>obtain⟨σ',H',I,q⟩:=h;exact⟨σ',H',I.unwish,q⟩
 | cont=>obtain⟨σ',H',I,q⟩:=h;exact⟨σ',H',I.unwish,q⟩
 | ret u=>obtain⟨v,σ',H',I,r,q⟩:=h;exact⟨v,σ',H',I.unwish,r,q⟩
def PSs.nox{st:List Stmt}{t:TS}(h:PSs X.nox st t):PSs X st t:=fun Aa s σ H D I hw=>
 wpAny_mono (h Aa s σ H D (I.wish _) hw) (fun _ _ q=>q.unwish) fun _ _ z=>False.elim z
end
section
variable{X:Cx}{st:Stmt}{yG:List Stmt}{t u:TS}{e:Expr}{te:TE}{pos:Pos}
def Ph:TS:=fun D σ H=>D.nx σ H
def NU(t u:TS):TS:=fun D σ H=>t { D with nx:=u D } σ H
def bM:PSs X [] Ph:=fun _ _ σ H _ I h=>wpAny_execs_nil ⟨σ,H,I,h⟩
def nA(h1:PS X st t)(h2:PSs X yG u):PSs X (st::yG) (NU t u):=by
 intro Aa s σ H D I h
 refine wpAny_execs_cons (thn (h1 Aa s σ H { D with nx:=u D } I h) fun f s1 q=>?_)
 cases f with
 | next=>
  obtain⟨σ',H',I',q⟩:=q
  exact h2 Aa s1 σ' H' D I' q
 | ret v=>exact q
 | brk=>exact q
 | cont=>exact q
def wu(h1:PS X st t):PSs X [st] t:=by
 intro Aa s σ H D I h
 refine wpAny_execs_cons (thn (h1 Aa s σ H D I h) fun f s1 q=>?_)
 cases f with
 | next=>exact wpAny_execs_nil q
 | ret v=>exact q
 | brk=>exact q
 | cont=>exact q
def Inv.quiet{Aa:am}{σ:St}{H:Hp}{s:Shared}(I:Inv X Aa σ H s):interactive X.env=false:=by simp[interactive,I.ok.kind]
def Pk(te:TE):TS:=fun D σ H=>te σ H fun _ H1=>D.nx σ H1
def ww(he:PE X e te)(hs:swapsWith e none pos.line X.env=pure false:=by rfl):PS X (.Expr e pos) (Pk te):=by
 intro Aa s σ H D I h
 exact wpAny_Expr_any (thn (he Aa s σ H _ I h) fun v s1 ⟨x,H1,I1,r1,q1⟩=>⟨σ,H1,I1,q1⟩) I.quiet hs
def NV(te:TE):TS:=fun D σ H=>te σ H D.rt
def uJ(he:PE X e te):PS X (.Return (some e) pos) (NV te):=by
 intro Aa s σ H D I h
 exact wpAny_Return_some (thn (he Aa s σ H _ I h) fun v s1 ⟨x,H1,I1,r1,q1⟩=>⟨x,σ,H1,I1,r1,q1⟩)
def NY(c:TT)(t u:TS):TS:=fun D σ H=>c σ H fun b H1=>if b=true then t D σ H1 else u D σ H1
def Px{c:Expr}{a b:List Stmt}{tc:TT}(hc:PT X c tc)(ha:PSs X a t)(hb:PSs X b u):PS X (.If c a b pos) (NY tc t u):=by
 intro Aa s σ H D I h
 refine wpAny_If (thn (hc Aa s σ H _ I h) fun d s1 zz=>?_)
 obtain⟨H1,I1,q1⟩:=zz
 cases d with
 | true=>exact ha Aa s1 σ H1 D I1 q1
 | false=>exact hb Aa s1 σ H1 D I1 q1
def UB:TS:=fun _ _ _=>False
def gd:PS X st UB:=fun _ _ _ _ _ _ h=>h.elim
end
abbrev TG:=V→St→Hp→(St→Hp→Prop)→Prop
abbrev TGs:=List V→St→Hp→(St→Hp→Prop)→Prop
def PG(X:Cx)(target:Expr)(t:TG):Prop:=
 ∀(Aa:am)(s:Shared)(σ:St)(H:Hp)(v:V)(u:Value)(Q:St→Hp→Prop),Inv X Aa σ H s→RelV v u→t v σ H Q→
  wpAny (model X.prog X.w) X.A (assign target X.env u) (fun _ s'=>∃σ' H',Inv X Aa σ' H' s'∧Q σ' H') X.xe s
def PGs(X:Cx)(ts:List Expr)(t:TGs):Prop:=
 ∀(Aa:am)(s:Shared)(σ:St)(H:Hp)(vs:List V)(us:List Value)(Q:St→Hp→Prop),Inv X Aa σ H s→Vals vs us→t vs σ H Q→
  wpAny (model X.prog X.w) X.A (assignInOrder ((assignEach ts X.env).map (·.2)) us) (fun _ s'=>∃σ' H',Inv X Aa σ' H' s'∧Q σ' H') X.xe s
abbrev Q5:=V→V→V→Hp→(Hp→Prop)→Prop
def NR(X:Cx)(t:Q5):Prop:=
 ∀(Aa:am)(s:Shared)(σ:St)(H:Hp)(o i v:V)(ov iv u:Value)(Q:Hp→Prop),Inv X Aa σ H s→RelV o ov→RelV i iv→RelV v u→t o i v H Q→
  wpAny (model X.prog X.w) X.A (setItem ov iv u) (fun _ s'=>∃H',Inv X Aa σ H' s'∧Q H') X.xe s
abbrev TIp:=V→V→Hp→VK→Prop
def PIp(X:Cx)(op:Operator)(t:TIp):Prop:=
 ∀(Aa:am)(s:Shared)(σ:St)(H:Hp)(x y:V)(v u:Value)(Q:VK),Inv X Aa σ H s→RelV x v→RelV y u→t x y H Q→
  wpAny (model X.prog X.w) X.A (inplaceOp op v u) (EP X Aa σ Q) X.xe s
section
variable{X:Cx}{pos:Pos}
def n6(i:Nat):TG:=fun v σ H Q=>Q (σ.set i (some v)) H
def z4{i:Nat}{x:Str}(hN:X.N.Nodup)(hi:X.N[i]? = some x)(hx:Loc X.env.scope x)(hf:X.fn x=true∨X.env.scope.names.lookup x=some .local:=by walk_at "f"):PG X (.Name x pos) (n6 i):=by
 intro Aa s σ H v u Q I r h
 exact wpAny_assign_Name (wK I hN hi hx r (fun s' I'=>⟨_,H,I',h⟩) hf)
def MG:TGs:=fun vs σ H Q=>vs=[]∧Q σ H
def Ou(t:TG)(u:TGs):TGs:=fun vs σ H Q=>∃v r,vs=v::r∧t v σ H fun σ' H'=>u r σ' H' Q
def sv:PGs X [] MG:=by
 intro Aa s σ H vs us Q I r h
 obtain⟨e,h⟩:=h
 subst e
 cases r
 exact assignInOrder_nil ⟨σ,H,I,h⟩
theorem yW{e:Expr}{es:List Expr}{t:TG}{u:TGs}(h1:PG X e t)(h2:PGs X es u)
  (hs:(assignEach (e::es) X.env).map (·.2)=assign e X.env::(assignEach es X.env).map (·.2):=by rfl):PGs X (e::es) (Ou t u):=by
 intro Aa s σ H vs us Q I r h
 obtain⟨v,vr,e1,h⟩:=h
 subst e1
 cases r with
 | cons r rr=>
  rw[hs]
  refine assignInOrder_cons (thn (h1 Aa s σ H _ _ _ I r h) fun _ s1 zz=>?_)
  obtain⟨σ1,H1,I1,q1⟩:=zz
  exact h2 Aa s1 σ1 H1 _ _ Q I1 rr q1
def ME(K:A_)(n:Nat)(t:TGs):TG:=fun v σ H Q=>∃a xs,v=.ref a∧SqT K H a xs∧xs.length=n∧t xs σ H Q
theorem pY{es:List Expr}{k:Nat}{t:TGs}{n:Nat}(hc:X.calm=true)(h:PGs X es t)
  (hn:(assignEach es X.env).length=n:=by rfl) (hst:(assignEach es X.env).findIdx? (·.1)=none:=by rfl):PG X (.Tuple es k pos) (ME X.K n t):=by
 intro Aa s σ H v u Q I r hw
 obtain⟨a,xs,e1,hq,hl,hw⟩:=hw
 subst e1
 cases r
 obtain⟨its,rv,ht,hz⟩:=I.tuple hq
 refine assign_Tuple_tuple (I.ok.hd hc) ht (by simp[hn,←hl,rv.length]) hst fun h' hx=>?_
 have I1:Inv X Aa σ H { s with heap:=h' }:=I.kept (t':=s.toks) fun b o e=>hx b o (Bl (Heap.lt_size e)) e
 exact h Aa _ σ H xs _ Q I1 (by simpa using rv) hw
def Pn(te:TE)(g:TG):TS:=fun D σ H=>te σ H fun x H1=>g x σ H1 D.nx
def UP{tg e:Expr}{te:TE}{g:TG}(he:PE X e te)(hg:PG X tg g)(hs:swapsWithSole [tg] e pos.line X.env=pure false:=by rfl)(hw:swappedStores [tg] e X.env=pure none:=by rfl)
  (h1:(assignEach [tg] X.env).map (·.2)=[assign tg X.env]:=by rfl):PS X (.Assign [tg] e pos) (Pn te g):=by
 intro Aa s σ H D I h
 refine wpAny_Assign_stores (thn (he Aa s σ H _ I h) fun v s1 zz=>?_) hs hw
 obtain⟨x,H1,I1,r1,q1⟩:=zz
 rw[h1]
 exact thn (hg Aa s1 σ H1 x v _ I1 r1 q1) fun _ s2 q=>q
def h_{i:Nat}{x:Str}{e:Expr}{te:TE}{pos':Pos}(hN:X.N.Nodup)(hi:X.N[i]? = some x)(hx:Loc X.env.scope x)(he:PE X e te)(hs:swapsWith e (some (.Name x pos')) pos.line X.env=pure false:=by rfl)(hf:X.fn x=true∨X.env.scope.names.lookup x=some .local:=by walk_at "f"):
  PS X (.Assign [.Name x pos'] e pos) (Pn te (n6 i)):=by
 intro Aa s σ H D I h
 refine wpAny_Assign_Name (thn (he Aa s σ H _ I h) fun v s1 zz=>?_) hs
 obtain⟨y,H1,I1,r1,q1⟩:=zz
 exact wK I1 hN hi hx r1 (fun s2 I2=>⟨_,H1,I2,q1⟩) hf
def N4(i:Nat)(te:TE)(ti:TIp):TS:=fun D σ H=>∃x,σ[i]? = some (some x)∧te σ H fun y H1=>ti x y H1 fun z H2=>D.nx (σ.set i (some z)) H2
def UO{i:Nat}{x:Str}{e:Expr}{te:TE}{op:Operator}{ti:TIp}{pos':Pos}(hN:X.N.Nodup)(hi:X.N[i]? = some x)(hx:Loc X.env.scope x)(he:PE X e te)(ho:PIp X op ti)(hf:X.fn x=true∨X.env.scope.names.lookup x=some .local:=by walk_at "f"):
  PS X (.AugAssign (.Name x pos') op e pos) (N4 i te ti):=by
 intro Aa s σ H D I h
 obtain⟨v,e1,h⟩:=h
 obtain⟨m,hn,hl⟩:=I.loc
 have vis:Vis X.env.scope x:=by rcases hx with k|k;exact .inl k;exact .inr (.inl k)
 obtain⟨u,r,l⟩:=hl i x v hi e1 vis
 refine wpAny_AugAssign_Name ?_
 have go:wpAny (model X.prog X.w) X.A (eval e X.env) (fun w s₂=>wpAny (model X.prog X.w) X.A (inplaceOp op u w) (fun r s₃=>wpAny (model X.prog X.w) X.A (storeName X.env x r) (fun _=>SP X Aa D .next) X.xe s₃) X.xe s₂) X.xe s:=by
  refine thn (he Aa s σ H _ I h) fun w s1 zz=>?_
  obtain⟨y,H1,I1,r1,q1⟩:=zz
  refine thn (ho Aa s1 σ H1 v y u w _ I1 r r1 q1) fun z s2 zz=>?_
  obtain⟨zv,H2,I2,r2,q2⟩:=zz
  exact wK I2 hN hi hx r2 (fun s3 I3=>⟨_,H2,I3,q2⟩) hf
 rcases l with ⟨hk,hm⟩|⟨hk,c,hc,hcell⟩
 ·exact wpAny_loadName_local I.ok.kind hk hn hm go
 ·rcases hk with hk|hk
  ·exact wpAny_loadName_cell I.ok.kind hk hc hcell go
  ·rcases hx with k|k
   ·have:X.env.scope.names.lookup x=some .free:=hk
    rw[k]at this;cases this
   ·have:X.env.scope.names.lookup x=some .free:=hk
    rw[k]at this;cases this
def Pm(to ti te:TE)(tget:V→V→Hp→VK→Prop)(tip:TIp)(tset:Q5):TS:=fun D σ H=>to σ H fun o H1=>ti σ H1 fun i H2=>tget o i H2 fun x H3=>te σ H3 fun y H4=>tip x y H4 fun z H5=>tset o i z H5 fun H6=>D.nx σ H6
def NS(X:Cx)(t:V→V→Hp→VK→Prop):Prop:=
 ∀(Aa:am)(s:Shared)(σ:St)(H:Hp)(o i:V)(ov iv:Value)(Q:VK),Inv X Aa σ H s→RelV o ov→RelV i iv→t o i H Q→
  wpAny (model X.prog X.w) X.A (getItem ov iv) (EP X Aa σ Q) X.xe s
theorem bN{o i e:Expr}{to ti te:TE}{tget:V→V→Hp→VK→Prop}{tip:TIp}{tset:Q5}{op:Operator}{tpos:Pos}(ho:PE X o to)(hi:PE X i ti)(hg:NS X tget)(he:PE X e te)(hp:PIp X op tip)(hs:NR X tset)
  (ha:∀ov iv new,augStore i ov iv new=(do holding [new,ov,iv] (setItem ov iv new);release [new,ov,iv] [];pure .next):=by intros;rfl):PS X (.AugAssign (.Subscript o i tpos) op e pos) (Pm to ti te tget tip tset):=by
 intro Aa s σ H D I h
 refine wpAny_AugAssign_SubscriptAny (thn (ho Aa s σ H _ I h) fun ov s1 zz=>?_) ha
 obtain⟨x1,H1,I1,r1,q1⟩:=zz
 refine thn (hi Aa s1 σ H1 _ I1 q1) fun iv s2 zz=>?_
 obtain⟨x2,H2,I2,r2,q2⟩:=zz
 refine thn (hg Aa s2 σ H2 x1 x2 ov iv _ I2 r1 r2 q2) fun old s3 zz=>?_
 obtain⟨x3,H3,I3,r3,q3⟩:=zz
 refine thn (he Aa s3 σ H3 _ I3 q3) fun v s4 zz=>?_
 obtain⟨x4,H4,I4,r4,q4⟩:=zz
 refine thn (hp Aa s4 σ H4 x3 x4 old v _ I4 r3 r4 q4) fun new s5 zz=>?_
 obtain⟨x5,H5,I5,r5,q5⟩:=zz
 exact thn (hs Aa s5 σ H5 x1 x2 x5 ov iv new _ I5 r1 r2 r5 q5) fun _ s6 ⟨H6,I6,q6⟩=>⟨σ,H6,I6,q6⟩
def ipI(f:Int→Int→Int):TIp:=fun x y H Q=>∃i j,x=.int i∧y=.int j∧Q (.int (f i j)) H
def oA:PIp X .Add (ipI fun i j=>i+j):=by
 intro Aa s σ H x y v u Q I r1 r2 h
 obtain⟨i,j,e1,e2,q⟩:=h
 subst e1;subst e2
 obtain⟨t,rfl⟩:=r1
 obtain⟨t',rfl⟩:=r2
 exact iadd_int ⟨.int _,H,I.tok _,⟨_,rfl⟩,q⟩
def dX:PIp X .Sub (ipI fun i j=>i-j):=by
 intro Aa s σ H x y v u Q I r1 r2 h
 obtain⟨i,j,e1,e2,q⟩:=h
 subst e1;subst e2
 obtain⟨t,rfl⟩:=r1
 obtain⟨t',rfl⟩:=r2
 exact isub_int ⟨.int _,H,I.tok _,⟨_,rfl⟩,q⟩
end
section
variable{X:Cx}{pos:Pos}
def Uz(c:TT)(tb:TS):TS:=fun D σ H=>∃W:Nat→St→Hp→Prop,(∃m,W m σ H)∧∀m σ H,W m σ H→
 c σ H fun b H1=>if b=true then ∃N:St→Hp→Prop,(∀σ' H',N σ' H'→∃m',m'<m∧W m' σ' H')∧tb { D with nx:=N,ct:=N,bk:=D.nx } σ H1 else D.nx σ H1
def hW{c:Expr}{body:List Stmt}{tc:TT}{tb:TS}(hp:PassesOwn (model X.prog X.w) X.A X.env X.xe)(hc:PT X c tc)(hb:PSs X body tb):PS X (.While c body [] pos) (Uz tc tb):=by
 intro Aa s σ H D I h
 obtain⟨W,⟨m0,w0⟩,turn⟩:=h
 refine wpAny_While (codeAny_whileLoop (fun n s'=>∃σ' H',Inv X Aa σ' H' s'∧W n σ' H') ?_ m0 ⟨σ,H,I,w0⟩)
 rintro n s1 ⟨σ1,H1,I1,w1⟩
 refine wpAny_passesOwn hp (thn (hc Aa s1 σ1 H1 _ I1 (turn n σ1 H1 w1)) fun b s2 zz=>?_)
 obtain⟨H2,I2,q2⟩:=zz
 cases b with
 | true=>
  obtain⟨N,hN,q2⟩:=q2
  rw[if_pos rfl]
  refine wpAny_passesOwn hp (thn (hb Aa s2 σ1 H2 _ I2 q2) fun f s3 q3=>?_)
  cases f with
  | next=>
   obtain⟨σ3,H3,I3,n3⟩:=q3
   obtain⟨m',hm,w3⟩:=hN σ3 H3 n3
   exact⟨m',hm,σ3,H3,I3,w3⟩
  | cont=>
   obtain⟨σ3,H3,I3,n3⟩:=q3
   obtain⟨m',hm,w3⟩:=hN σ3 H3 n3
   exact⟨m',hm,σ3,H3,I3,w3⟩
  | brk=>exact q3
  | ret v=>exact q3
 | false=>
  rw[if_neg Ba]
  exact wpAny_execs_nil ⟨σ1,H2,I2,q2⟩
end
structure It where
 go:Nat→Hp→Prop
 yld:Nat→Hp→V→Hp→Prop
 stop:Nat→Hp→Prop
def xG(X:Cx)(Aa:am)(H:Hp)(b:Addr):Prop:=
 H b=none∧b≠X.env.locals∧b∉X.fs∧(b∈X.ex∨X.s₀.heap.objs.size≤b)∧(∀x c,X.env.cells.lookup x=some c→c≠b)∧∀p∈X.pn++Aa,p.1≠b
def Inv.fpOk{X:Cx}{Aa:am}{σ:St}{H H':Hp}{s:Shared}{b:Addr}(I:Inv X Aa σ H s)(hb:s.heap.objs.size≤b)(hn:H' b=none):xG X Aa H' b:=by
 refine⟨hn,Nat.ne_of_gt (Bj I.lt hb),I.nofs hb,.inr (Br I.sz hb),fun x c e z=>?_,fun p hp z=>?_⟩
 ·obtain⟨v,q⟩:=I.cell x c e
  exact absurd (Bj q.lt (by rw[z];exact hb)) (BM _)
 ·exact absurd (Bj (Heap.lt_size (I.pin p hp).1) (by rw[z];exact hb)) (BM _)
structure sr(P:Program)(w:World)(K:A_)(tg:Expr)(J:It)(fp:List Addr)(it:Addr)(tn:Nat→Heap→Prop):Prop where
 mem:it∈fp
 obj:∀i h,tn i h→∀b∈fp,∃o,h.get? b=some o∧∀v,o.data≠.cell v
 keep:∀i h h',tn i h→(∀b∈fp,∀o,h.get? b=some o→h'.get? b=some o)→tn i h'
 item:∀(X:Cx),X.prog=P→X.w=w→X.K=K→X.calm=true→∀(i:Nat)(Aa:am)(s:Shared)(σ:St)(H:Hp)(E:cp),Inv X Aa σ H s→(∀b∈fp,xG X Aa H b)→tn i s.heap→J.go i H→
  wpAny (model P w) X.A (pyNext (.ref it)) (fun r s1=>∃u,r=some u∧
   wpAny (model P w) X.A (letOwnedTupleGo tg (.ref it) u) (fun _ s2=>∃x H',Inv X Aa σ H' s2∧RelV x u∧J.yld i H x H'∧tn (i+1) s2.heap∧∀b∈fp,H' b=none) E s1) E s
 done:∀(X:Cx),X.prog=P→X.w=w→X.K=K→X.calm=true→∀(i:Nat)(Aa:am)(s:Shared)(σ:St)(H:Hp)(E:cp),Inv X Aa σ H s→(∀b∈fp,xG X Aa H b)→tn i s.heap→J.stop i H→
  wpAny (model P w) X.A (pyNext (.ref it)) (fun r s1=>r=none∧Inv X Aa σ H s1) E s
 self:∀(A:Around)(i:Nat)(s:Shared)(Q:cp)(E:cp),tn i s.heap→Q (.ref it) s→wpAny (model P w) A (pyIter (.ref it)) Q E s
abbrev TI:=St→Hp→(It→Hp→Prop)→Prop
def PIE(X:Cx)(Aa:am)(σ:St)(tg:Expr)(R:It→Hp→Prop)(itv:Value)(s2:Shared):Prop:=
 ∃(it:Addr)(fp:List Addr)(tn:Nat→Heap→Prop)(J:It)(H':Hp),itv=.ref it∧Inv X Aa σ H' s2∧sr X.prog X.w X.K tg J fp it tn∧tn 0 s2.heap∧(∀b∈fp,xG X Aa H' b)∧R J H'
def PI(X:Cx)(tg iter:Expr)(wi:TI):Prop:=
 ∀(Aa:am)(s:Shared)(σ:St)(H:Hp)(R:It→Hp→Prop),Inv X Aa σ H s→wi σ H R→
  wpAny (model X.prog X.w) X.A (eval iter X.env) (fun v s1=>wpAny (model X.prog X.w) X.A (pyIter v) (PIE X Aa σ tg R) X.xe s1) X.xe s
theorem n5{M:Model}{A:Around}{E:cp}{s:Shared}{tg:Expr}{it:Addr}{u:Value}{o:Obj}{n:String}{vs:Array Value}{Q:Unit→Shared→Prop}(ho:s.heap.get? it=some o)(hc:o.cls=.type n)(hd:o.data=.fields vs)
  (hn:["enumerate","zip","dict_itemiterator","dict_reverseitemiterator","odict_iterator","itertools.zip_longest","itertools.pairwise"].contains n=false) (hQ:Q () s):wpAny M A (letOwnedTupleGo tg (.ref it) u) Q E s:=by
 unfold letOwnedTupleGo
 cases tg<;>first
  | exact wpAny_pure hQ
  | (cases u<;>first
    | exact wpAny_pure hQ
    | (refine wpAny_bind (wpAny_load ho ?_)
       rw[hc,hd]
       show wpAny M A (if(["enumerate","zip","dict_itemiterator","dict_reverseitemiterator","odict_iterator","itertools.zip_longest","itertools.pairwise"].contains n&&vs[0]? == some (rawInt _))=true then _ else _) Q E s
       rw[if_neg (by intro h;rw[hn,Bool.false_and]at h;cases h)]
       exact wpAny_pure hQ))
def Itl(K:A_)(a:Addr):It:=
 ⟨fun i H=>∃xs x,SqL K H a xs∧xs[i]? = some x,fun i H x H'=>H'=H∧∀xs,SqL K H a xs→xs[i]? = some x,fun i H=>∃xs,SqL K H a xs∧xs.length≤i⟩
def Itr(lo:Int)(n:Nat):It:=⟨fun i _=>i<n,fun i H x H'=>H'=H∧x=.int (lo+i),fun i _=>n≤i⟩
theorem jk{P:Program}{w:World}{K:A_}{tg:Expr}(a it:Addr):sr P w K tg (Itl K a) [it] it (fun i h=>h.IsListIter it a i) where
 mem:=by simp
 obj:=fun i h st b hb=>by
  have e:b=it:=by simpa using hb
  subst e
  obtain⟨o,e,c,d⟩:=st
  exact⟨o,e,fun v z=>by rw[d]at z;cases z⟩
 keep:=fun i h h' st k=>st.at fun o e=>k it (by simp) o e
 item:=by
  intro X hP hw hK hc i Aa s σ H E I hf st hg
  subst hP hw hK
  obtain⟨xs,x,hq,hx⟩:=hg
  obtain⟨its,rv,p,hz⟩:=I.list hq
  obtain⟨u,hu,ru⟩:=rv.get hx
  obtain⟨f0,f1,f2,f3,f4,f5⟩:=hf it (by simp)
  refine wpAny_pyNext_list_item st p.isList (x:=u) (by simpa using hu) fun h' st' sb=>?_
  have I1:Inv X Aa σ H { s with heap:=h' }:=I.turned (t':=s.toks) (fun b o hb e=>(sb.2 b hb).trans e) f0 f1 f3 f4 f5
  obtain⟨o,e,c,d⟩:=id st'
  exact⟨u,rfl,n5 (s:={ s with heap:=h' }) e c d (by decide) ⟨x,H,I1,ru,⟨rfl,fun ys hy=>by rw[I.list_inj hy hq];exact hx⟩,st',fun b hb=>(hf b hb).1⟩⟩
 done:=by
  intro X hP hw hK hc i Aa s σ H E I hf st hg
  subst hP hw hK
  obtain⟨xs,hq,hx⟩:=hg
  obtain⟨its,rv,p,hz⟩:=I.list hq
  obtain⟨f0,f1,f2,f3,f4,f5⟩:=hf it (by simp)
  have hl:=rv.length
  exact wpAny_pyNext_list_end (I.ok.hd hc) st p.isList (by simp;omega) fun h' eb=>⟨rfl,I.turned (t':=s.toks) (fun b o hb e=>eb b o hb e) f0 f1 f3 f4 f5⟩
 self:=fun _ _ _ _ _ st h=>wpAny_pyIter_listiter st h
theorem mI{P:Program}{w:World}{K:A_}{tg:Expr}(it:Addr)(lo:Int)(n:Nat):sr P w K tg (Itr lo n) [it] it (fun i h=>IsRangeIter h it (lo+(i:Nat)*1) ((n:Int)-(i:Nat)) 1) where
 mem:=by simp
 obj:=fun i h st b hb=>by
  have e:b=it:=by simpa using hb
  subst e
  exact⟨_,st,fun v z=>by
   have z':Data.fields _=Data.cell v:=z
   cases z'⟩
 keep:=fun i h h' st k=>k it (by simp) _ st
 item:=by
  intro X hP hw hK hc i Aa s σ H E I hf st hg
  subst hP hw hK
  obtain⟨f0,f1,f2,f3,f4,f5⟩:=hf it (by simp)
  have W:=Walks.range (prog:=X.prog) (w:=X.w) (I.ok.hd hc) it lo 1 n
  refine W.item i s _ _ hg st fun v h' tk hv st' kk=>?_
  obtain⟨t,rfl⟩:=hv
  have I1:Inv X Aa σ H { s with heap:=h',toks:=tk }:=I.turned (fun b o hb e=>kk b o (by simpa using hb) e) f0 f1 f3 f4 f5
  refine⟨_,rfl,n5 (s:={ s with heap:=h',toks:=tk }) (n:="range_iterator") st' rfl rfl (by decide) ⟨.int (lo+i),H,I1,⟨t,?_⟩,⟨rfl,rfl⟩,st',fun b hb=>(hf b hb).1⟩⟩
  rw[Int.mul_one]
 done:=by
  intro X hP hw hK hc i Aa s σ H E I hf st hg
  subst hP hw hK
  obtain⟨f0,f1,f2,f3,f4,f5⟩:=hf it (by simp)
  exact wpAny_pyNext_range_end (I.ok.hd hc) st (by have:n≤i:=hg;omega) fun h' eb=>⟨rfl,I.turned (t':=s.toks) (fun b o hb e=>eb b o hb e) f0 f1 f3 f4 f5⟩
 self:=fun _ _ _ _ _ st h=>wpAny_pyIter_rangeiter st h
section
variable{X:Cx}{tg:Expr}
def Oq(K:A_)(tl:TE):TI:=fun σ H R=>tl σ H fun x H1=>∃a,x=.ref a∧(∃xs,SqL K H1 a xs)∧R (Itl K a) H1
def su{l:Expr}{tl:TE}(hl:PE X l tl):PI X tg l (Oq X.K tl):=by
 intro Aa s σ H R I h
 refine thn (hl Aa s σ H _ I h) fun v s1 zz=>?_
 obtain⟨x,H1,I1,r1,q1⟩:=zz
 obtain⟨a,e,⟨xs,hq⟩,q⟩:=q1
 subst e
 cases r1
 obtain⟨its,rv,p,hz⟩:=I1.list hq
 refine wpAny_pyIter_list p.isList ?_
 refine⟨s1.heap.objs.size,[s1.heap.objs.size],_,_,H1,rfl,I1.kept (t':=s1.toks) fun b o e=>Heap.get?_push_of_some _ e,jk a _,⟨_,Heap.get?_push_size _ rfl,rfl,rfl⟩,fun b hb=>?_,q⟩
 have e:b=s1.heap.objs.size:=by simpa using hb
 subst e
 exact I1.fpOk (Bg _) (I1.hok.fresh (Bg _))
theorem nu{Aa:am}{σ:St}{H:Hp}{s:Shared}{R:It→Hp→Prop}{E:cp}{lo hi:Int}{t u v:Tok}{tk:Nat}(I:Inv X Aa σ H s)(h1:-(2^62)≤lo)(h2:lo<2^62)(h3:-(2^62)≤hi)(h4:hi<2^62)
  (q:R (Itr lo (hi-lo).toNat) H):wpAny (model X.prog X.w) X.A (pyIter (.ref s.heap.objs.size)) (PIE X Aa σ tg R) E { s with heap:=s.heap.push { cls:=.type "range",data:=.fields #[.int lo t,.int hi u,.int 1 v] },toks:=tk }:=by
 refine wpAny_pyIter_range (IsRange.new ..) (small_one h1 h2 h3 h4) ?_
 have I1:Inv X Aa σ H { s with heap:=s.heap.push { cls:=.type "range",data:=.fields #[.int lo t,.int hi u,.int 1 v] },toks:=tk }:=I.kept fun b o e=>Heap.get?_push_of_some _ e
 refine⟨(s.heap.push { cls:=.type "range",data:=.fields #[.int lo t,.int hi u,.int 1 v] }).objs.size,[(s.heap.push { cls:=.type "range",data:=.fields #[.int lo t,.int hi u,.int 1 v] }).objs.size],_,_,H,rfl,
  I1.kept (t':=tk) fun b o e=>Heap.get?_push_of_some _ e,mI _ lo (hi-lo).toNat,?_,fun b hb=>?_,q⟩
 ·have e1:lo+((0:Nat):Int)*1=lo:=by simp
  have e2:(((hi-lo).toNat:Nat):Int)-((0:Nat):Int)=Builtin.Range.rangeSize lo hi 1:=by rw[rangeSize_one];split<;>omega
  show IsRangeIter _ _ (lo+((0:Nat):Int)*1) ((((hi-lo).toNat:Nat):Int)-((0:Nat):Int)) 1
  rw[e1,e2]
  exact Heap.get?_push_size _ rfl
 ·have e:b=(s.heap.push { cls:=.type "range",data:=.fields #[.int lo t,.int hi u,.int 1 v] }).objs.size:=by simpa using hb
  subst e
  exact I1.fpOk (Bg _) (I1.hok.fresh (Bg _))
def Op(ta:TA):TI:=fun σ H R=>ta σ H fun vs H1=>∃j:Int,vs=[.int j]∧-(2^62)≤j∧j<2^62∧R (Itr 0 j.toNat) H1
def Oo(ta:TA):TI:=fun σ H R=>ta σ H fun vs H1=>∃i j:Int,vs=[.int i,.int j]∧(-(2^62)≤i∧i<2^62∧-(2^62)≤j∧j<2^62)∧R (Itr i (j-i).toNat) H1
def qO{a:Expr}{ta:TA}{p pos:Pos}(hg:Gl X "range")(hm:X.mg "range"=none)(ha:PA X [a] ta)(hs:starEach [a] X.env=[(false,eval a X.env)]:=by rfl):PI X tg (.Call (.Name "range" p) [a] [] pos) (Op ta):=by
 intro Aa s σ H R I h
 refine Call_ (xY I hg hm boot_range (PyProof.Rows.callWith_type1 (thn (ha pos Aa s σ H _ I h) fun us s1 zz=>?_) hs rfl))
 obtain⟨vs,H1,I1,r1,q1⟩:=zz
 obtain⟨j,e,q1,q2,q⟩:=q1
 subst e
 cases r1 with
 | cons r rr=>
  cases rr
  obtain⟨t,rfl⟩:=r
  exact call_range_1 (nu I1 (by omega) (by omega) q1 q2 (by simpa using q))
def jB{a b:Expr}{ta:TA}{p pos:Pos}(hg:Gl X "range")(hm:X.mg "range"=none)(ha:PA X [a,b] ta)(hs:starEach [a,b] X.env=[(false,eval a X.env),(false,eval b X.env)]:=by rfl)(hs2:starEach [b] X.env=[(false,eval b X.env)]:=by rfl):
  PI X tg (.Call (.Name "range" p) [a,b] [] pos) (Oo ta):=by
 intro Aa s σ H R I h
 refine Call_ (xY I hg hm boot_range (PyProof.Rows.callWith_type1 (thn (ha pos Aa s σ H _ I h) fun us s1 ⟨vs,H1,I1,r1,q1⟩=>?_) (by rw[hs,hs2]) (by rw[hs2];rfl)))
 obtain⟨i,j,e,⟨q1,q2,q3,q4⟩,q⟩:=q1
 subst e
 cases r1 with
 | cons r rr=>
  cases rr with
  | cons r' rr=>
   cases rr
   obtain⟨t,rfl⟩:=r
   obtain⟨t',rfl⟩:=r'
   exact call_range_2 (nu I1 q1 q2 q3 q4 q)
def N1(wi:TI)(g:TG)(tb:TS):TS:=fun D σ H=>wi σ H fun J H1=>∃W:Nat→Nat→St→Hp→Prop,(∃m,W 0 m σ H1)∧∀i m σ H,W i m σ H→
 (J.stop i H∧D.nx σ H)∨(J.go i H∧∃N:St→Hp→Prop,(∀σ' H',N σ' H'→∃m',m'<m∧W (i+1) m' σ' H')∧∀x H',J.yld i H x H'→g x σ H' fun σ2 H2=>tb { D with nx:=N,ct:=N,bk:=D.nx } σ2 H2)
def yH(fp:List Addr)(h:Heap):List (Addr×Obj):=fp.filterMap fun b=>(h.get? b).map fun o=>(b,o)
def wz{fp:List Addr}{h:Heap}{b:Addr}{o:Obj}(hb:b∈fp)(e:h.get? b=some o):(b,o)∈yH fp h:=BO.mpr ⟨b,hb,by rw[e];rfl⟩
def jG{fp:List Addr}{h:Heap}{p:Addr×Obj}(hp:p∈yH fp h):p.1∈fp∧h.get? p.1=some p.2:=by
 obtain⟨b,hb,e⟩:=BO.mp hp
 cases q:h.get? b with
 | none=>rw[q]at e;cases e
 | some o=>
  rw[q]at e
  have e':(b,o)=p:=Option.some.inj e
  subst e'
  exact⟨hb,q⟩
def Inv.pinned{Aa:am}{σ:St}{H:Hp}{s:Shared}{fp:List Addr}(I:Inv X Aa σ H s)(hf:∀b∈fp,xG X Aa H b)(ho:∀b∈fp,∃o,s.heap.get? b=some o∧∀v,o.data≠.cell v):Inv X (Aa++yH fp s.heap) σ H s:=
 I.pins_of fun p hp=>(Bx.mp hp).elim (fun z=>I.pin p (BK _ z)) fun z=>by
  obtain⟨hb,e⟩:=jG z
  obtain⟨f0,f1,f2,_⟩:=hf p.1 hb
  obtain⟨o,e',d⟩:=ho p.1 hb
  rw[e]at e';cases e'
  exact⟨e,f0,f1,f2,d⟩
def Inv.unpinned{Aa pl:am}{σ:St}{H:Hp}{s:Shared}(I:Inv X (Aa++pl) σ H s):Inv X Aa σ H s:=I.pins_of fun p hp=>I.pin p (BK _ (List.mem_append_left _ hp))
theorem wR{iter:Expr}{body:List Stmt}{wi:TI}{g:TG}{tb:TS}{pos:Pos}(hp:PassesOwn (model X.prog X.w) X.A X.env X.xe)(hc:X.calm=true)(hi:PI X tg iter wi)(hg:PG X tg g)(hb:PSs X body tb)
  (hs:∀x,foldedSetIterable iter X.env x=pure x:=by intro _;rfl):PS X (.For tg iter body [] pos) (N1 wi g tb):=by
 intro Aa s σ H D I h
 refine wpAny_For (thn (hi Aa s σ H _ I h) fun v s1 h1=>thn h1 fun itv s2 h2=>?_) hs
 obtain⟨it,fp,tn,J,H2,e,I2,T,st2,f2,W,⟨m0,w0⟩,turn⟩:=h2
 subst e
 have stat:∀{H':Hp},(∀b∈fp,H' b=none)→∀b∈fp,xG X Aa H' b:=fun hn b hb=>⟨hn b hb,(f2 b hb).2⟩
 refine codeAny_forLoop_any (fun n s'=>∃i σ' H',Inv X Aa σ' H' s'∧tn i s'.heap∧(∀b∈fp,H' b=none)∧W i n σ' H') ?_ m0 ⟨0,σ,H2,I2,st2,fun b hb=>(f2 b hb).1,w0⟩
 rintro n s3 ⟨i,σ3,H3,I3,st3,fr3,w3⟩
 rcases turn i n σ3 H3 w3 with ⟨stop,qn⟩|⟨go,N,hN,step⟩
 ·refine wpAny_passesOwn hp (thn (T.done X rfl rfl rfl hc i Aa s3 σ3 H3 X.xe I3 (stat fr3) st3 stop) fun r s4 zz=>?_)
  obtain⟨hr,I4⟩:=zz
  subst hr
  exact wpAny_execs_nil ⟨σ3,H3,I4,qn⟩
 ·refine wpAny_passesOwn hp (thn (T.item X rfl rfl rfl hc i Aa s3 σ3 H3 X.xe I3 (stat fr3) st3 go) fun r s4 zz=>?_)
  obtain⟨u,hr,h4⟩:=zz
  subst hr
  refine wpAny_passesOwn hp (thn h4 fun _ s5 zz=>?_)
  obtain⟨x,H5,I5,r5,y5,st5,fr5⟩:=zz
  have I5':=I5.pinned (stat fr5) (T.obj _ _ st5)
  refine wpAny_passesOwn hp (thn (hg _ s5 σ3 H5 x u _ I5' r5 (step x H5 y5)) fun _ s6 zz=>?_)
  obtain⟨σ6,H6,I6,q6⟩:=zz
  refine wpAny_passesOwn hp (thn (hb _ s6 σ6 H6 _ I6 q6) fun f s7 q7=>?_)
  have again:∀{σ7:St}{H7:Hp},Inv X (Aa++yH fp s5.heap) σ7 H7 s7→N σ7 H7→∃m,m<n∧∃i σ' H',Inv X Aa σ' H' s7∧tn i s7.heap∧(∀b∈fp,H' b=none)∧W i m σ' H':=fun{σ7 H7} I7 n7=>by
   obtain⟨m',hm,w7⟩:=hN σ7 H7 n7
   refine⟨m',hm,i+1,σ7,H7,I7.unpinned,T.keep _ _ _ st5 fun b hb o e=>(I7.pin (b,o) (BK _ (BK _ (wz hb e)))).1,fun b hb=>?_,w7⟩
   obtain⟨o,e,d⟩:=T.obj _ _ st5 b hb
   exact(I7.pin (b,o) (BK _ (BK _ (wz hb e)))).2.1
  cases f with
  | next=>obtain⟨σ7,H7,I7,n7⟩:=q7;exact again I7 n7
  | cont=>obtain⟨σ7,H7,I7,n7⟩:=q7;exact again I7 n7
  | brk=>obtain⟨σ7,H7,I7,q7⟩:=q7;exact⟨σ7,H7,I7.unpinned,q7⟩
  | ret v=>obtain⟨x7,σ7,H7,I7,r7,q7⟩:=q7;exact⟨x7,σ7,H7,I7.unpinned,r7,q7⟩
end
theorem n8{K:A_}{a:Addr}{xs:List V}{g:TG}{tb:TS}{D:Ends}{σ:St}{H:Hp}(Pv:Nat→St→Hp→Prop)(h0:Pv 0 σ H)(hl:∀i σ H,i≤xs.length→Pv i σ H→SqL K H a xs)
  (hs:∀i x σ H,xs[i]? = some x→Pv i σ H→g x σ H fun σ2 H2=>tb { D with nx:=Pv (i+1),ct:=Pv (i+1),bk:=D.nx } σ2 H2) (hd:∀σ H,Pv xs.length σ H→D.nx σ H):
  ∃W:Nat→Nat→St→Hp→Prop,(∃m,W 0 m σ H)∧∀i m σ H,W i m σ H→
   ((Itl K a).stop i H∧D.nx σ H)∨((Itl K a).go i H∧∃N:St→Hp→Prop,(∀σ' H',N σ' H'→∃m',m'<m∧W (i+1) m' σ' H')∧∀x H',(Itl K a).yld i H x H'→g x σ H' fun σ2 H2=>tb { D with nx:=N,ct:=N,bk:=D.nx } σ2 H2):=by
 refine⟨fun i m σ H=>m=xs.length-i∧i≤xs.length∧Pv i σ H,⟨xs.length,by simp,Nat.zero_le _,h0⟩,?_⟩
 rintro i m σ H ⟨rfl,hi,p⟩
 have q:=hl i σ H hi p
 by_cases hlt:i<xs.length
 ·refine .inr ⟨⟨xs,xs[i],q,by simp[hlt]⟩,Pv (i+1),fun σ' H' p'=>⟨xs.length-(i+1),by omega,rfl,hlt,p'⟩,fun x H' y=>?_⟩
  obtain⟨e,y⟩:=y
  subst e
  exact hs i x σ _ (y xs q) p
 ·have e:i=xs.length:=by omega
  subst e
  exact .inl ⟨⟨xs,q,Bg _⟩,hd σ H p⟩
theorem q8{lo:Int}{n:Nat}{g:TG}{tb:TS}{D:Ends}{σ:St}{H:Hp}(Pv:Nat→St→Hp→Prop)(h0:Pv 0 σ H)
  (hs:∀i σ H,i<n→Pv i σ H→g (.int (lo+i)) σ H fun σ2 H2=>tb { D with nx:=Pv (i+1),ct:=Pv (i+1),bk:=D.nx } σ2 H2) (hd:∀σ H,Pv n σ H→D.nx σ H):
  ∃W:Nat→Nat→St→Hp→Prop,(∃m,W 0 m σ H)∧∀i m σ H,W i m σ H→
   ((Itr lo n).stop i H∧D.nx σ H)∨((Itr lo n).go i H∧∃N:St→Hp→Prop,(∀σ' H',N σ' H'→∃m',m'<m∧W (i+1) m' σ' H')∧∀x H',(Itr lo n).yld i H x H'→g x σ H' fun σ2 H2=>tb { D with nx:=N,ct:=N,bk:=D.nx } σ2 H2):=by
 refine⟨fun i m σ H=>m=n-i∧i≤n∧Pv i σ H,⟨n,by simp,Nat.zero_le _,h0⟩,?_⟩
 rintro i m σ H ⟨rfl,hi,p⟩
 by_cases hlt:i<n
 ·refine .inr ⟨hlt,Pv (i+1),fun σ' H' p'=>⟨n-(i+1),by omega,rfl,hlt,p'⟩,fun x H' y=>?_⟩
  obtain⟨e,y⟩:=y
  subst e y
  exact hs i σ _ hlt p
 ·have e:i=n:=by omega
  subst e
  exact .inl ⟨Bg _,hd σ H p⟩
abbrev R2:=V→V→Hp→VK→Prop
def OpR(X:Cx)(f:Value→Value→Sem Value)(r:R2):Prop:=
 ∀(Aa:am)(s:Shared)(σ:St)(H:Hp)(x y:V)(v u:Value)(Q:VK),Inv X Aa σ H s→RelV x v→RelV y u→r x y H Q→
  wpAny (model X.prog X.w) X.A (f v u) (EP X Aa σ Q) X.xe s
def UnR(X:Cx)(f:Value→Sem Value)(r:V→Hp→VK→Prop):Prop:=
 ∀(Aa:am)(s:Shared)(σ:St)(H:Hp)(x:V)(v:Value)(Q:VK),Inv X Aa σ H s→RelV x v→r x H Q→
  wpAny (model X.prog X.w) X.A (f v) (EP X Aa σ Q) X.xe s
def wH(X:Cx)(f:Value)(r:List V→Hp→VK→Prop):Prop:=
 ∀(Aa:am)(s:Shared)(σ:St)(H:Hp)(xs:List V)(us:List Value)(Q:VK),Inv X Aa σ H s→Vals xs us→r xs H Q→
  wpAny (model X.prog X.w) X.A (call f us) (EP X Aa σ Q) X.xe s
def M_(X:Cx)(r:V→Hp→(Bool→Hp→Prop)→Prop):Prop:=
 ∀(Aa:am)(s:Shared)(σ:St)(H:Hp)(x:V)(v:Value)(Q:Bool→Hp→Prop),Inv X Aa σ H s→RelV x v→r x H Q→
  wpAny (model X.prog X.w) X.A (truthy v) (TP X Aa σ Q) X.xe s
def tOp(r:R2)(ta tb:TE):TE:=fun σ H Q=>ta σ H fun x H1=>tb σ H1 fun y H2=>r x y H2 Q
def tUn(r:V→Hp→VK→Prop)(ta:TE):TE:=fun σ H Q=>ta σ H fun x H1=>r x H1 Q
def rI(C:Int→Int→Prop)(g:Int→Int→V):R2:=fun x y H Q=>∃i j,x=.int i∧y=.int j∧C i j∧Q (g i j) H
def rI0(g:Int→Int→V):R2:=fun x y H Q=>∃i j,x=.int i∧y=.int j∧Q (g i j) H
def rU(g:Int→V):V→Hp→VK→Prop:=fun x H Q=>∃i,x=.int i∧Q (g i) H
section
variable{X:Cx}{a b:Expr}{ta tb:TE}{pos:Pos}
theorem Vy(ha:PE X a ta)(hb:PE X b tb){Aa:am}{s:Shared}{σ:St}{H:Hp}{R:V→V→Hp→Prop}(I:Inv X Aa σ H s)
  (h:ta σ H fun x H1=>tb σ H1 fun y H2=>R x y H2) {Q:cp} {f:Value→Value→Sem Value}
  (hf:∀v u s2 x y H2,Inv X Aa σ H2 s2→RelV x v→RelV y u→R x y H2→wpAny (model X.prog X.w) X.A (f v u) Q X.xe s2):
  wpAny (model X.prog X.w) X.A (eval a X.env) (fun v s₁=>wpAny (model X.prog X.w) X.A (eval b X.env) (fun u s₂=>wpAny (model X.prog X.w) X.A (f v u) Q X.xe s₂) X.xe s₁) X.xe s:=by
 refine thn (ha Aa s σ H _ I h) fun v s1 zz=>?_
 obtain⟨x,H1,I1,r1,q1⟩:=zz
 refine thn (hb Aa s1 σ H1 _ I1 q1) fun u s2 zz=>?_
 obtain⟨y,H2,I2,r2,q2⟩:=zz
 exact hf v u s2 x y H2 I2 r1 r2 q2
def gf{op:Operator}{r:R2}(ho:OpR X (binaryOp op) r)(ha:PE X a ta)(hb:PE X b tb):PE X (.BinOp a op b pos) (tOp r ta tb):=by
 intro Aa s σ H Q I h
 exact wpAny_BinOp (Vy ha hb I h fun v u s2 x y H2 I2 rx ry q=>ho Aa s2 σ H2 x y v u Q I2 rx ry q)
def Py{op:UnaryOp}{r:V→Hp→VK→Prop}(ho:UnR X (unaryOp op) r)(ha:PE X a ta):PE X (.UnaryOp op a pos) (tUn r ta):=by
 intro Aa s σ H Q I h
 exact UnaryOp_ (thn (ha Aa s σ H _ I h) fun v s1 ⟨x,H1,I1,r1,q1⟩=>ho Aa s1 σ H1 x v Q I1 r1 q1)
theorem opI{f:Value→Value→Sem Value}{C:Int→Int→Prop}{g:Int→Int→Int}
  (rule:∀(i j:Int)(t u:Tok)(s:Shared)(Q:cp)(E:cp),C i j→Q (.int (g i j) s.toks) { s with toks:=s.toks+1 }→wpAny (model X.prog X.w) X.A (f (.int i t) (.int j u)) Q E s):
  OpR X f (rI C fun i j=>.int (g i j)):=by
 intro Aa s σ H x y v u Q I rx ry h
 obtain⟨i,j,rfl,rfl,hc,q⟩:=h
 obtain⟨t,rfl⟩:=rx
 obtain⟨t',rfl⟩:=ry
 exact rule i j t t' s _ _ hc ⟨.int (g i j),H,I.tok _,⟨_,rfl⟩,q⟩
theorem PM{f:Value→Value→Sem Value}{g:Int→Int→Int}
  (rule:∀(i j:Int)(t u:Tok)(s:Shared)(Q:cp)(E:cp),Q (.int (g i j) s.toks) { s with toks:=s.toks+1 }→wpAny (model X.prog X.w) X.A (f (.int i t) (.int j u)) Q E s):
  OpR X f (rI0 fun i j=>.int (g i j)):=by
 intro Aa s σ H x y v u Q I rx ry h
 obtain⟨i,j,rfl,rfl,q⟩:=h
 obtain⟨t,rfl⟩:=rx
 obtain⟨t',rfl⟩:=ry
 exact rule i j t t' s _ _ ⟨.int (g i j),H,I.tok _,⟨_,rfl⟩,q⟩
theorem Tl{f:Value→Value→Sem Value}{g:Int→Int→Bool}
  (rule:∀(i j:Int)(t u:Tok)(s:Shared)(Q:cp)(E:cp),Q (.bool (g i j)) s→wpAny (model X.prog X.w) X.A (f (.int i t) (.int j u)) Q E s):
  OpR X f (rI0 fun i j=>.bl (g i j)):=by
 intro Aa s σ H x y v u Q I rx ry h
 obtain⟨i,j,rfl,rfl,q⟩:=h
 obtain⟨t,rfl⟩:=rx
 obtain⟨t',rfl⟩:=ry
 exact rule i j t t' s _ _ ⟨.bl (g i j),H,I,rfl,q⟩
def bo(i j:Int):Prop:=j≠0∧j.natAbs<1073741824
def Q8(i j:Int):Prop:=0≤j∧j≤1000000∧i.natAbs<2^64
def Tk:OpR X (binaryOp .Add) (rI0 fun i j=>.int (i+j)):=PM fun _ _ _ _ _ _ _ q=>add_int q
def Th:OpR X (binaryOp .Sub) (rI0 fun i j=>.int (i-j)):=PM fun _ _ _ _ _ _ _ q=>sub_int q
def gp:OpR X (binaryOp .FloorDiv) (rI bo fun i j=>.int (i.fdiv j)):=opI fun _ _ _ _ _ _ _ hc q=>floordiv_int hc.1 q (.inl (PyProof.noPylong_small hc.2))
def ac:OpR X (binaryOp .Mod) (rI (fun _ j=>j≠0) fun i j=>.int (i.fmod j)):=opI fun _ _ _ _ _ _ _ hc q=>mod_int' hc q
def Tj:OpR X (binaryOp .Pow) (rI Q8 fun i j=>.int (i^j.toNat)):=opI fun _ _ _ _ _ _ _ hc q=>pow_int_small hc.1 hc.2.1 hc.2.2 q
theorem unI{f:Value→Sem Value}{g:Int→Int}
  (rule:∀(i:Int)(t:Tok)(s:Shared)(Q:cp)(E:cp),Q (.int (g i) s.toks) { s with toks:=s.toks+1 }→wpAny (model X.prog X.w) X.A (f (.int i t)) Q E s):
  UnR X f (rU fun i=>.int (g i)):=by
 intro Aa s σ H x v Q I rx h
 obtain⟨i,rfl,q⟩:=h
 obtain⟨t,rfl⟩:=rx
 exact rule i t s _ _ ⟨.int (g i),H,I.tok _,⟨_,rfl⟩,q⟩
def Uv:UnR X (unaryOp .USub) (rU fun i=>.int (-i)):=unI fun _ _ _ _ _ q=>neg_int q
end
def Pp:V→V→Bool
 | .non,.non=>true|.non,.int _=>true|.int _,.non=>true|.non,.bl _=>true|.bl _,.non=>true|.non,.str _=>true|.str _,.non=>true
 | .int _,.int _=>true|.bl _,.bl _=>true|.str _,.str _=>true|.byt _,.byt _=>true
 | .int _,.str _=>true|.str _,.int _=>true|.bl _,.str _=>true|.str _,.bl _=>true
 | _,_=>false
def rEq:R2:=fun x y H Q=>Pp x y=true∧Q (.bl (decide (x=y))) H
def rNe:R2:=fun x y H Q=>Pp x y=true∧Q (.bl (!decide (x=y))) H
def kL{i j:Int}:decide (V.int i=V.int j)=(i==j):=by
 rw[BW]
 simp
def cF{i j:Bool}:decide (V.bl i=V.bl j)=(i==j):=by
 rw[BW]
 simp
def kK{i j:Str}:decide (V.str i=V.str j)=(i==j):=by
 rw[BW]
 simp
def kM{i j:Array UInt8}:decide (V.byt i=V.byt j)=(i.toList==j.toList):=by
 rw[BW]
 cases i
 cases j
 simp
section
variable{X:Cx}{a b c:Expr}{ta tb:TE}{pos:Pos}
def zL{Aa:am}{σ:St}{H:Hp}{s:Shared}{Q:VK}{k k':Bool}(I:Inv X Aa σ H s)(q:Q (.bl k) H)(e:k=k'):EP X Aa σ Q (.bool k') s:=by
 subst e
 exact⟨.bl k,H,I,rfl,q⟩
def PL:OpR X (compareOp .Eq) rEq:=by
 intro Aa s σ H x y v u Q I rx ry h
 obtain⟨hs,q⟩:=h
 cases x with
 | non=>
  cases rx
  cases y with
  | non=>cases ry;exact PySem.EqNone.eq_none_none (zL I q (by simp))
  | bl j=>cases ry;exact PySem.EqNone.eq_none_bool (zL I q (by simp))
  | int j=>obtain⟨t',rfl⟩:=ry;exact PySem.EqNone.eq_none_int (zL I q (by simp))
  | str j=>obtain⟨t',rfl⟩:=ry;exact PySem.EqNone.eq_none_str (zL I q (by simp))
  | _=>exact absurd (show false=true from hs) Ba
 | bl i=>
  cases rx
  cases y with
  | non=>cases ry;exact PySem.EqNone.eq_bool_none (zL I q (by simp))
  | bl j=>cases ry;exact eq_bool (zL I q cF)
  | str j=>obtain⟨t',rfl⟩:=ry;exact PySem.EqMixed.eq_bool_str (zL I q (by simp))
  | _=>exact absurd (show false=true from hs) Ba
 | int i=>
  obtain⟨t,rfl⟩:=rx
  cases y with
  | non=>cases ry;exact PySem.EqNone.eq_int_none (zL I q (by simp))
  | int j=>obtain⟨t',rfl⟩:=ry;exact eq_int (zL I q kL)
  | str j=>obtain⟨t',rfl⟩:=ry;exact PySem.EqMixed.eq_int_str (zL I q (by simp))
  | _=>exact absurd (show false=true from hs) Ba
 | str i=>
  obtain⟨t,rfl⟩:=rx
  cases y with
  | non=>cases ry;exact PySem.EqNone.eq_str_none (zL I q (by simp))
  | bl j=>cases ry;exact PySem.EqMixed.eq_str_bool (zL I q (by simp))
  | int j=>obtain⟨t',rfl⟩:=ry;exact PySem.EqMixed.eq_str_int (zL I q (by simp))
  | str j=>obtain⟨t',rfl⟩:=ry;exact eq_str (zL I q kK)
  | _=>exact absurd (show false=true from hs) Ba
 | byt i=>
  obtain⟨t,rfl⟩:=rx
  cases y with
  | byt j=>obtain⟨t',rfl⟩:=ry;exact PySem.W.eq_bytes (zL I q kM)
  | _=>exact absurd (show false=true from hs) Ba
 | _=>cases y<;>exact absurd (show false=true from hs) Ba
def PD:OpR X (compareOp .NotEq) rNe:=by
 intro Aa s σ H x y v u Q I rx ry h
 obtain⟨hs,q⟩:=h
 cases x with
 | non=>
  cases rx
  cases y with
  | non=>cases ry;exact PySem.EqNone.ne_none_none (zL I q (by simp))
  | bl j=>cases ry;exact PySem.EqNone.ne_none_bool (zL I q (by simp))
  | int j=>obtain⟨t',rfl⟩:=ry;exact PySem.EqNone.ne_none_int (zL I q (by simp))
  | str j=>obtain⟨t',rfl⟩:=ry;exact PySem.EqNone.ne_none_str (zL I q (by simp))
  | _=>exact absurd (show false=true from hs) Ba
 | bl i=>
  cases rx
  cases y with
  | non=>cases ry;exact PySem.EqNone.ne_bool_none (zL I q (by simp))
  | bl j=>cases ry;exact ne_bool (zL I q (congrArg not cF))
  | str j=>obtain⟨t',rfl⟩:=ry;exact PySem.EqMixed.ne_bool_str (zL I q (by simp))
  | _=>exact absurd (show false=true from hs) Ba
 | int i=>
  obtain⟨t,rfl⟩:=rx
  cases y with
  | non=>cases ry;exact PySem.EqNone.ne_int_none (zL I q (by simp))
  | int j=>obtain⟨t',rfl⟩:=ry;exact ne_int (zL I q (congrArg not kL))
  | str j=>obtain⟨t',rfl⟩:=ry;exact PySem.EqMixed.ne_int_str (zL I q (by simp))
  | _=>exact absurd (show false=true from hs) Ba
 | str i=>
  obtain⟨t,rfl⟩:=rx
  cases y with
  | non=>cases ry;exact PySem.EqNone.ne_str_none (zL I q (by simp))
  | bl j=>cases ry;exact PySem.EqMixed.ne_str_bool (zL I q (by simp))
  | int j=>obtain⟨t',rfl⟩:=ry;exact PySem.EqMixed.ne_str_int (zL I q (by simp))
  | str j=>obtain⟨t',rfl⟩:=ry;exact ne_str (zL I q (congrArg not kK))
  | _=>exact absurd (show false=true from hs) Ba
 | byt i=>
  obtain⟨t,rfl⟩:=rx
  cases y with
  | byt j=>obtain⟨t',rfl⟩:=ry;exact PySem.W.ne_bytes (zL I q (congrArg not kM))
  | _=>exact absurd (show false=true from hs) Ba
 | _=>cases y<;>exact absurd (show false=true from hs) Ba
def PF:OpR X (compareOp .Lt) (rI0 fun i j=>.bl (decide (i<j))):=Tl fun _ _ _ _ _ _ _ q=>lt_int q
def PH:OpR X (compareOp .Gt) (rI0 fun i j=>.bl (decide (j<i))):=Tl fun _ _ _ _ _ _ _ q=>gt_int q
def PK:OpR X (compareOp .GtE) (rI0 fun i j=>.bl (decide (j≤i))):=Tl fun _ _ _ _ _ _ _ q=>ge_int q
def og:OpR X (compareOp .NotIn) (fun x y H Q=>∃i j,x=.str i∧y=.str j∧Q (.bl (!(!(Builtin.Str.occurrences j i 0 j.length 1).isEmpty))) H):=by
 intro Aa s σ H x y v u Q I rx ry h
 obtain⟨i,j,rfl,rfl,q⟩:=h
 obtain⟨t,rfl⟩:=rx
 obtain⟨t',rfl⟩:=ry
 exact notIn_str (zL I q rfl)
def zo(b:Expr){op:CmpOp}(h:op≠.In:=by decide)(h2:op≠.NotIn:=by decide):behindInMarks op b=false:=by
 have e1:(op==CmpOp.In)=false:=by cases op<;>first|rfl|exact absurd rfl h
 have e2:(op==CmpOp.NotIn)=false:=by cases op<;>first|rfl|exact absurd rfl h2
 cases b<;>simp[behindInMarks,e1,e2]
def bV{op:CmpOp}{r:R2}(ho:OpR X (compareOp op) r)(ha:PE X a ta)(hb:PE X b tb)(hm:behindInMarks op b=false):PE X (.Compare a [op] [b] pos) (tOp r ta tb):=by
 intro Aa s σ H Q I h
 exact wpAny_Compare1 (Vy ha hb I h fun v u s2 x y H2 I2 rx ry q=>ho Aa s2 σ H2 x y v u Q I2 rx ry q) hm
def VP(t:TE):TT:=fun σ H Q=>t σ H fun x H'=>∃k,x=.bl k∧Q k H'
def bL{op:CmpOp}{r:R2}(ho:OpR X (compareOp op) r)(ha:PE X a ta)(hb:PE X b tb)(hm:behindInMarks op b=false):PT X (.Compare a [op] [b] pos) (VP (tOp r ta tb)):=by
 intro Aa s σ H Q I h
 refine wpAny_isTrue_Compare1 (thn (ha Aa s σ H _ I h) fun v s1 ⟨x,H1,I1,r1,q1⟩=>thn (hb Aa s1 σ H1 _ I1 q1) fun u s2 ⟨y,H2,I2,r2,q2⟩=>
  thn (ho Aa s2 σ H2 x y v u _ I2 r1 r2 q2) fun c s3 ⟨z,H3,I3,r3,k,e,q3⟩=>?_) hm
 subst e
 cases r3
 exact wpAny_truthy_bool ⟨H3,I3,q3⟩
def NP(K:A_)(x:V)(H:Hp)(k:Bool):Prop:=
 match x with
 | .non=>k=false
 | .bl b=>k=b
 | .int i=>k=(i != 0)
 | .str y=>y.length≤sizeLine∧k=((y.length:Int) != 0)
 | .byt y=>y.size≤sizeLine∧k=((y.size:Int) != 0)
 | .ref p=>(∃xs,SqL K H p xs∧k=!xs.isEmpty)∨(∃xs,SqT K H p xs∧k=!xs.isEmpty)∨∃kvs,H p=some (.dK kvs)∧k=!kvs.isEmpty
 | _=>False
def lL{κ:Type}{kvs:List (κ×V)}{vs:List (κ×Value)}(r:KV kvs vs):(!vs.isEmpty)=!kvs.isEmpty:=by
 cases r<;>rfl
def rH{xs:List V}{its:List Value}(r:Vals xs its):(!its.toArray.isEmpty)=!xs.isEmpty:=by
 cases r<;>simp
def wU:(sizeLine:Nat)<2^63:=by rw[sizeLine_eq];decide
def Uw:M_ X (fun x H Q=>∃k,NP X.K x H k∧Q k H):=by
 intro Aa s σ H x v Q I rx h
 obtain⟨k,e,q⟩:=h
 have hl:=wU
 have hs:sizeLine=16777216:=sizeLine_eq
 cases x with
 | non=>
  cases rx
  have e':k=false:=e
  subst e'
  exact truthy_none ⟨H,I,q⟩
 | bl b=>
  cases rx
  have e':k=b:=e
  subst e'
  exact wpAny_truthy_bool ⟨H,I,q⟩
 | int i=>
  obtain⟨t,rfl⟩:=rx
  have e':k=(i != 0):=e
  subst e'
  exact PySem.P.truthy_int ⟨H,I,q⟩
 | str y=>
  obtain⟨t,rfl⟩:=rx
  obtain⟨hy,e'⟩:y.length≤sizeLine∧k=((y.length:Int) != 0):=e
  subst e'
  exact PySem.P.truthy_str (by omega) ⟨H,I.tok _,q⟩
 | byt y=>
  obtain⟨t,rfl⟩:=rx
  obtain⟨hy,e'⟩:y.size≤sizeLine∧k=((y.size:Int) != 0):=e
  subst e'
  exact PySem.W.truthy_bytes (by omega) ⟨H,I.tok _,q⟩
 | ref p=>
  cases rx
  have e':(∃xs,SqL X.K H p xs∧k=!xs.isEmpty)∨(∃xs,SqT X.K H p xs∧k=!xs.isEmpty)∨∃kvs,H p=some (.dK kvs)∧k=!kvs.isEmpty:=e
  rcases e' with ⟨xs,hx,e'⟩|⟨xs,hx,e'⟩|⟨kvs,hx,e'⟩
  ·subst e'
   obtain⟨its,r,pl,hz⟩:=I.list hx
   have hlen:=r.length
   exact wpAny_truthy_list pl.isList (by simp only[List.size_toArray];omega) ⟨H,I.tok _,by rw[rH r];exact q⟩
  ·subst e'
   obtain⟨its,r,pl,hz⟩:=I.tuple hx
   have hlen:=r.length
   exact truthy_tuple pl (by simp only[List.size_toArray];omega) ⟨H,I.tok _,by rw[rH r];exact q⟩
  ·subst e'
   obtain⟨hz,hS,vs,r,m⟩:kvs.length≤sizeLine∧(p==sysModules)=false∧∃vs,KV kvs vs∧s.heap.DictOf (ou X.prog X.w) p vs:=I.hok p _ hx
   have hlen:kvs.length=vs.length:=Paired.length r
   exact wpAny_truthy_dict hS m (by omega) ⟨H,I.tok _,by rw[lL r];exact q⟩
 | _=>exact(show False from e).elim
theorem nw(ha:PE X a ta)(he:∀whole,isTrue a X.env whole=(do let v ←whole;standAt a.pos;holding [v] (truthy v))):
  PT X a (fun σ H Q=>ta σ H fun x H'=>∃k,NP X.K x H' k∧Q k H'):=by
 intro Aa s σ H Q I h
 exact isTrue_plain (thn (ha Aa s σ H _ I h) fun v s1 ⟨x,H1,I1,r1,q1⟩=>Uw Aa s1 σ H1 x v Q I1 r1 q1) (he _)
def mF(b:Expr):Prop:=∀o i,subscripted b false o i=operate [o,i] (getItem o i)
theorem nH(ha:PE X a ta)(hb:PE X b tb)(hs:mF b):
  PE X (.Subscript a b pos) (tOp (fun x y H Q=>∃z i c,x=.str z∧y=.int i∧0≤i∧i<2^63∧i<z.length∧z.cps[i.toNat]? = some c∧Q (.str ⟨#[c]⟩) H) ta tb):=by
 intro Aa s σ H Q I h
 refine Subscript_ (Vy ha hb I h fun v u s2 x y H2 I2 rx ry q=>?_)
 obtain⟨z,i,c,rfl,rfl,h0,h63,h1,hc,q⟩:=q
 obtain⟨t,rfl⟩:=rx
 obtain⟨t',rfl⟩:=ry
 have e:seqIndex? i z.length=some i.toNat:=PySem.StrLaws.seqIndex_nonneg h0 h1
 exact tail_any (typeIs_str s2 z t) slot_str_getitem.lookup (getItem_str (c:=c) (by
  have e1:decide (i < -(2^63:Int))=false:=decide_eq_false (by omega)
  have e2:decide (i≥2^63)=false:=decide_eq_false (by omega)
  rw[e1,e2]<;>rfl) (by rw[e];exact hc) ⟨.str ⟨#[c]⟩,H2,I2.tok _,⟨_,rfl⟩,q⟩) (hs _ _)
def ki{x:V}{us:List Value}(r:Vals [x] us):∃u,us=[u]∧RelV x u:=by
 cases r with
 | cons r1 r2=>cases r2;exact⟨_,rfl,r1⟩
def VO{x y:V}{us:List Value}(r:Vals [x,y] us):∃u w',us=[u,w']∧RelV x u∧RelV y w':=by
 cases r with
 | cons r1 r2=>
  cases r2 with
  | cons r3 r4=>cases r4;exact⟨_,_,rfl,r1,r3⟩
def iB(hc:X.calm=true):wH X (.builtin "max") (fun xs H Q=>∃i j,xs=[.int i,.int j]∧Q (.int (if j>i then j else i)) H):=by
 intro Aa s σ H xs us Q I r h
 obtain⟨i,j,rfl,q⟩:=h
 obtain⟨u,w',rfl,⟨t,rfl⟩,⟨t',rfl⟩⟩:=VO r
 refine max_two_ints (I.ok.hd hc) fun h' tk k=>⟨_,H,I.kept k,?_,q⟩
 by_cases hj:j>i
 ·rw[if_pos hj,if_pos hj];exact⟨_,rfl⟩
 ·rw[if_neg hj,if_neg hj];exact⟨_,rfl⟩
def iA(hc:X.calm=true):wH X (.builtin "min") (fun xs H Q=>∃i j,xs=[.int i,.int j]∧Q (.int (if j<i then j else i)) H):=by
 intro Aa s σ H xs us Q I r h
 obtain⟨i,j,rfl,q⟩:=h
 obtain⟨u,w',rfl,⟨t,rfl⟩,⟨t',rfl⟩⟩:=VO r
 refine min_two_ints (I.ok.hd hc) fun h' tk k=>⟨_,H,I.kept k,?_,q⟩
 by_cases hj:j<i
 ·rw[if_pos hj,if_pos hj];exact⟨_,rfl⟩
 ·rw[if_neg hj,if_neg hj];exact⟨_,rfl⟩
def oO:wH X (.type "str") (fun xs H Q=>∃i,xs=[.int i]∧i.natAbs.log2<1920∧Q (.str (toString i)) H):=by
 intro Aa s σ H xs us Q I r h
 obtain⟨i,rfl,hz,q⟩:=h
 obtain⟨u,rfl,t,rfl⟩:=ki r
 exact PySem.P.str_of_int hz ⟨.str _,H,I.tok _,⟨_,rfl⟩,q⟩
end
structure ObjM(h:Heap)(x dx C:Addr)(mA:be):Prop where
 obj:h.get? x=some (PySem.W.instObj C dx)
 ns:h.Ns1 dx mA
 ne:dx≠x
def jX{h:Heap}{dx:Addr}{mA:be}(n:h.Ns1 dx mA):∃od,h.get? dx=some od∧∀name,PySem.W.lookIn name od=some (mA name):=by
 obtain⟨o,es,ep,ho,hd,hk,_,hm⟩:=n
 refine⟨o,ho,fun name=>?_⟩
 have e:=hm name
 unfold nsFind findBy at e
 rw[←Array.find?_toList]at e
 unfold PySem.W.lookIn
 rw[hd]
 dsimp only
 split
 ·rename_i y q
  rw[q]at e
  exact congrArg some e
 ·rename_i q
  rw[q]at e
  have a:es.toList.any (·.refKey)=false:=by
   rw[List.any_eq_false]
   intro y hy
   obtain⟨z,t,hkey⟩:=hk y (Array.mem_toList_iff.mp hy)
   simp[DictEntry.refKey,hkey]
  have a':¬es.toList.any (·.refKey)=true:=by rw[a];exact Ba
  rw[if_neg a']
  exact congrArg some e
def ObjM.look{h:Heap}{x dx C:Addr}{mA:be}(I:ObjM h x dx C mA):∃od,PySem.W.InstAt h x (PySem.W.instObj C dx) C (some od)∧∀name,PySem.W.lookIn name od=some (mA name):=
 let⟨od,ho,hl⟩:=jX I.ns
 ⟨od,⟨I.obj,rfl,rfl,ho⟩,hl⟩
section
variable{prog:Program}{w:World}{A:Around}{E:cp}{s:Shared}{K:A_}{x dx C f:Addr}{mA:be}{name:Str}{v:Value}
theorem WW{expr:Bool}{Q:cp}(X:K.In s.heap)(I:ObjM s.heap x dx C mA)(hg:PySem.W.plainGet K C name=true)(hh:PySem.W.hasDictIn K C=true)
  (ha:PySem.W.findIn K (.ref C) name=some none) (hv:mA name=some v) (hv':PySem.W.handedIn v=true) (h:Q v { s with toks:=s.toks+1 }):
  wpAny (model prog w) A (getAttr (.ref x) name expr) Q E s:=by
 obtain⟨od,J,hl⟩:=I.look
 exact PySem.W.get_value X J (PySem.W.plainGet_of hg).1 (PySem.W.findObj_own hh ha rfl (by rw[hl,hv])) hv' h
theorem d7{pl:Sem Bool}{Q:Value×List Value→Shared→Prop}(X:K.In s.heap)(I:ObjM s.heap x dx C mA)(hg:PySem.W.plainGet K C name=true)
  (hf:PySem.W.findIn K (.ref C) name=some (some (.ref f))) (ht:PySem.W.isFn K (.ref f)=true) (hv:mA name=none) (h:Q (.ref f,[.ref x]) s):
  wpAny (model prog w) A (getMethod (.ref x) name pl) Q E s:=by
 obtain⟨od,J,hl⟩:=I.look
 exact PySem.W.method_fn X J (PySem.W.plainGet_of hg).1 (PySem.W.plainGet_of hg).2 hf (beq_iff_eq.mp ht) (by show(PySem.W.lookIn name od).map (·.isSome)=some false;rw[hl,hv];rfl) h
theorem bC{ns:List Str}{Q:Unit→Shared→Prop}(X:K.In s.heap)(I:ObjM s.heap x dx C mA)
  (hs:PySem.W.findIn K (.ref C) "__setattr__"=some (some (.builtin "object.__setattr__"))) (hp:PySem.W.plainOver K C=true) (ht:PySem.W.takerIn K C name=some none) (hh:PySem.W.hasDictIn K C=true)
  (hw:PySem.Within mA ns) (hsz:ns.length≤sizeLine)
  (h:∀h',ObjM h' x dx C (fun y=>if y=name then some v else mA y)→Heap.SameBut dx s.heap h'→Q () { s with heap:=h',toks:=s.toks+2 }):
  wpAny (model prog w) A (setAttr (.ref x) name v) Q E s:=by
 obtain⟨od,J,hl⟩:=I.look
 refine PySem.W.set_plain X J hs (PySem.W.osa_open (s:={ s with toks:=s.toks+1 }) (r:=none) X J hp ht fun b=>?_)
 obtain⟨cd,hc,hd'⟩:=PySem.W.any_some hh
 have hx:s.heap.get? x=some ⟨.ref C,some dx,.plain,#[]⟩:=I.obj
 refine wpAny_bind (wpAny_pure (wpAny_bind (wpAny_bind (wpAny_loadPart hx (wpAny_bind (PySem.W.Looks.here (s:={ s with toks:=s.toks+1 }) (PySem.W.looks_clsIn X hc) ?_))))))
 rw[hd']
 refine wpAny_pure (a:=some dx) (wpAny_bind (wpAny_pure (wpAny_bind ?_)))
 refine wpAny_nsSet1 (s:={ s with toks:=s.toks+1 }) I.ns fun h' hn2 hs2=>?_
 obtain⟨oD,esD,epD,hoD,hdD,hcD⟩:=hn2.count (PySem.Within.cons name v hw)
 refine wpAny_bind (wpAny_lookBehind hoD (by rw[hdD];exact pastItsLine_dict (Br hcD (by rw[Bm];omega))) ?_)
 exact wpAny_pure (h _ ⟨(hs2.2 _ (Ne.symm I.ne)).trans I.obj,hn2,I.ne⟩ hs2)
theorem dF{R:Result→Shared→Prop}{vs:List Value}{kw:List (Str×Value)}(X:K.In s.heap)(hm:PySem.W.makesIn K C=true)
  (hi:PySem.W.findIn K (.ref C) "__init__"=some (some (.ref f))) (hf:PySem.W.typeIn K (.ref f)=some (.type "function"))
  (h:codeAny (model prog w) (A.under (.builtin "type.__call__" ⟨.ref C::vs,kw⟩)) (.call (.ref f) ⟨.ref (s.heap.objs.size+1)::vs,kw⟩) (PySem.W.InitBack (s.heap.objs.size+1) R)
   { s with heap:=(s.heap.push PySem.W.emptyDict).push (PySem.W.instObj C s.heap.objs.size) }):
  codeAny (model prog w) A (.call (.ref C) ⟨vs,kw⟩) R s:=by
 obtain⟨hh,g,d,t,os⟩:=s
 exact PySem.W.make_core (PySem.W.makes_of X hm) (PySem.W.looks_findIn X hi) (fun self=>PySem.W.bind_fn X self hf) (.inl rfl) h
end
def vx(f:Str)(v:V):List (Str×V)→List (Str×V)
 | []=>[(f,v)]
 | (g,x)::r=>if g=f then(g,v)::r else(g,x)::vx f v r
theorem tx(f g:Str)(v:V):∀fs:List (Str×V),(vx f v fs).lookup g=if g=f then some v else fs.lookup g
 | []=>by
  show List.lookup g [(f,v)]=_
  by_cases h:g=f
  ·have hb:(g==f)=true:=beq_iff_eq.mpr h
   simp only[List.lookup,hb,if_pos h]
  ·have hb:(g==f)=false:=beq_eq_false_iff_ne.mpr h
   simp only[List.lookup,hb,if_neg h]
 | (k,x)::r=>by
  have ih:=tx f g v r
  rw[show vx f v ((k,x)::r)=(if k=f then(k,v)::r else(k,x)::vx f v r) from rfl]
  by_cases hk:k=f
  ·rw[if_pos hk]
   by_cases h:g=k
   ·have hb:(g==k)=true:=beq_iff_eq.mpr h
    simp only[List.lookup,hb,if_pos (h.trans hk)]
   ·have hb:(g==k)=false:=beq_eq_false_iff_ne.mpr h
    simp only[List.lookup,hb,if_neg (fun e:g=f=>h (e.trans hk.symm))]
  ·rw[if_neg hk]
   by_cases h:g=k
   ·have hb:(g==k)=true:=beq_iff_eq.mpr h
    simp only[List.lookup,hb,if_neg (fun e:g=f=>hk (h.symm.trans e))]
   ·have hb:(g==k)=false:=beq_eq_false_iff_ne.mpr h
    simp only[List.lookup,hb]
    exact ih
theorem uS(f:Str)(v:V):∀fs:List (Str×V),f∈(vx f v fs).map (·.1)∧∀g,g∈fs.map (·.1)→g∈(vx f v fs).map (·.1)
 | []=>⟨by simp[vx],fun g h=>by simp at h⟩
 | (k,x)::r=>by
  obtain⟨i1,i2⟩:=uS f v r
  rw[show vx f v ((k,x)::r)=(if k=f then(k,v)::r else(k,x)::vx f v r) from rfl]
  by_cases hk:k=f
  ·rw[if_pos hk]
   subst hk
   exact⟨by simp,fun g h=>by simpa using h⟩
  ·rw[if_neg hk]
   refine⟨?_,fun g h=>?_⟩
   ·rw[B1]
    exact Bd _ i1
   ·rw[B1]at h ⊢
    rcases Bk.mp h with e|e
    ·exact Bk.mpr (.inl e)
    ·exact Bd _ (i2 g e)
theorem tz(f:Str)(v:V):∀fs:List (Str×V),(vx f v fs).length≤fs.length+1
 | []=>by simp[vx]
 | (k,x)::r=>by
  have ih:=tz f v r
  rw[show vx f v ((k,x)::r)=(if k=f then(k,v)::r else(k,x)::vx f v r) from rfl]
  by_cases hk:k=f
  ·rw[if_pos hk,Bm,Bm];omega
  ·rw[if_neg hk,Bm,Bm];omega
def RelO.some_of{v:V}{o:Option Value}(r:RelO (some v) o):∃u,o=some u∧RelV v u:=by
 cases o with
 | none=>exact(show False from r).elim
 | some u=>exact⟨u,rfl,r⟩
def RelO.none_of{o:Option Value}(r:RelO none o):o=none:=by
 cases o with
 | none=>rfl
 | some u=>exact(show False from r).elim
def j8{v:V}{u:Value}(r:RelV v u):PySem.W.handedIn u=true:=by
 cases v with
 | non=>cases(show u=Value.none from r);rfl
 | bl b=>cases(show u=Value.bool b from r);rfl
 | int i=>obtain⟨t,e⟩:=(show ∃t,u=Value.int i t from r);cases e;rfl
 | str x=>obtain⟨t,e⟩:=(show ∃t,u=Value.str x t from r);cases e;rfl
 | byt b=>obtain⟨t,e⟩:=(show ∃t,u=Value.bytes b t from r);cases e;rfl
 | flt b=>obtain⟨t,e⟩:=(show ∃t,u=Value.float b t from r);cases e;rfl
 | ref a=>cases(show u=Value.ref a from r);rfl
 | ty n=>cases(show u=Value.type n from r);rfl
section
variable{P:Program}{w:World}{H:Hp}{h:Heap}{a C dx:Addr}{fs:List (Str×V)}
def sC(hok:HOk P w H h)(e:H a=some (.ins C dx fs)):∃mA,ObjM h a dx C mA∧(∀f,RelO (fs.lookup f) (mA f))∧PySem.Within mA (fs.map (·.1))∧fs.length≤1000∧H dx=some (.own a):=by
 obtain⟨d,z,ne,ob,mA,n,r,q⟩:=(show ObjOk P w H h a (.ins C dx fs) from hok a _ e)
 exact⟨mA,⟨ob,n,ne⟩,r,q,z,d⟩
end
structure Cls(K:A_)(C:Addr):Prop where
 pg:PySem.W.plainGet K C Str.empty=true
 hd:PySem.W.hasDictIn K C=true
 po:PySem.W.plainOver K C=true
 sa:PySem.W.findIn K (.ref C) "__setattr__"=some (some (.builtin "object.__setattr__"))
def Cls.get{K:A_}{C:Addr}(c:Cls K C)(f:Str):PySem.W.plainGet K C f=true:=c.pg
def NoAttr(K:A_)(C:Addr)(f:Str):Prop:=PySem.W.findIn K (.ref C) f=some none
def NoAttr.taker{K:A_}{C:Addr}{f:Str}(n:NoAttr K C f):PySem.W.takerIn K C f=some none:=by
 unfold PySem.W.takerIn
 rw[show PySem.W.findIn K (.ref C) f=some none from n]
 rfl
structure VI(K:A_)(C:Addr)(m:Str)(f:Addr):Prop where
 at_:PySem.W.findIn K (.ref C) m=some (some (.ref f))
 fn:PySem.W.isFn K (.ref f)=true
 kp:PySem.W.keepIn K (.ref f)=true
section
variable{X:Cx}{Aa:am}{σ:St}{H:Hp}{s:Shared}{a C dx:Addr}{fs:List (Str×V)}{f:Str}{v:V}{A:Around}{E:cp}
theorem lO{b:Bool}{Q:cp}(I:Inv X Aa σ H s)(e:H a=some (.ins C dx fs))(c:Cls X.K C)(n:NoAttr X.K C f)(l:fs.lookup f=some v)
  (h:∀u s',Inv X Aa σ H s'→RelV v u→Q u s'):wpAny (model X.prog X.w) A (getAttr (.ref a) f b) Q E s:=by
 obtain⟨mA,O,r,_,_,_⟩:=sC I.hok e
 obtain⟨u,hu,ru⟩:=RelO.some_of (v:=v) (o:=mA f) (by rw[←l];exact r f)
 exact WW I.kIn O (c.get f) c.hd n hu (j8 ru) (h u _ (I.tok _) ru)
theorem rL{m:Str}{g:Addr}{pl:Sem Bool}{Q:Value×List Value→Shared→Prop}(I:Inv X Aa σ H s)(e:H a=some (.ins C dx fs))(c:Cls X.K C)(k:VI X.K C m g)(l:fs.lookup m=none)
  (h:Q (.ref g,[.ref a]) s):wpAny (model X.prog X.w) A (getMethod (.ref a) m pl) Q E s:=by
 obtain⟨mA,O,r,_,_,_⟩:=sC I.hok e
 have hn:mA m=none:=RelO.none_of (by rw[←l];exact r m)
 exact d7 I.kIn O (c.get m) k.at_ k.fn hn h
theorem mO{y:V}{u:Value}{Q:Unit→Shared→Prop}(I:Inv X Aa σ H s)(e:H a=some (.ins C dx fs))(c:Cls X.K C)(n:NoAttr X.K C f)(hl:fs.length<1000)(ry:RelV y u)
  (h:∀s',Inv X Aa σ (upd H a (.ins C dx (vx f y fs))) s'→Q () s'):wpAny (model X.prog X.w) A (setAttr (.ref a) f u) Q E s:=by
 obtain⟨mA,O,r,wi,_,ho⟩:=sC I.hok e
 have hz:(fs.map (·.1)).length≤sizeLine:=by rw[A',sizeLine_eq];omega
 refine bC I.kIn O c.sa c.po n.taker c.hd wi hz fun h' O' sb=>h _ ?_
 have hd:∃o,h'.get? dx=some o:=let⟨o,_,_,e',_⟩:=O'.ns; ⟨o,e'⟩
 refine I.write (x:=a) (e:=dx) (by rw[e];exact True.intro) (.inr ho) (fun b q hb z=>(sb.2 b hb).trans z) hd ?_
 refine⟨by rw[zt O.ne];exact ho,?_,O.ne,O'.obj,_,O'.ns,fun g=>?_,fun g hg=>?_⟩
 ·have:=tz f y fs;omega
 ·show RelO ((vx f y fs).lookup g) (if g=f then some u else mA g)
  rw[tx]
  by_cases q:g=f
  ·rw[if_pos q,if_pos q];exact ry
  ·rw[if_neg q,if_neg q];exact r g
 ·by_cases q:g=f
  ·rw[q];exact(uS f y fs).1
  ·refine(uS f y fs).2 g (wi g fun z=>hg ?_)
   show(if g=f then some u else mA g)=none
   rw[if_neg q];exact z
theorem Inv.made(I:Inv X Aa σ H s):Inv X Aa σ (upd (upd H s.heap.objs.size (.own (s.heap.objs.size+1))) (s.heap.objs.size+1) (.ins C s.heap.objs.size []))
  { s with heap:=(s.heap.push PySem.W.emptyDict).push (PySem.W.instObj C s.heap.objs.size) }:=by
 have e1:(s.heap.push PySem.W.emptyDict).get? s.heap.objs.size=some PySem.W.emptyDict:=Heap.get?_push_size s.heap rfl
 have e2:((s.heap.push PySem.W.emptyDict).push (PySem.W.instObj C s.heap.objs.size)).get? (s.heap.objs.size+1)=some (PySem.W.instObj C s.heap.objs.size):=by
  have:=Heap.get?_push_size (s.heap.push PySem.W.emptyDict) (o:=PySem.W.instObj C s.heap.objs.size) rfl
  rwa [Heap.size_push]at this
 have e3:(s.heap.push PySem.W.emptyDict).Ns s.heap.objs.size (fun _=>none):=⟨PySem.W.emptyDict,#[],_,e1,rfl,(fun e he=>absurd he (by simp)),fun _=>rfl⟩
 have I1:=I.laid (a:=s.heap.objs.size) (o:=.own (s.heap.objs.size+1)) (h':=s.heap.push PySem.W.emptyDict) (t':=s.toks) (fun b u q=>Heap.get?_push_of_some _ q) (Bg _) ⟨_,e1⟩
 refine I1.laid (a:=s.heap.objs.size+1) (o:=.ins C s.heap.objs.size []) (t':=s.toks) (fun b u q=>Heap.get?_push_of_some _ q) (Nat.le_of_eq (Heap.size_push _ _)) ?_
 have ne:s.heap.objs.size≠s.heap.objs.size+1:=Bl (Nat.lt_succ_self _)
 refine⟨by rw[zt ne,zr],BY _,ne,e2,fun _=>none,(Heap.Ns1.of_empty e3).at fun o q=>Heap.get?_push_of_some _ q,fun _=>True.intro,fun y hy=>absurd rfl hy⟩
theorem VA{prog:Program}{w:World}{env:Env}{e:Expr}{f:Str}{pos:Pos}{s:Shared}{Q:cp}(hb:attributeBase e f env (eval e env)=eval e env)
  (h:wpAny (model prog w) A (eval e env) (fun o s₁=>wpAny (model prog w) A (getAttr o f true) Q E s₁) E s):wpAny (model prog w) A (eval (.Attribute e f pos) env) Q E s:=
 Attribute_any_ h (by rw[arm_eval_Attribute,hb])
end
def N2(K:A_)(ta:TE)(f:Str):TE:=fun σ H Q=>ta σ H fun x H1=>∃a C dx fs v,x=.ref a∧H1 a=some (.ins C dx fs)∧Cls K C∧NoAttr K C f∧fs.lookup f=some v∧Q v H1
def Pq(K:A_)(ta tv:TE)(f:Str):TS:=fun D σ H=>tv σ H fun y H1=>ta σ H1 fun x H2=>∃a C dx fs,x=.ref a∧H2 a=some (.ins C dx fs)∧Cls K C∧NoAttr K C f∧fs.length<1000∧
 D.nx σ (upd H2 a (.ins C dx (vx f y fs)))
section
variable{X:Cx}{o e value:Expr}{f:Str}{pos pos':Pos}{ta tv:TE}
def Tb(he:PE X e ta)(hb:attributeBase e f X.env (eval e X.env)=eval e X.env):PE X (.Attribute e f pos) (N2 X.K ta f):=by
 intro Aa s σ H Q I h
 refine VA hb (thn (he Aa s σ H _ I h) fun u s1 zz=>?_)
 obtain⟨x,H1,I1,rx,a,C,dx,fs,v,ex,ea,c,n,l,q⟩:=zz
 subst ex
 obtain rfl:u=Value.ref a:=rx
 exact lO I1 ea c n l fun u' s2 I2 ru=>⟨v,H1,I2,ru,q⟩
def uK(ha:PE X o ta)(hv:PE X value tv)(hs:swapsWith value (some (.Attribute o f pos')) pos.line X.env=pure false):PS X (.Assign [.Attribute o f pos'] value pos) (Pq X.K ta tv f):=by
 intro Aa s σ H D I h
 refine plainObj_wpAny_Assign_Attribute (thn (hv Aa s σ H _ I h) fun u s1 ⟨y,H1,I1,ry,q⟩=>thn (ha Aa s1 σ H1 _ I1 q) fun ov s2 zz=>?_) hs
 obtain⟨x,H2,I2,rx,a,C,dx,fs,ex,ea,c,n,l,q2⟩:=zz
 subst ex
 obtain rfl:ov=Value.ref a:=rx
 exact mO I2 ea c n l ry fun s3 I3=>⟨σ,_,I3,q2⟩
end
section
variable{X:Cx}{Aa:am}{σ:St}{H:Hp}{s:Shared}{A:Around}{E:cp}{Q:cp}{c:Value}{b:Bool}
inductive vY(K:A_)(H:Hp):V→Value→Prop where
 | non:vY K H .non (.type "NoneType")
 | bl (x:Bool):vY K H (.bl x) (.type "bool")
 | int (i:Int):vY K H (.int i) (.type "int")
 | str (x:Str):vY K H (.str x) (.type "str")
 | flt (x:UInt64):vY K H (.flt x) (.type "float")
 | lst {a:Addr} {xs:List V} (e:H a=some (.lst xs)):vY K H (.ref a) (.type "list")
 | frz {a:Addr} {o:Obj} {xs:List V} (e:H a=some (.frz o (.lst xs))):vY K H (.ref a) (.type "list")
 | tup {a:Addr} {xs:List V} (e:H a=some (.tup xs)):vY K H (.ref a) (.type "tuple")
 | dK {a:Addr} {kvs:List (Key×V)} (e:H a=some (.dK kvs)):vY K H (.ref a) (.type "dict")
 | dT {a:Addr} {kvs:List (List Key×V)} (e:H a=some (.dT kvs)):vY K H (.ref a) (.type "dict")
 | ins {a C dx:Addr} {fs:List (Str×V)} (e:H a=some (.ins C dx fs)) (cl:Cls K C) (ha:PySem.W.findIn K (.ref C) "__class__"=some (some (.builtin "object.__class__")))
   (hn:PySem.W.specialIn K (.builtin "object.__class__") "__get__"=some (some (.builtin "getset_descriptor.__get__"))) (htk:PySem.W.takesIn K (.builtin "object.__class__")=some true)
   (hm:PySem.W.mroIn K C (.type "object")=some true):vY K H (.ref a) (.ref C)
def qX{x:V}{u t:Value}(I:Inv X Aa σ H s)(rx:RelV x u)(ty:vY X.K H x t)(e:PySem.W.kitOne X.K t c=some b)(h:∀tk,Q (.bool b) { s with toks:=tk }):
  wpAny (model X.prog X.w) A (call (.builtin "isinstance") [u,c]) Q E s:=by
 cases ty with
 | non=>cases(show u=Value.none from rx);exact PySem.W.kia_one PySem.W.kitx_none I.kIn True.intro e (fun z=>nomatch z) h
 | bl y=>cases(show u=Value.bool y from rx);exact PySem.W.kia_one PySem.W.kitx_bool I.kIn True.intro e (fun z=>nomatch z) h
 | int i=>obtain⟨t,q⟩:=(show ∃t,u=Value.int i t from rx);cases q;exact PySem.W.kia_one PySem.W.kitx_int I.kIn True.intro e (fun z=>nomatch z) h
 | str y=>obtain⟨t,q⟩:=(show ∃t,u=Value.str y t from rx);cases q;exact PySem.W.kia_one PySem.W.kitx_str I.kIn True.intro e (fun z=>nomatch z) h
 | flt y=>obtain⟨t,q⟩:=(show ∃t,u=Value.float y t from rx);cases q;exact PySem.W.kia_one PySem.W.kitx_float I.kIn True.intro e (fun z=>nomatch z) h
 | @lst a xs ea=>
  cases(show u=Value.ref a from rx)
  obtain⟨_,_,n,_,h1⟩:=(show ObjOk X.prog X.w H s.heap a (.lst xs) from I.hok a _ ea)
  exact PySem.W.kia_one PySem.W.kitx_list I.kIn ⟨_,h1,rfl⟩ e (fun z=>nomatch z) h
 | @frz a ob xs ea=>
  cases(show u=Value.ref a from rx)
  obtain⟨_,_,_,n,_,h1⟩:=(show ObjOk X.prog X.w H s.heap a (.frz ob (.lst xs)) from I.hok a _ ea)
  exact PySem.W.kia_one PySem.W.kitx_list I.kIn ⟨_,h1,rfl⟩ e (fun z=>nomatch z) h
 | @tup a xs ea=>
  cases(show u=Value.ref a from rx)
  obtain⟨_,_,_,p⟩:=(show ObjOk X.prog X.w H s.heap a (.tup xs) from I.hok a _ ea)
  obtain⟨o,h1,h2,_⟩:=p
  exact PySem.W.kia_one PySem.W.kitx_tuple I.kIn ⟨o,h1,h2⟩ e (fun z=>nomatch z) h
 | @dK a kvs ea=>
  cases(show u=Value.ref a from rx)
  obtain⟨_,_,vs,_,p⟩:=(show ObjOk X.prog X.w H s.heap a (.dK kvs) from I.hok a _ ea)
  obtain⟨o,es,ep,h1,h2,_⟩:=p
  exact PySem.W.kia_one PySem.W.kitx_dict I.kIn ⟨o,h1,h2.1⟩ e (fun z=>nomatch z) h
 | @dT a kvs ea=>
  cases(show u=Value.ref a from rx)
  obtain⟨_,_,xs,_,o,es,ep,h1,h2,_⟩:=(show ObjOk X.prog X.w H s.heap a (.dT kvs) from I.hok a _ ea)
  exact PySem.W.kia_one PySem.W.kitx_dict I.kIn ⟨o,h1,h2.1⟩ e (fun z=>nomatch z) h
 | @ins a C dx fs ea cl ha hn htk hm=>
  cases(show u=Value.ref a from rx)
  obtain⟨mA,O,_⟩:=sC I.hok ea
  obtain⟨od,J,_⟩:=O.look
  exact PySem.W.kia_one (PySem.W.kitx_own (cl.get _) cl.hd ha hn htk hm) I.kIn J e (fun z=>nomatch z) h
end
structure Room(k:Nat)(A:Around):Prop where
 hd:A.handled=none
 dp:A.depth+3*k+5<recursionLimit
 un:A.units+16*k+200<cLine
def Room.mono{j k:Nat}{A:Around}(r:Room k A)(h:j≤k):Room j A:=⟨r.hd,by have:=r.dp;omega,by have:=r.un;omega⟩
def Room.deeper{k:Nat}{A:Around}(r:Room (k+1) A)(env:Env):Room k (A.deeper env):=
 ⟨r.hd,by have:=r.dp;show A.depth+1+3*k+5<_;omega,by have:=r.un;show A.units+3+16*k+200<_;omega⟩
def lI{A:Around}{C:Addr}{us:List Value}{kw:List (Str×Value)}:(A.under (.builtin "type.__call__" ⟨.ref C::us,kw⟩)).depth=A.depth+1:=by
 first|rfl|simp[Around.under,Code.weight,Code.isCreation,Code.isGuard,Code.isCaller,Code.frames,Code.isFrame,guardIds]
def lH{A:Around}{C:Addr}{us:List Value}{kw:List (Str×Value)}:(A.under (.builtin "type.__call__" ⟨.ref C::us,kw⟩)).units=A.units+1:=by
 first|rfl|simp[Around.under,Code.cUnits,Code.frames,Code.isFrame]
def Room.make{k:Nat}{A:Around}(r:Room (k+1) A)(C:Addr)(us:List Value)(kw:List (Str×Value)):Room k (A.under (.builtin "type.__call__" ⟨.ref C::us,kw⟩)):=
 ⟨r.hd,by have:=r.dp;rw[lI];omega,by have:=r.un;rw[lH];omega⟩
def Room.depth{k:Nat}{A:Around}(r:Room k A):A.depth<recursionLimit:=by have:=r.dp;omega
def Room.units{k:Nat}{A:Around}(r:Room k A):A.units+64<cLine:=by have:=r.un;omega
def UA:TA:=fun _ H Q=>Q [] H
def VQ(ta:TE)(tr:TA):TA:=fun σ H Q=>ta σ H fun x H1=>tr σ H1 fun xs H2=>Q (x::xs) H2
section
variable{X:Cx}{e:Expr}{es:List Expr}{te:TE}{t:TA}{pos:Pos}
def zS:PA X [] UA:=fun _ _ _ _ H Q I h=>Calls.spliced_nil ⟨[],H,I,.nil,h⟩
def zB(ha:PE X e te)(hr:PA X es t)(hs:J' X.env e es:=by rfl):PA X (e::es) (VQ te t):=by
 intro pos Aa s σ H Q I h
 rw[hs]
 show wpAny _ _ (spliced ((false,eval e X.env)::backTo pos (starEach es X.env))) _ _ s
 refine Calls.spliced_cons (thn (ha Aa s σ H _ I h) fun u s1 zz=>?_)
 obtain⟨x,H1,I1,r1,q1⟩:=zz
 exact thn (hr pos Aa s1 σ H1 _ I1 q1) fun us s2 ⟨xs,H2,I2,r2,q2⟩=>⟨x::xs,H2,I2,.cons r1 r2,q2⟩
def NT(t:TA):TE:=fun σ H Q=>t σ H fun xs H1=>xs.length≤sizeLine∧∀p,H1 p=none→Q (.ref p) (upd H1 p (.tup xs))
def NX(t:TA):TE:=fun σ H Q=>t σ H fun xs H1=>xs.length≤sizeLine∧∀p,H1 p=none→Q (.ref p) (upd H1 p (.lst xs))
def pZ{x1}(h:PA X es t):PE X (.Tuple es x1 pos) (NT t):=by
 intro Aa s σ H Q I hq
 refine wpAny_Tuple_spliced (thn (h pos Aa s σ H _ I hq) fun us s1 ⟨xs,H1,I1,r,z,q⟩=>⟨by rw[←r.length];exact z,?_⟩)
 have hf:H1 s1.heap.objs.size=none:=I1.hok.fresh (Bg _)
 refine⟨.ref s1.heap.objs.size,upd H1 s1.heap.objs.size (.tup xs),I1.laid (t':=s1.toks) (fun b u e=>Heap.get?_push_of_some _ e) (Bg _) ?_,rfl,q _ hf⟩
 exact⟨z,us,r,⟨_,Heap.get?_push_size _ rfl,rfl,_,rfl⟩⟩
def gg(h:PA X es t):PE X (.List es pos) (NX t):=by
 intro Aa s σ H Q I hq
 refine wpAny_List_spliced (thn (h pos Aa s σ H _ I hq) fun us s1 ⟨xs,H1,I1,r,z,q⟩=>⟨by rw[←r.length];exact z,?_⟩)
 have hf:H1 s1.heap.objs.size=none:=I1.hok.fresh (Bg _)
 refine⟨.ref s1.heap.objs.size,upd H1 s1.heap.objs.size (.lst xs),I1.laid (t':=s1.toks) (fun b u e=>Heap.get?_push_of_some _ e) (Bg _) ?_,rfl,q _ hf⟩
 exact⟨z,us,0,r,Heap.get?_push_size _ rfl⟩
end
abbrev Sp:=List V→Hp→VK→XK→Prop
abbrev CXT:=List Env→Hp→Shared→XK→Value→Shared→Prop
structure Env0(P:Program)(w:World)(K:A_)(mg:be)(base:Heap)(A:Around)(outer:List Env)(s:Shared)(H:Hp):Prop where
 frames:A.frames=some outer
 mod:Mod K mg base
 bs:∀b o,base.get? b=some o→s.heap.get? b=some o∧H b=none
 bsz:base.objs.size≤s.heap.objs.size
 funs:s.heap.FunFrames base outer
 frf:∀b∈frs outer,H b=none
 hok:HOk P w H s.heap
 bare:AllBare s.gens
def CE(outer:List Env)(P:Program)(w:World)(H:Hp)(s:Shared)(Q:VK)(u:Value)(s':Shared):Prop:=
 ∃v H',s'.os=s.os∧AllBare s'.gens∧Un (frs outer) [] H H' s.heap s'.heap∧HOk P w H' s'.heap∧RelV v u∧Q v H'
def CR(CX:CXT)(outer:List Env)(P:Program)(w:World)(H:Hp)(s:Shared)(Q:VK)(E:XK)(r:Result)(s':Shared):Prop:=
 match r with
 | .ok (.ret u)=>CE outer P w H s Q u s'
 | .ok _=>False
 | .error e=>CX outer H s E e s'
structure FnOk(P:Program)(w:World)(K:A_)(mg:be)(base:Heap)(CX:CXT)(k:Nat)(f:Addr)(fd:FuncData)(ps:List Str)(sp:Sp):Prop where
 len:∀vs H Q E,sp vs H Q E→vs.length=ps.length
 run:∀(A:Around)(outer:List Env)(s:Shared)(H:Hp)(args:Args)(us:List Value)(vs:List V)(Q:VK)(E:XK),Room k A→Env0 P w K mg base A outer s H→BindsTo s fd args (ps.zip us)→Vals vs us→sp vs H Q E→
  codeAny (model P w) A (.call (.ref f) args) (CR CX outer P w H s Q E) s
theorem FnOk.mono{P:Program}{w:World}{K:A_}{mg:be}{base:Heap}{CX:CXT}{j k:Nat}{f:Addr}{fd:FuncData}{ps:List Str}{sp:Sp}(F:FnOk P w K mg base CX j f fd ps sp)(h:j≤k):
  FnOk P w K mg base CX k f fd ps sp:=⟨F.len,fun A outer s H args us vs Q E hr=>F.run A outer s H args us vs Q E (hr.mono h)⟩
theorem FnOk.imp{P:Program}{w:World}{K:A_}{mg:be}{base:Heap}{CX:CXT}{k:Nat}{f:Addr}{fd:FuncData}{ps:List Str}{sp sp':Sp}(F:FnOk P w K mg base CX k f fd ps sp)
  (h:∀vs H Q E,sp' vs H Q E→sp vs H Q E):FnOk P w K mg base CX k f fd ps sp':=
 ⟨fun vs H Q E q=>F.len vs H Q E (h _ _ _ _ q),fun A outer s H args us vs Q E hr he hb hv hs=>F.run A outer s H args us vs Q E hr he hb hv (h _ _ _ _ hs)⟩
theorem Env0.make{P:Program}{w:World}{K:A_}{mg:be}{base:Heap}{A:Around}{outer:List Env}{s:Shared}{H:Hp}(e:Env0 P w K mg base A outer s H)(C:Addr)(us:List Value)(kw:List (Str×Value)):
  Env0 P w K mg base (A.under (.builtin "type.__call__" ⟨.ref C::us,kw⟩)) outer s H:=⟨by first|exact e.frames|(simpa[Around.under,Code.envs,Code.isFrame,pushEnvs] using e.frames),e.mod,e.bs,e.bsz,e.funs,e.frf,e.hok,e.bare⟩
section
variable{X:Cx}{Aa:am}{σ:St}{H:Hp}{s s':Shared}
def Inv.env0(I:Inv X Aa σ H s):Env0 X.prog X.w X.K X.mg X.base X.A X.stack s H:=
 ⟨I.ok.frames,I.ok.mod,I.bs,Br I.ok.bsz I.sz,I.stack,I.stkFree,I.hok,I.bare⟩
def Inv.after{Q:VK}{u:Value}(I:Inv X Aa σ H s)(h:CE X.stack X.prog X.w H s Q u s'):EP X Aa σ Q u s':=by
 obtain⟨v,H',os,bare,un,hok,r,q⟩:=h
 obtain⟨hh,g,d,t,os'⟩:=s'
 obtain rfl:os'=s.os:=os
 exact⟨v,H',I.call (h':=hh) (g':=g) (d':=d) (t':=t) (ch:=[]) un hok bare (fun b z=>absurd z (by simp)),r,q⟩
end
def Pl(sp:Sp)(dvs:List V)(E:XK)(t:TA):TE:=fun σ H Q=>t σ H fun vs H1=>sp (vs++dvs) H1 Q E
def Pi(C:Addr)(sp:Sp)(dvs:List V)(E:XK)(t:TA):TE:=fun σ H Q=>t σ H fun vs H1=>∀x dx,H1 x=none→H1 dx=none→dx≠x→
 sp (.ref x::(vs++dvs)) (upd (upd H1 dx (.own x)) x (.ins C dx [])) (fun v H2=>v=.non∧Q (.ref x) H2) E
def Binds(K:A_)(fd:FuncData)(ps:List Str)(ds:List Value):Prop:=
 ∀(s:Shared)(us:List Value),K.In s.heap→(us++ds).length=ps.length→BindsTo s fd ⟨us,[]⟩ (ps.zip (us++ds))
def Binds.all{K:A_}{fd:FuncData}{ps:List Str}(h:∀us:List Value,us.length=ps.length→bindArgs fd ⟨us,[]⟩=pure (ps.zip us)):Binds K fd ps []:=fun s us _ hl=>by
 rw[Bv]at hl ⊢
 exact .of_eq (h us hl)
def tm(CX:CXT)(X:Cx)(E:XK):Prop:=∀(Aa:am)(σ:St)(H:Hp)(s:Shared)(e:Value)(s':Shared),Inv X Aa σ H s→CX X.stack H s E e s'→X.xe e s'
section
variable{X:Cx}{CX:CXT}{k:Nat}{f C:Addr}{fd:FuncData}{ps:List Str}{sp:Sp}{dvs:List V}{ds:List Value}{E:XK}{x:Str}{p pos:Pos}{e:Expr}{es:List Expr}{t:TA}
theorem m8{Aa:am}{σ:St}{H:Hp}{s:Shared}{Q:VK}{us:List Value}{vs:List V}(F:FnOk X.prog X.w X.K X.mg X.base CX k f fd ps sp)(hr:Room k X.A)(hb:Binds X.K fd ps ds)(hd:Vals dvs ds)(hx:tm CX X E)
  (I:Inv X Aa σ H s) (r:Vals vs us) (h:sp (vs++dvs) H Q E):wpAny (model X.prog X.w) X.A (call (.ref f) us) (EP X Aa σ Q) X.xe s:=by
 have r2:Vals (vs++dvs) (us++ds):=r.append hd
 have hl:(us++ds).length=ps.length:=by rw[←r2.length];exact F.len _ _ _ _ h
 refine wpAny_call (codeAny_mono (F.run X.A X.stack s H ⟨us,[]⟩ (us++ds) (vs++dvs) Q E hr I.env0 (hb s us I.kIn hl) r2 h) fun r s' hq=>?_)
 cases r with
 | error e=>exact hx Aa σ H s e s' I hq
 | ok fl=>
  cases fl with
  | ret u=>exact I.after hq
  | next=>exact False.elim hq
  | brk=>exact False.elim hq
  | cont=>exact False.elim hq
theorem vj(F:FnOk X.prog X.w X.K X.mg X.base CX k f fd ps sp)(hr:Room k X.A)(hg:Gl X x)(hm:X.mg x=some (.ref f))(hk:PySem.W.keepIn X.K (.ref f)=true)(hb:Binds X.K fd ps ds)(hd:Vals dvs ds)(hx:tm CX X E)
  (ha:PA X (e::es) t) (hdb:ug x:=by decide) (he:J' X.env e es:=by rfl) (hpl:K' X.env pos es:=by rfl):
  PE X (.Call (.Name x p) (e::es) [] pos) (Pl sp dvs E t):=by
 intro Aa s σ H Q I h
 refine wpAny_Call_Name_kw (yT I hg hm ?_ hdb)
 refine PySem.W.callWith_K (h₀:=X.base) I.ok.mod.kin hk (thn (ha pos Aa s σ H _ I h) fun us s1 ⟨vs,H1,I1,r,q⟩=>⟨I1.kIn,?_⟩) he hpl
 exact m8 F hr hb hd hx I1 r q
structure Mk(K:A_)(C f:Addr):Prop where
 makes:PySem.W.makesIn K C=true
 init:PySem.W.findIn K (.ref C) "__init__"=some (some (.ref f))
 fn:PySem.W.isFn K (.ref f)=true
 kp:PySem.W.keepIn K (.ref C)=true
theorem i_{Aa:am}{σ:St}{H:Hp}{s:Shared}{Q:VK}{us:List Value}{vs:List V}(M:Mk X.K C f)(F:FnOk X.prog X.w X.K X.mg X.base CX k f fd ps sp)(hr:Room (k+1) X.A)(hb:Binds X.K fd ps ds)(hd:Vals dvs ds)
  (hx:tm CX X E) (I:Inv X Aa σ H s) (r:Vals vs us)
  (h:∀x dx,H x=none→H dx=none→dx≠x→sp (.ref x::(vs++dvs)) (upd (upd H dx (.own x)) x (.ins C dx [])) (fun v H2=>v=.non∧Q (.ref x) H2) E):
  wpAny (model X.prog X.w) X.A (call (.ref C) us) (EP X Aa σ Q) X.xe s:=by
 have hq:=h (s.heap.objs.size+1) s.heap.objs.size (I.hok.fresh (Nat.le_succ _)) (I.hok.fresh (Bg _)) (Bl (Nat.lt_succ_self _))
 have I2:=Inv.made (C:=C) I
 have r2:Vals (V.ref (s.heap.objs.size+1)::(vs++dvs)) (Value.ref (s.heap.objs.size+1)::(us++ds)):=.cons rfl (r.append hd)
 have hl:(Value.ref (s.heap.objs.size+1)::us++ds).length=ps.length:=by
  have e:=r2.length
  rw[F.len _ _ _ _ hq]at e
  exact e.symm
 refine wpAny_call (dF (f:=f) I.kIn M.makes M.init (beq_iff_eq.mp M.fn) (codeAny_mono (F.run _ X.stack _ _ ⟨Value.ref (s.heap.objs.size+1)::us,[]⟩ (Value.ref (s.heap.objs.size+1)::(us++ds)) _ _ E (hr.make C us [])
  (I2.env0.make C us []) (hb _ (Value.ref (s.heap.objs.size+1)::us) I2.kIn hl) r2 hq) fun r s' hq'=>?_))
 cases r with
 | error e=>exact hx Aa σ _ _ e s' I2 hq'
 | ok fl=>
  cases fl with
  | ret u=>
   obtain⟨v,H',I3,rv,ev,q3⟩:=I2.after hq'
   subst ev
   exact⟨rv,⟨V.ref (s.heap.objs.size+1),H',I3,rfl,q3⟩⟩
  | next=>exact False.elim hq'
  | brk=>exact False.elim hq'
  | cont=>exact False.elim hq'
theorem bS(M:Mk X.K C f)(F:FnOk X.prog X.w X.K X.mg X.base CX k f fd ps sp)(hr:Room (k+1) X.A)(hg:Gl X x)(hm:X.mg x=some (.ref C))(hb:Binds X.K fd ps ds)(hd:Vals dvs ds)(hx:tm CX X E)
  (ha:PA X (e::es) t) (hdb:ug x:=by decide) (he:J' X.env e es:=by rfl) (hpl:K' X.env pos es:=by rfl):
  PE X (.Call (.Name x p) (e::es) [] pos) (Pi C sp dvs E t):=by
 intro Aa s σ H Q I h
 refine wpAny_Call_Name_kw (yT I hg hm ?_ hdb)
 refine PySem.W.callWith_K (h₀:=X.base) I.ok.mod.kin M.kp (thn (ha pos Aa s σ H _ I h) fun us s1 ⟨vs,H1,I1,r,q⟩=>⟨I1.kIn,?_⟩) he hpl
 exact i_ M F hr hb hd hx I1 r q
end
structure zh(N P:List Str)(sc:Scope):Prop where
 kind:sc.kind=.function
 co:sc.isCoroutine=false
 gen:sc.isGenerator=false
 nd:N.Nodup
 pre:N.take P.length=P
 par:∀x∈P,sc.names.lookup x=some .local∨sc.names.lookup x=some .cell
 nofree:∀y∈sc.names,y.2≠.free
theorem pq{kindOf:Str→Option NameKind}{x:Str}:∀{binds:List (Str×Value)}{m:be},(∀v,(x,v)∉binds)→bindL kindOf binds m x=m x
 | [],_,_=>rfl
 | (n,v)::r,m,h=>by
  unfold bindL
  rw[pq fun w hw=>h w (Bd _ hw)]
  split
  ·have:x≠n:=by rintro rfl;exact h v Bi
   simp[this]
  ·rfl
theorem pz{kindOf:Str→Option NameKind}{x:Str}:∀{binds:List (Str×Value)}{m:be},(∀v,(x,v)∉binds)→bindC kindOf binds m x=m x
 | [],_,_=>rfl
 | (n,v)::r,m,h=>by
  unfold bindC
  rw[pz fun w hw=>h w (Bd _ hw)]
  split
  ·rfl
  ·have:x≠n:=by rintro rfl;exact h v Bi
   simp[this]
theorem pr{kindOf:Str→Option NameKind}{x:Str}{v:Value}:∀{P:List Str}{vs:List Value}{i:Nat}{m:be},P.Nodup→P[i]? = some x→vs[i]? = some v→kindOf x=some .local→
  bindL kindOf (P.zip vs) m x=some v
 | [],_,_,_,_,h,_,_=>by simp at h
 | _::_,[],_,_,_,_,h,_=>by simp at h
 | p::P,w::vs,0,m,nd,h1,h2,hk=>by
  simp at h1 h2;subst h1;subst h2
  show bindL kindOf ((p,w)::P.zip vs) m p=_
  unfold bindL
  rw[pq fun v hv=>(List.nodup_cons.mp nd).1 (List.of_mem_zip hv).1,if_pos hk]
  simp
 | p::P,w::vs,i+1,m,nd,h1,h2,hk=>by
  show bindL kindOf ((p,w)::P.zip vs) m x=_
  unfold bindL
  exact pr (i:=i) (List.nodup_cons.mp nd).2 (by simpa using h1) (by simpa using h2) hk
theorem pA{kindOf:Str→Option NameKind}{x:Str}{v:Value}:∀{P:List Str}{vs:List Value}{i:Nat}{m:be},P.Nodup→P[i]? = some x→vs[i]? = some v→kindOf x≠some .local→
  bindC kindOf (P.zip vs) m x=some v
 | [],_,_,_,_,h,_,_=>by simp at h
 | _::_,[],_,_,_,_,h,_=>by simp at h
 | p::P,w::vs,0,m,nd,h1,h2,hk=>by
  simp at h1 h2;subst h1;subst h2
  show bindC kindOf ((p,w)::P.zip vs) m p=_
  unfold bindC
  rw[pz fun v hv=>(List.nodup_cons.mp nd).1 (List.of_mem_zip hv).1,if_neg hk]
  simp
 | p::P,w::vs,i+1,m,nd,h1,h2,hk=>by
  show bindC kindOf ((p,w)::P.zip vs) m x=_
  unfold bindC
  exact pA (i:=i) (List.nodup_cons.mp nd).2 (by simpa using h1) (by simpa using h2) hk
def start(N:List Str)(vs:List V):St:=vs.map some++List.replicate (N.length-vs.length) none
def yg(CX:CXT)(P:Program)(w:World)(K:A_)(mg:be)(base:Heap)(N:List Str)(qual:Str)(scope:Scope)(f:Addr)(cd:Value)(A:Around)(outer:List Env)(s:Shared)(H:Hp)(E:XK):Cx where
 prog:=P
 w:=w
 K:=K
 mg:=mg
 base:=base
 A:=A.deeper (envOfC qual scope s.heap.objs.size f cd)
 N:=N
 s₀:=s
 H₀:=H
 env:=envOfC qual scope s.heap.objs.size f cd
 outer:=outer
 stack:=envOfC qual scope s.heap.objs.size f cd::outer
 ex:=[]
 calm:=true
 fn:=fun _=>true
 pn:=[]
 xe:=fun e s'=>wpAny (model P w) (A.deeper (envOfC qual scope s.heap.objs.size f cd)) (leaving (envOfC qual scope s.heap.objs.size f cd) e) (fun _ s''=>CX outer H s E e s'') (fun e' s''=>CX outer H s E e' s'') s'
def rS{sc:Scope}{n:Nat}{x:Str}(h:sc.names.lookup x=some .cell):∃c,(cellsFrom n sc.names []).lookup x=some c:=by
 have q:=PySem.W.cellsFrom_some sc.names n [] (.inl h)
 exact Option.isSome_iff_exists.mp q
theorem j4{CX:CXT}{P:Program}{w:World}{K:A_}{mg:be}{base:Heap}{N ps:List Str}{qual:Str}{scope:Scope}{f:Addr}{cd:Value}{A:Around}{outer:List Env}{s s1:Shared}{H:Hp}{E:XK}{us:List Value}{vs:List V}
  (S:zh N ps scope) (hd:A.handled=none) (e0:Env0 P w K mg base A outer s H) (hl:vs.length=ps.length) (r:Vals vs us)
  (x:InCallC s s.heap.objs.size (bindL (envOfC qual scope s.heap.objs.size f cd).kindOf (ps.zip us) fun _=>none) (cellsFrom (s.heap.objs.size+1) scope.names []) (bindC (envOfC qual scope s.heap.objs.size f cd).kindOf (ps.zip us) fun _=>none) s1):
  Inv (yg CX P w K mg base N qual scope f cd A outer s H E) [] (start N vs) H s1:=by
 have hpl:ps.length≤N.length:=by have:=congrArg List.length S.pre;rw[List.length_take]at this;omega
 obtain⟨h1,tk,rfl,hk⟩:=x.done
 have noA:∀b:Addr,b∉(yg CX P w K mg base N qual scope f cd A outer s H E).ex:=fun b z=>absurd (show b∈([]:List Addr) from z) (by simp)
 refine⟨⟨e0.mod,S.kind,rfl,rfl,Bg _,fun y z c h1 h2=>?_,fun y hy=>?_,fun y c _ h=>?_,fun _=>hd,Around.frames_deeper e0.frames,.inr ⟨rfl,rfl⟩,fun b z=>absurd z (noA b),e0.bs,e0.bsz,fun b _ _=>noA b,fun b z=>absurd z (noA b),e0.funs,e0.frf⟩,
  rfl,e0.bare,Un.kept hk,⟨_,x.toInCall.ns,fun i y v h1 h2 h3=>?_⟩,fun y c h=>⟨_,x.cell y c h⟩,e0.hok.fresh (Nat.le_refl _),fun y c h=>?_,fun p hp=>absurd (show p∈([]:am) from hp) (by simp),e0.hok.kept hk,?_⟩
 ·exact name_of_addr x.apart (PySem.mem_of_lookup h1) (PySem.mem_of_lookup h2)
 ·have hy:scope.names.lookup y=some .cell∨scope.names.lookup y=some .free:=hy
  rcases hy with hy|hy
  ·exact rS hy
  ·exact absurd rfl (S.nofree _ (PySem.mem_of_lookup hy))
 ·exact Nat.le_of_lt (x.above y c (PySem.mem_of_lookup h))
 ·have hi:i<vs.length:=by
   unfold start at h2
   by_cases hi:i<vs.length
   ·exact hi
   ·rw[List.getElem?_append_right (by simpa using hi)]at h2
    rw[List.getElem?_replicate]at h2
    split at h2<;>cases h2
  have ha:vs[i]? = some v:=by
   unfold start at h2
   rw[List.getElem?_append_left (by simpa using hi),List.getElem?_map]at h2
   cases e:vs[i]? with
   | none=>rw[e]at h2;cases h2
   | some a=>rw[e]at h2;cases h2;rfl
  obtain⟨u,hu,rv⟩:=r.get ha
  have hp:ps[i]? = some y:=by
   rw[←S.pre,List.getElem?_take_of_lt (by omega)];exact h1
  have ndP:ps.Nodup:=by rw[←S.pre];exact S.nd.sublist (List.take_sublist _ _)
  refine⟨u,rv,?_⟩
  rcases S.par y (Bp hp) with k|k
  ·exact .inl ⟨k,pr ndP hp hu k⟩
  ·obtain⟨c,e⟩:=rS (n:=s.heap.objs.size+1) k
   refine .inr ⟨.inl k,c,e,?_⟩
   have q:=x.cell y c e
   rw[pA ndP hp hu (by show scope.names.lookup y≠_;rw[k];decide)]at q
   exact q
 ·exact e0.hok.fresh (Nat.le_of_lt (x.above y c (PySem.mem_of_lookup h)))
 ·unfold start
  show _=N.length
  rw[Bo,A',List.length_replicate]
  omega
theorem V8{CX:CXT}{P:Program}{w:World}{K:A_}{mg:be}{base:Heap}{k:Nat}{f:Addr}{name qual:Str}{params:Arguments}{body:List Stmt}{scope:Scope}{dV kV doc pm cdv ct oc:Value}{an od:Option Addr}
  {osl:Array (Option Value)} {N ps:List Str} {sp:Sp} (lk:K.lookup f=some ⟨oc,od,.func (PySem.W.fnOf name qual params body scope dV kV doc pm an cdv ct),osl⟩) (hcd:PySem.W.codeIn K cdv qual=true) (S:zh N ps scope)
  (len:∀vs H Q E,sp vs H Q E→vs.length=ps.length)
  (hbody:∀(A:Around)(outer:List Env)(s:Shared)(H:Hp)(vs:List V)(Q:VK)(E:XK),Room k (A.deeper (envOfC qual scope s.heap.objs.size f cdv))→sp vs H Q E→
   ∃t,PSs (yg CX P w K mg base N qual scope f cdv A outer s H E) body t∧t { nx:=fun _ H'=>Q .non H',rt:=Q } (start N vs) H):
  FnOk P w K mg base CX (k+1) f (PySem.W.fnOf name qual params body scope dV kV doc pm an cdv ct) ps sp:=by
 refine⟨len,fun A outer s H args us vs Q E hr e0 hb r hsp=>?_⟩
 have hl:=len _ _ _ _ hsp
 have KX:K.In s.heap:=e0.mod.kin.keeps fun b o e=>(e0.bs b o e).1
 have lim:s.heap.NoLimit:=e0.mod.nolimit.keeps fun b o e=>(e0.bs b o e).1
 have hkind:∀y∈ps.zip us,scope.names.lookup y.1=some .local∨(scope.names.lookup y.1=some .cell∧((cellsFrom (s.heap.objs.size+1) scope.names []).lookup y.1).isSome=true):=fun⟨n,v⟩ hy=>by
  rcases S.par n (List.of_mem_zip hy).1 with q|q
  ·exact .inl q
  ·exact .inr ⟨q,PySem.W.cellsFrom_some _ _ _ (.inl q)⟩
 refine codeAny_call_function hr.depth (KX _ _ lk) rfl S.co S.gen rfl (PySem.W.codeRec_of KX hcd) (hb _ _ _ _ ?_)
 refine wpAny_newFunctionEnv_cells S.kind hkind fun env he s1 x=>?_
 subst he
 refine⟨lim.keeps x.toInCall.keep,codeAny_func ?_⟩
 obtain⟨t,ht,hq⟩:=hbody A outer s H vs Q E (hr.deeper _) hsp
 have I:Inv (yg CX P w K mg base N qual scope f cdv A outer s H E) [] (start N vs) H s1:=j4 S hr.hd e0 hl r x
 refine wpAny_mono (ht [] s1 (start N vs) H _ I hq) (fun fl s' hs=>?_) fun e s' hs=>hs
 have fin:∀{σ':St}{H':Hp}{v:V}{u:Value},Inv (yg CX P w K mg base N qual scope f cdv A outer s H E) [] σ' H' s'→RelV v u→Q v H'→CE outer P w H s Q u s':=
  fun{σ' H' v u} J rv q=>⟨v,H',J.os,J.bare,J.base,J.hok,rv,q⟩
 cases fl with
 | ret u=>
  obtain⟨v,σ',H',J,rv,q⟩:=hs
  exact fin J rv q
 | next=>
  obtain⟨σ',H',J,q⟩:=hs
  exact fin (v:=V.non) (u:=Value.none) J rfl q
 | brk=>
  obtain⟨_,_,_,q⟩:=hs
  exact False.elim q
 | cont=>
  obtain⟨_,_,_,q⟩:=hs
  exact False.elim q
section
variable{X:Cx}{x:Str}{p pos:Pos}{e:Expr}{es:List Expr}{t:TA}{id T:String}{r:List V→Hp→VK→Prop}
def tCB(r:List V→Hp→VK→Prop)(t:TA):TE:=fun σ H Q=>t σ H fun vs H1=>r vs H1 Q
def yx(hc:wH X (.builtin id) r)(hg:Gl X x)(hm:X.mg x=none)(hv:bootBuiltins x=some (.builtin id))(ha:PA X (e::es) t)(hn:x≠"__name__":=by decide)(hdb:ug x:=by decide)
  (he:J' X.env e es:=by rfl) (hpl:K' X.env pos es:=by rfl):PE X (.Call (.Name x p) (e::es) [] pos) (tCB r t):=by
 intro Aa s σ H Q I h
 refine wpAny_Call_Name_kw (xY I hg hm hv ?_ hn hdb)
 exact PyProof.Rows.callWith_builtin1 (thn (ha pos Aa s σ H _ I h) fun us s1 ⟨vs,H1,I1,r1,q1⟩=>hc Aa s1 σ H1 vs us Q I1 r1 q1) he hpl
def uL(hc:wH X (.type T) r)(hg:Gl X x)(hm:X.mg x=none)(hv:bootBuiltins x=some (.type T))(ha:PA X (e::es) t)(hn:x≠"__name__":=by decide)(hdb:ug x:=by decide)
  (he:J' X.env e es:=by rfl) (hpl:K' X.env pos es:=by rfl):PE X (.Call (.Name x p) (e::es) [] pos) (tCB r t):=by
 intro Aa s σ H Q I h
 refine wpAny_Call_Name_kw (xY I hg hm hv ?_ hn hdb)
 exact PyProof.Rows.callWith_type1 (thn (ha pos Aa s σ H _ I h) fun us s1 ⟨vs,H1,I1,r1,q1⟩=>hc Aa s1 σ H1 vs us Q I1 r1 q1) he hpl
end
end L2
namespace HT
open PySem PyProof.Rows
section
def sIx(n d:Nat):Option Int→Nat
 | none=>d
 | some v=>if v<0 then(v+(n:Int)).toNat else min v.toNat n
end
end HT
namespace L2
open PySem PySem.Spec PyProof.Rows
abbrev TO:=St→Hp→(Option Int→Hp→Prop)→Prop
def PO(X:Cx)(e:Option Expr)(t:TO):Prop:=
 ∀(Aa:am)(s:Shared)(σ:St)(H:Hp)(Q:Option Int→Hp→Prop),Inv X Aa σ H s→t σ H Q→
  wpAny (model X.prog X.w) X.A (evalPart e X.env) (fun u s'=>∃o H',Inv X Aa σ H' s'∧IsPart u o∧Q o H') X.xe s
def bx:TO:=fun _ H Q=>Q none H
def Pf(t:TE):TO:=fun σ H Q=>t σ H fun x H1=>∃i,x=.int i∧Q (some i) H1
section
variable{X:Cx}{e:Expr}{te:TE}{lo hi:Option Expr}{tl th:TO}{pos p2:Pos}
def bP:PO X none bx:=by
 intro Aa s σ H Q I h
 rw[evalPart_none]
 exact wpAny_pure ⟨none,H,I,.none,h⟩
def bO(h:PE X e te):PO X (some e) (Pf te):=by
 intro Aa s σ H Q I hw
 rw[evalPart_some]
 refine thn (h Aa s σ H _ I hw) fun u s1 zz=>?_
 obtain⟨x,H1,I1,r1,q1⟩:=zz
 obtain⟨i,rfl,q⟩:=q1
 obtain⟨t,rfl⟩:=r1
 exact⟨some i,H1,I1,.int i t,q⟩
def SlR(X:Cx)(r:V→Option Int→Option Int→Hp→VK→Prop):Prop:=
 ∀(Aa:am)(s:Shared)(σ:St)(H:Hp)(x:V)(v vl vu:Value)(lo hi:Option Int)(sl:Addr)(Q:VK),Inv X Aa σ H s→RelV x v→s.heap.IsSliceOf sl vl vu .none→IsPart vl lo→IsPart vu hi→r x lo hi H Q→
  ∃T id,typeLookup (.type T) "__getitem__"=pure (some (.builtin id))∧s.TypeIs v T∧wpAny (model X.prog X.w) X.A (getItem v (.ref sl)) (EP X Aa σ Q) X.xe s
def tSl(r:V→Option Int→Option Int→Hp→VK→Prop)(te:TE)(tl th:TO):TE:=fun σ H Q=>te σ H fun x H1=>tl σ H1 fun l H2=>th σ H2 fun u H3=>r x l u H3 Q
def nE{r:V→Option Int→Option Int→Hp→VK→Prop}(hr:SlR X r)(he:PE X e te)(hl:PO X lo tl)(hu:PO X hi th):PE X (.Subscript e (.Slice lo hi none p2) pos) (tSl r te tl th):=by
 intro Aa s σ H Q I h
 refine Subscript_ (thn (he Aa s σ H _ I h) fun v s1 zz=>?_)
 obtain⟨x,H1,I1,r1,q1⟩:=zz
 refine wpAny_Slice (thn (hl Aa s1 σ H1 _ I1 q1) fun vl s2 ⟨l,H2,I2,pl,q2⟩=>thn (hu Aa s2 σ H2 _ I2 q2) fun vu s3 zz=>?_)
 obtain⟨u,H3,I3,pu,q3⟩:=zz
 rw[evalPart_none]
 refine wpAny_pure ?_
 have I4:Inv X Aa σ H3 { s3 with heap:=s3.heap.push { cls:=.type "slice",data:=.fields #[vl,vu,.none] } }:=I3.kept (t':=s3.toks) fun b ob q=>Heap.get?_push_of_some _ q
 obtain⟨T,id,hT,ht,hg⟩:=hr Aa { s3 with heap:=s3.heap.push { cls:=.type "slice",data:=.fields #[vl,vu,.none] } } σ H3 x v vl vu l u s3.heap.objs.size Q I4 r1 (Heap.IsSliceOf.new ..) pl pu q3
 show wpAny (model X.prog X.w) X.A (subscriptTail e (.Slice lo hi none p2) v (.ref s3.heap.objs.size)) (EP X Aa σ Q) X.xe { s3 with heap:=s3.heap.push { cls:=.type "slice",data:=.fields #[vl,vu,.none] } }
 exact tail_any (ops:=[.ref s3.heap.objs.size,v]) ht hT hg (by with_unfolding_all rfl)
def lZ(xs:List V)(lo hi:Option Int):List V:=(xs.drop (HT.sIx xs.length 0 lo)).take (HT.sIx xs.length xs.length hi-HT.sIx xs.length 0 lo)
def mq(xs:List V)(lo hi:Option Int):(lZ xs lo hi).length≤xs.length:=by
 unfold lZ
 rw[List.length_take,List.length_drop]
 omega
end
def ixN(n:Nat)(i:Int):Option Nat:=if 0≤i then(if i<n then some i.toNat else none) else if -(n:Int)≤i then some (i+n).toNat else none
def atI{α:Type}(xs:List α)(i:Int):Option α:=(ixN xs.length i).bind fun j=>xs[j]?
def kC{n:Nat}{i:Int}{j:Nat}(h:ixN n i=some j):seqIndex? i n=some j∧j<n∧-(n:Int)≤i∧i<n:=by
 unfold ixN at h
 by_cases h0:0≤i
 ·rw[if_pos h0]at h
  by_cases h1:i<n
  ·rw[if_pos h1]at h
   have e:i.toNat=j:=Option.some.inj h
   exact⟨by rw[seqIndex_of h0 h1,e],by omega,by omega,h1⟩
  ·rw[if_neg h1]at h;cases h
 ·rw[if_neg h0]at h
  by_cases h1:-(n:Int)≤i
  ·rw[if_pos h1]at h
   have e:(i+n).toNat=j:=Option.some.inj h
   exact⟨by rw[seqIndex_neg (by omega) h1,e],by omega,h1,by omega⟩
  ·rw[if_neg h1]at h;cases h
def oU{α:Type}{xs:List α}{i:Int}{v:α}(h:atI xs i=some v):∃j,seqIndex? i xs.length=some j∧xs[j]? = some v∧j<xs.length∧-(xs.length:Int)≤i∧i<xs.length:=by
 unfold atI at h
 cases e:ixN xs.length i with
 | none=>rw[e]at h;cases h
 | some j=>
  rw[e]at h
  obtain⟨h1,h2,h3,h4⟩:=kC e
  exact⟨j,h1,h,h2,h3,h4⟩
def oS{α:Type}{xs:List α}{j:Nat}{v:α}(h:xs[j]? = some v):atI xs (j:Int)=some v:=by
 have hj:j<xs.length:=(BG.mp h).1
 have e:ixN xs.length (j:Int)=some j:=by
  unfold ixN
  rw[if_pos (by omega),if_pos (by omega)];simp
 unfold atI;rw[e];exact h
def atI_last{α:Type}(xs:List α)(v:α):atI (xs++[v]) (-1)=some v:=by
 have hl:(xs++[v]).length=xs.length+1:=by simp
 have e:ixN (xs++[v]).length (-1)=some xs.length:=by
  unfold ixN
  rw[hl,if_neg (by decide),if_pos (by omega)]
  congr 1
  omega
 unfold atI
 rw[e]
 show(xs++[v])[xs.length]? = some v
 simp
def sI(b:Expr):Prop:=∀o i,subscripted b false o i=operate [o,i] (getItem o i)
def IxR(X:Cx)(r:R2):Prop:=
 ∀(value slice:Expr)(Aa:am)(s:Shared)(σ:St)(H:Hp)(x y:V)(v u:Value)(Q:VK),Inv X Aa σ H s→RelV x v→RelV y u→r x y H Q→
  subscripted slice false v u=operate [v,u] (getItem v u)→wpAny (model X.prog X.w) X.A (subscriptTail value slice v u) (EP X Aa σ Q) X.xe s
def MtR(X:Cx)(id:String)(r:V→List V→Hp→VK→Prop):Prop:=
 ∀(Aa:am)(s:Shared)(σ:St)(H:Hp)(x:V)(xs:List V)(v:Value)(us:List Value)(Q:VK),Inv X Aa σ H s→RelV x v→Vals xs us→r x xs H Q→
  wpAny (model X.prog X.w) X.A (call (.builtin id) (v::us)) (EP X Aa σ Q) X.xe s
section
variable{X:Cx}{a b:Expr}{ta tb:TE}{pos:Pos}
def IxR.or{r r':R2}(h:IxR X r)(h':IxR X r'):IxR X (fun x y H Q=>r x y H Q∨r' x y H Q):=by
 intro value slice Aa s σ H x y v u Q I rx ry q hs
 rcases q with q|q
 ·exact h value slice Aa s σ H x y v u Q I rx ry q hs
 ·exact h' value slice Aa s σ H x y v u Q I rx ry q hs
def gh{r:R2}(hr:IxR X r)(ha:PE X a ta)(hb:PE X b tb)(hs:sI b):PE X (.Subscript a b pos) (tOp r ta tb):=by
 intro Aa s σ H Q I h
 exact Subscript_ (Vy ha hb I h fun v u s2 x y H2 I2 rx ry q=>hr a b Aa s2 σ H2 x y v u Q I2 rx ry q (hs _ _))
def Pu(K:A_):R2:=fun x y H Q=>∃p xs i v,x=.ref p∧y=.int i∧SqL K H p xs∧atI xs i=some v∧Q v H
def Ps(K:A_):R2:=fun x y H Q=>∃p xs i v,x=.ref p∧y=.int i∧SqT K H p xs∧atI xs i=some v∧Q v H
def Pt:R2:=fun x y H Q=>∃z i c,x=.str z∧y=.int i∧z.length≤sizeLine∧atI z.cps.toList i=some c∧Q (.str ⟨#[c]⟩) H
def ix_list:IxR X (Pu X.K):=by
 intro value slice Aa s σ H x y v u Q I rx ry h hs
 obtain⟨p,xs,i,z,rfl,rfl,hq,he,q⟩:=h
 cases rx
 obtain⟨t,rfl⟩:=ry
 obtain⟨its,r,pl,hz⟩:=I.list hq
 obtain⟨j,h1,h2,h3,h4,h5⟩:=oU he
 obtain⟨w,ew,rw'⟩:=r.get h2
 have hl:=r.length
 have hn:=wU
 have fin:EP X Aa σ Q w s:=⟨z,H,I,rw',q⟩
 by_cases h0:0≤i
 ·have hj:i.toNat=j:=by
   rw[seqIndex_of h0 h5]at h1
   exact Option.some.inj h1
  exact item_listR pl.isList h0 (by omega) (by rw[hj];simpa using ew) fin hs
 ·have hj:(i+(its.toArray.size:Int)).toNat=j:=by
   rw[seqIndex_neg (by omega) h4]at h1
   rw[Bc,←hl]
   exact Option.some.inj h1
  exact subscriptTail_builtinR (x:=w) pl.isList.typeIs slot_list_getitem.lookup
   (wpAny_getItem_list_neg (Q:=fun r s'=>r=w∧EP X Aa σ Q r s') pl.isList (by omega) (by rw[List.size_toArray]<;>omega) (by omega) (by rw[hj];simpa using ew) ⟨rfl,fin⟩) hs
def ix_tup:IxR X (Ps X.K):=by
 intro value slice Aa s σ H x y v u Q I rx ry h hs
 obtain⟨p,xs,i,z,rfl,rfl,hq,he,q⟩:=h
 cases rx
 obtain⟨t,rfl⟩:=ry
 obtain⟨its,r,pl,hz⟩:=I.tuple hq
 obtain⟨j,h1,h2,h3,h4,h5⟩:=oU he
 obtain⟨w,ew,rw'⟩:=r.get h2
 have hl:=r.length
 have hn:=wU
 have fin:EP X Aa σ Q w s:=⟨z,H,I,rw',q⟩
 exact subscriptTail_builtinR (x:=w) pl.typeIs slot_tuple_getitem.lookup
  (getItem_tuple (j:=j) (Q:=fun r s'=>r=w∧EP X Aa σ Q r s') pl (by omega) (by omega) (by rw[List.size_toArray,←hl];exact h1) (by simpa using ew) ⟨rfl,fin⟩) hs
def Qo:IxR X Pt:=by
 intro value slice Aa s σ H x y v u Q I rx ry h hs
 obtain⟨z,i,c,rfl,rfl,hz,he,q⟩:=h
 obtain⟨t,rfl⟩:=rx
 obtain⟨t',rfl⟩:=ry
 obtain⟨j,h1,h2,h3,h4,h5⟩:=oU he
 have hl:z.cps.toList.length=z.length:=by simp[Str.length]
 rw[hl]at h1 h4 h5
 have hn:=wU
 exact tail_any (typeIs_str s z t) slot_str_getitem.lookup (getItem_str (c:=c) (by
  have e1:decide (i < -(2^63:Int))=false:=decide_eq_false (by omega)
  have e2:decide (i≥2^63)=false:=decide_eq_false (by omega)
  rw[e1,e2,Bool.or_false]) (by rw[h1];simpa using h2) ⟨.str ⟨#[c]⟩,H,I.tok _,⟨_,rfl⟩,q⟩) hs
def rIx(K:A_):R2:=fun x y H Q=>Pu K x y H Q∨Ps K x y H Q∨Pt x y H Q
def dR:IxR X (rIx X.K):=ix_list.or (ix_tup.or Qo)
def lG(its:List Value)(n j:Nat)(u:Value):Obj.mapSeq (·.setIfInBounds j u) { cls:=.type "list",data:=.seq its.toArray n }={ cls:=.type "list",data:=.seq (its.set j u).toArray n }:=by
 simp[Obj.mapSeq]
theorem Inv.lst{Aa:am}{σ:St}{H:Hp}{s:Shared}{p:Addr}{xs:List V}(I:Inv X Aa σ H s)(h:H p=some (.lst xs)):
  ∃(its:List Value)(n:Nat),Vals xs its∧s.heap.get? p=some { cls:=.type "list",data:=.seq its.toArray n }∧xs.length≤sizeLine:=by
 obtain⟨z,its,n,r,e⟩:=I.hok p _ h
 exact⟨its,n,r,e,z⟩
theorem Inv.lstUpd{Aa:am}{σ:St}{H:Hp}{s:Shared}{p:Addr}{xs ys:List V}{its its':List Value}{n n':Nat}{f:Obj→Obj}(I:Inv X Aa σ H s)(h:H p=some (.lst xs))
  (ho:s.heap.get? p=some { cls:=.type "list",data:=.seq its.toArray n }) (hf:f { cls:=.type "list",data:=.seq its.toArray n }={ cls:=.type "list",data:=.seq its'.toArray n' }) (r:Vals ys its') (hz:ys.length≤sizeLine) (t:Nat):
  Inv X Aa σ (upd H p (.lst ys)) { s with heap:=s.heap.update p f,toks:=t }:=by
 have e:(s.heap.update p f).get? p=some { cls:=.type "list",data:=.seq its'.toArray n' }:=by
  rw[Heap.get?_update_self f ho (by rw[hf]<;>rfl),hf]
 refine I.write (x:=p) (e:=p) (by rw[h];trivial) (.inl rfl) (fun b u hb q=>(Heap.get?_update_other _ _ (Ne.symm hb)).trans q) ⟨_,e⟩ ?_
 exact⟨hz,its',n',r,e⟩
def Pr:V→V→V→Hp→(Hp→Prop)→Prop:=fun o i v H Q=>∃p xs k j,o=.ref p∧i=.int k∧H p=some (.lst xs)∧ixN xs.length k=some j∧Q (upd H p (.lst (xs.set j v)))
def i5:NR X Pr:=by
 intro Aa s σ H o i v ov iv u Q I ro ri rv h
 obtain⟨p,xs,k,j,rfl,rfl,hp,hj,q⟩:=h
 cases ro
 obtain⟨t,rfl⟩:=ri
 obtain⟨its,n,r,ho,hz⟩:=I.lst hp
 obtain⟨h1,h2,h3,h4⟩:=kC hj
 have hl:=r.length
 have hn:=wU
 have I':Inv X Aa σ (upd H p (.lst (xs.set j v))) { s with heap:=s.heap.update p (Obj.mapSeq (·.setIfInBounds j u)) }:=
  I.lstUpd hp ho (lG its n j u) (r.set rv j) (by rw[BC];exact hz) s.toks
 by_cases h0:0≤k
 ·have hk:k.toNat=j:=by
   rw[seqIndex_of h0 h4]at h1
   exact Option.some.inj h1
  exact PySem.W.ki_setAt ho h0 (by omega) (by rw[Bc,←hl];exact h4) (by rw[hk];exact⟨_,I',q⟩)
 ·have hk:(k+(its.toArray.size:Int)).toNat=j:=by
   rw[seqIndex_neg (by omega) h3]at h1
   rw[Bc,←hl]
   exact Option.some.inj h1
  exact PySem.W.ki_setBack ho (by omega) (by rw[Bc,←hl];exact h3) (by omega) (by rw[hk];exact⟨_,I',q⟩)
def pK(lo hi:Option Int)(n:Nat):(sliceBounds lo hi none n).1=((HT.sIx n 0 lo:Nat):Int)∧(sliceBounds lo hi none n).2.1=((HT.sIx n n hi:Nat):Int)∧(sliceBounds lo hi none n).2.2=1:=by
 refine⟨?_,?_,rfl⟩
 ·cases lo with
  | none=>simp[sliceBounds,HT.sIx]
  | some i=>
   simp only[sliceBounds,HT.sIx,Option.getD_none,show(1:Int)>0 by decide,if_true]
   by_cases h:i<0
   ·simp only[h,if_true]<;>omega
   ·simp only[h,if_false]<;>omega
 ·cases hi with
  | none=>simp[sliceBounds,HT.sIx]
  | some i=>
   simp only[sliceBounds,HT.sIx,Option.getD_none,show(1:Int)>0 by decide,if_true]
   by_cases h:i<0
   ·simp only[h,if_true]<;>omega
   ·simp only[h,if_false]<;>omega
def qc(its:List Value)(lo hi:Option Int):slicePick its.toArray lo hi none=((its.drop (HT.sIx its.length 0 lo)).take (HT.sIx its.length its.length hi-HT.sIx its.length 0 lo)).toArray:=by
 obtain⟨h1,h2,h3⟩:=pK lo hi its.toArray.size
 unfold slicePick
 rw[h1,h2,h3]
 simp only[sliceRange_one,pick_run,List.size_toArray]<;>rfl
def Mb(K:A_):V→Option Int→Option Int→Hp→VK→Prop:=fun x lo hi H Q=>∃a xs,x=.ref a∧SqL K H a xs∧∀p,H p=none→Q (.ref p) (upd H p (.lst (lZ xs lo hi)))
def bB:SlR X (Mb X.K):=by
 intro Aa s σ H x v vl vu lo hi sl Q I rx hs pl pu h
 obtain⟨a,xs,rfl,hx,q⟩:=h
 cases rx
 obtain⟨its,r,ht,hz⟩:=I.list hx
 have hlen:=r.length
 refine⟨"list",_,slot_list_getitem.lookup,ht.isList.typeIs,?_⟩
 refine wpAny_getItem_list_slice ht.isList hs pl pu .none (by simp) ?_ (by rw[List.size_toArray]<;>omega)
 rw[qc,←hlen]
 refine⟨.ref s.heap.objs.size,_,I.laid (t':=s.toks) (o:=.lst (lZ xs lo hi)) (fun b ob q=>Heap.get?_push_of_some _ q) (Bg _) ?_,rfl,q _ (I.hok.fresh (Bg _))⟩
 exact⟨Br (mq xs lo hi) hz,_,0,(r.drop (HT.sIx xs.length 0 lo)).take (HT.sIx xs.length xs.length hi-HT.sIx xs.length 0 lo),Heap.get?_push_size _ rfl⟩
def wY:V→Bool
 | .non=>true
 | .bl _=>true
 | .int _=>true
 | .str _=>true
 | _=>false
def eqV:V→V→Bool
 | .non,.non=>true
 | .bl a,.bl b=>a==b
 | .bl a,.int b=>(if a then 1 else 0)==b
 | .int a,.bl b=>a==(if b then 1 else 0)
 | .int a,.int b=>a==b
 | .str a,.str b=>a==b
 | _,_=>false
def lS{A:Around}{s:Shared}{y x:V}{u v:Value}(ry:RelV y u)(rx:RelV x v)(fy:wY y=true)(fx:wY x=true):SeqAt.EqAt A s u v (eqV y x):=by
 cases y with
 | non=>
  cases ry
  cases x with
  | non=>cases rx;exact SeqAt.EqAt.same _
  | bl b=>cases rx;exact SeqAt.EqAt.none_bool b
  | int b=>obtain⟨t,rfl⟩:=rx;exact SeqAt.EqAt.none_int b t
  | str b=>obtain⟨t,rfl⟩:=rx;exact SeqAt.EqAt.none_str b t
  | _=>exact absurd (show false=true from fx) Ba
 | bl a=>
  cases ry
  cases x with
  | non=>cases rx;exact SeqAt.EqAt.bool_none a
  | bl b=>cases rx;exact SeqAt.EqAt.bool_bool a b
  | int b=>obtain⟨t,rfl⟩:=rx;exact SeqAt.EqAt.bool_int a b t
  | str b=>obtain⟨t,rfl⟩:=rx;exact SeqAt.EqAt.bool_str a b t
  | _=>exact absurd (show false=true from fx) Ba
 | int a=>
  obtain⟨t',rfl⟩:=ry
  cases x with
  | non=>cases rx;exact SeqAt.EqAt.int_none a t'
  | bl b=>cases rx;exact SeqAt.EqAt.int_bool a t' b
  | int b=>obtain⟨t,rfl⟩:=rx;exact SeqAt.EqAt.int_int a t' b t
  | str b=>obtain⟨t,rfl⟩:=rx;exact SeqAt.EqAt.int_str a t' b t
  | _=>exact absurd (show false=true from fx) Ba
 | str a=>
  obtain⟨t',rfl⟩:=ry
  cases x with
  | non=>cases rx;exact SeqAt.EqAt.str_none a t'
  | bl b=>cases rx;exact SeqAt.EqAt.str_bool a t' b
  | int b=>obtain⟨t,rfl⟩:=rx;exact SeqAt.EqAt.str_int a t' b t
  | str b=>obtain⟨t,rfl⟩:=rx;exact SeqAt.EqAt.str_str a t' b t
  | _=>exact absurd (show false=true from fx) Ba
 | _=>exact absurd (show false=true from fy) Ba
def eqU(x:V)(u:Value):Bool:=match u with
 | .none=>eqV .non x
 | .bool b=>eqV (.bl b) x
 | .int i _=>eqV (.int i) x
 | .str z _=>eqV (.str z) x
 | _=>false
def ci{x y:V}{u:Value}(r:RelV y u)(f:wY y=true):eqU x u=eqV y x:=by
 cases y with
 | non=>cases r;rfl
 | bl b=>cases r;rfl
 | int i=>obtain⟨t,rfl⟩:=r;rfl
 | str z=>obtain⟨t,rfl⟩:=r;rfl
 | _=>exact absurd (show false=true from f) Ba
theorem oV{x:V}:∀{xs:List V}{us:List Value},Vals xs us→xs.all wY=true→us.any (eqU x)=xs.any fun y=>eqV y x
 | _,_,.nil,_=>rfl
 | y::xs,u::us,.cons r t,f=>by
  rw[List.all_cons,Bb]at f
  rw[BJ,BJ,ci r f.1,oV t f.2]
theorem rD{A:Around}{s:Shared}{x:V}{v:Value}(rx:RelV x v)(fx:wY x=true):∀{xs:List V}{us:List Value},Vals xs us→xs.all wY=true→∀u∈us,SeqAt.EqAt A s u v (eqU x u)
 | _,_,.nil,_=>fun u hu=>by cases hu
 | y::xs,u::us,.cons r t,f=>fun u' hu=>by
  rw[List.all_cons,Bb]at f
  rcases Bk.mp hu with rfl|hu
  ·rw[ci r f.1];exact lS r rx f.1 fx
  ·exact rD rx fx t f.2 u' hu
def inV(x:V)(xs:List V):Bool:=xs.any fun y=>eqV y x
def rIn(K:A_)(neg:Bool):R2:=fun x y H Q=>∃p xs,y=.ref p∧(SqL K H p xs∨SqT K H p xs)∧wY x=true∧xs.all wY=true∧Q (.bl (if neg then !inV x xs else inV x xs)) H
def jD:OpR X (compareOp .In) (rIn X.K false):=by
 intro Aa s σ H x y v u Q I rx ry h
 obtain⟨p,xs,rfl,hq,fx,fs,q⟩:=h
 cases ry
 rcases hq with hq|hq
 ·obtain⟨its,r,pl,hz⟩:=I.list hq
  refine SeqAt.in_listAt (eqU x) pl.isList (fun w hw=>rD rx fx r fs w (by simpa using hw)) ⟨.bl _,H,I,rfl,?_⟩
  rw[show its.toArray.any (eqU x)=its.any (eqU x) by simp,oV r fs]
  exact q
 ·obtain⟨its,r,pl,hz⟩:=I.tuple hq
  refine SeqAt.in_tupleAt (eqU x) pl (fun w hw=>rD rx fx r fs w (by simpa using hw)) ⟨.bl _,H,I,rfl,?_⟩
  rw[show its.toArray.any (eqU x)=its.any (eqU x) by simp,oV r fs]
  exact q
def wE:wH X (.builtin "len") (fun xs H Q=>∃p ys,xs=[.ref p]∧(SqL X.K H p ys∨SqT X.K H p ys)∧Q (.int ys.length) H):=by
 intro Aa s σ H xs us Q I r h
 obtain⟨p,ys,rfl,hq,q⟩:=h
 obtain⟨u,rfl,rx⟩:=ki r
 cases rx
 have hn:=wU
 rcases hq with hq|hq
 ·obtain⟨its,r',pl,hz⟩:=I.list hq
  have hlen:=r'.length
  exact Calls.call_len_list pl.isList (by simp only[List.size_toArray]<;>omega) ⟨.int ys.length,H,I.tok _,⟨s.toks+1,by rw[List.size_toArray,hlen]⟩,q⟩
 ·obtain⟨its,r',pl,hz⟩:=I.tuple hq
  have hlen:=r'.length
  exact len_tuple pl (by simp only[List.size_toArray]<;>omega) ⟨.int ys.length,H,I.tok _,⟨s.toks+1,by rw[List.size_toArray,hlen]⟩,q⟩
def oQ:wH X (.builtin "len") (fun xs H Q=>∃z,xs=[.str z]∧z.length≤sizeLine∧Q (.int z.length) H):=by
 intro Aa s σ H xs us Q I r h
 obtain⟨z,rfl,hz,q⟩:=h
 obtain⟨u,rfl,t,rfl⟩:=ki r
 have hn:=wU
 exact len_str (by omega) ⟨.int z.length,H,I.tok _,⟨_,rfl⟩,q⟩
def oP:wH X (.type "list") (fun xs H Q=>∃p ys,xs=[.ref p]∧(SqL X.K H p ys∨SqT X.K H p ys)∧∀l,H l=none→Q (.ref l) (upd H l (.lst ys))):=by
 intro Aa s σ H xs us Q I r h
 obtain⟨p,ys,rfl,hq,q⟩:=h
 obtain⟨u,rfl,rx⟩:=ki r
 cases rx
 have fin:∀(its:List Value),Vals ys its→ys.length≤sizeLine→∀(h':Heap)(c':Nat),(∀b o',s.heap.get? b=some o'→h'.get? b=some o')→
   h'.get? s.heap.objs.size=some { cls:=.type "list",dict:=none,data:=.seq its.toArray c',slots:=#[] }→EP X Aa σ Q (.ref s.heap.objs.size) { s with heap:=h' }:=fun its r' hz h' c' kp e=>
  ⟨.ref s.heap.objs.size,_,I.laid (t':=s.toks) kp (Bg _) (show ObjOk X.prog X.w _ h' _ (.lst ys) from⟨hz,its,c',r',e⟩),rfl,q _ (I.hok.fresh (Bg _))⟩
 rcases hq with hq|hq
 ·obtain⟨its,r',pl,hz⟩:=I.list hq
  have hlen:=r'.length
  obtain⟨o,ho,hc,n,hd⟩:=pl.isList
  exact call_list_seq p (.inl rfl) ho hc hd (fun h' c' kp e=>fin its r' hz h' c' kp e) (by simp only[List.size_toArray]<;>omega)
 ·obtain⟨its,r',pl,hz⟩:=I.tuple hq
  have hlen:=r'.length
  obtain⟨o,ho,hc,n,hd⟩:=pl
  exact call_list_seq p (.inr rfl) ho hc hd (fun h' c' kp e=>fin its r' hz h' c' kp e) (by simp only[List.size_toArray]<;>omega)
def tyV(K:A_)(T:String)(x:V)(H:Hp):Prop:=match x with
 | .str _=>T="str"
 | .int _=>T="int"
 | .ref p=>(T="list"∧∃xs,SqL K H p xs)∨(T="tuple"∧∃o,K.lookup p=some o∧o.cls=.type "tuple"∧o.dict=none)∨
   (T="dict"∧((∃kvs,H p=some (.dK kvs))∨∃kvs,H p=some (.dT kvs)))∨(T="set"∧∃S n,H p=some (.set S n))
 | _=>False
theorem iO{Aa:am}{σ:St}{H:Hp}{s:Shared}{T:String}{x:V}{v:Value}(I:Inv X Aa σ H s)(r:RelV x v)(ty:tyV X.K T x H):
  s.TypeIs v T∧∀a,v=.ref a→∃ob,s.heap.get? a=some ob∧ob.dict=none:=by
 cases x with
 | str z=>
  obtain⟨t,rfl⟩:=r
  cases(show T="str" from ty)
  exact⟨typeIs_str s z t,fun _ e=>nomatch e⟩
 | int i=>
  obtain⟨t,rfl⟩:=r
  cases(show T="int" from ty)
  exact⟨typeIs_int s i t,fun _ e=>nomatch e⟩
 | ref p=>
  cases r
  rcases ty with ⟨rfl,xs,hq⟩|⟨rfl,o,hk,hc,hd⟩|⟨rfl,hk⟩|⟨rfl,S,n,hk⟩
  ·obtain⟨its,_,pl,_⟩:=I.list hq
   refine⟨pl.isList.typeIs,fun a e=>?_⟩
   cases e
   obtain⟨o,n,e,c,hd,_⟩:=pl
   exact⟨o,e,hd⟩
  ·refine⟨⟨o,I.kIn p o hk,hc⟩,fun a e=>?_⟩
   cases e
   exact⟨o,I.kIn _ o hk,hd⟩
  ·have z:∃o,s.heap.get? p=some o∧o.ExactDict:=by
    rcases hk with ⟨kvs,hk⟩|⟨kvs,hk⟩
    ·obtain⟨_,_,_,_,o,_,_,e,ex,_⟩:=I.hok p _ hk
     exact⟨o,e,ex⟩
    ·obtain⟨_,_,_,_,o,_,_,e,ex,_⟩:=I.hok p _ hk
     exact⟨o,e,ex⟩
   obtain⟨o,e,ex⟩:=z
   refine⟨⟨o,e,ex.1⟩,fun a e2=>?_⟩
   cases e2
   exact⟨o,e,ex.2.1⟩
  ·obtain⟨o,_,_,_,e,ex,_⟩:=I.hok p _ hk
   refine⟨⟨o,e,ex.1⟩,fun a e2=>?_⟩
   cases e2
   exact⟨o,e,ex.2.1⟩
 | _=>exact False.elim ty
def N3(K:A_)(T:String)(r:V→List V→Hp→VK→Prop)(to:TE):TE:=fun σ H Q=>to σ H fun x H1=>tyV K T x H1∧r x [] H1 Q
def tBM(K:A_)(T:String)(r:V→List V→Hp→VK→Prop)(to:TE)(t:TA):TE:=fun σ H Q=>to σ H fun x H1=>tyV K T x H1∧t σ H1 fun xs H2=>r x xs H2 Q
variable{o e:Expr}{es:List Expr}{to:TE}{t:TA}{name:Str}{apos cpos:Pos}{T id:String}{r:V→List V→Hp→VK→Prop}
theorem gm(pa:PlainAttrs T)(slot:Slot T name id)(hty:typeOf (.builtin id)=pure (.type "method_descriptor"))(hm:MtR X id r)(ho:PE X o to)
  (hbase:attributeBase o name X.env (eval o X.env)=eval o X.env:=by rfl) (hline:(apos.endLine==cpos.line)=true:=by rfl):PE X (.Call (.Attribute o name apos) [] [] cpos) (N3 X.K T r to):=by
 intro Aa s σ H Q I h
 refine wpAny_Call_method0_late hbase hline (thn (ho Aa s σ H _ I h) fun v s1 zz=>?_)
 obtain⟨x,H1,I1,r1,ty,q1⟩:=zz
 obtain⟨h1,h2⟩:=iO I1 r1 ty
 exact⟨T,id,pa,slot,hty,h1,h2,Calls.callWith_builtin rfl (PySem.evalArgs_none (hm Aa s1 σ H1 x [] v [] Q I1 r1 .nil q1))⟩
theorem sY(pa:PlainAttrs T)(slot:Slot T name id)(hty:typeOf (.builtin id)=pure (.type "method_descriptor"))(hm:MtR X id r)(ho:PE X o to)(ha:PA X (e::es) t)
  (hbase:attributeBase o name X.env (eval o X.env)=eval o X.env:=by rfl)
  (hfew:((backTo cpos (starEach (e::es) X.env)).all (fun x=>!x.1)&&(backToKw cpos (keywordEach [] X.env)).all (fun x=>x.1.isSome)
   && decide ((e::es).length+([]:List Keyword).length+(if([]:List Keyword).isEmpty then 0 else 1)<30))=true:=by rfl)
  (hline:(apos.endLine==cpos.line)=true:=by rfl) (hs:J' X.env e es:=by rfl) (hplain:K' X.env cpos es:=by rfl):
  PE X (.Call (.Attribute o name apos) (e::es) [] cpos) (tBM X.K T r to t):=by
 intro Aa s σ H Q I h
 refine wpAny_Call_method_late hbase hfew hline rfl (thn (ho Aa s σ H _ I h) fun v s1 zz=>?_)
 obtain⟨x,H1,I1,r1,ty,q1⟩:=zz
 obtain⟨h1,h2⟩:=iO I1 r1 ty
 refine⟨T,id,pa,slot,hty,h1,h2,?_⟩
 have hA:=ha cpos Aa s1 σ H1 _ I1 q1
 rw[hs]at hA ⊢
 refine Calls.callWith_builtin (by show(false||(backTo cpos (starEach es X.env)).any (·.1))=false;rw[hplain]<;>rfl) (Calls.evalArgs_plain ?_)
 exact thn hA fun us s2 ⟨vs,H2,I2,r2,q2⟩=>hm Aa s2 σ H2 x vs v us Q I2 r1 r2 q2
end
def MtM(X:Cx)(id:String)(r:V→List V→Hp→VK→Prop):Prop:=
 ∀(Aa:am)(s:Shared)(σ:St)(H:Hp)(x:V)(xs:List V)(v:Value)(us:List Value)(Q:VK),Inv X Aa σ H s→RelV x v→Vals xs us→r x xs H Q→
  wpAny (model X.prog X.w) X.A (call (.builtin id) (v::us)) (EP X Aa σ Q) X.xe s
theorem Vals.one:∀{x:V}{us:List Value},Vals [x] us→∃u,us=[u]∧RelV x u
 | _,_,.cons r .nil=>⟨_,rfl,r⟩
theorem Vals.two:∀{x y:V}{us:List Value},Vals [x,y] us→∃u v,us=[u,v]∧RelV x u∧RelV y v
 | _,_,_,.cons r (.cons q .nil)=>⟨_,_,rfl,r,q⟩
theorem Vals.zero:∀{us:List Value},Vals [] us→us=[]
 | _,.nil=>rfl
def Vals.dropLast{xs:List V}{us:List Value}(h:Vals xs us):Vals xs.dropLast us.dropLast:=by
 induction h with
 | nil=>exact .nil
 | cons r t ih=>
  cases t with
  | nil=>exact .nil
  | cons q t'=>exact .cons r ih
def Vals.reverse{xs:List V}{us:List Value}(h:Vals xs us):Vals xs.reverse us.reverse:=by
 induction h with
 | nil=>exact .nil
 | cons r t ih=>rw[BR,BR];exact Vals.append ih (.cons r .nil)
theorem Vals.rep{xs:List V}{us:List Value}(h:Vals xs us):∀k:Nat,Vals (List.replicate k xs).flatten (List.replicate k us).flatten
 | 0=>.nil
 | k+1=>by
  rw[BP,BP,BS,BS]
  exact Vals.append h (Vals.rep h k)
def lQ{α:Type}(l:List α):l.eraseIdx (l.length-1)=l.dropLast:=by
 induction l with
 | nil=>rfl
 | cons a r ih=>
  cases r with
  | nil=>rfl
  | cons b r=>
   have e:(a::b::r).length-1=((b::r).length-1)+1:=by
    have h1:(a::b::r).length=r.length+2:=rfl
    have h2:(b::r).length=r.length+1:=rfl
    omega
   rw[e,List.eraseIdx_cons_succ,ih]
   all_goals rfl
theorem q9(its:List Value):∀(k:Nat)(acc:List Value),
  List.foldl (fun x1 x2=>x1++x2) acc.toArray (List.replicate k its.toArray)=(acc++(List.replicate k its).flatten).toArray
 | 0,acc=>by simp
 | k+1,acc=>by
  have e:acc.toArray++its.toArray=(acc++its).toArray:=by simp
  have e2:(acc++its)++(List.replicate k its).flatten=acc++(List.replicate (k+1) its).flatten:=by
   rw[BP,BS,List.append_assoc]
  rw[←e2,←q9 its k (acc++its),←e,BP,List.foldl_cons]
section
variable{X:Cx}{Aa:am}{σ:St}{H:Hp}{s:Shared}{l:Addr}{xs ys:List V}
theorem Inv.lset{its its':List Value}{n:Nat}{f:Array Value→Array Value}{t':Nat}(I:Inv X Aa σ H s)(hH:H l=some (.lst xs))
  (e:s.heap.get? l=some { cls:=.type "list",data:=.seq its.toArray n }) (hf:f its.toArray=its'.toArray) (hv:Vals ys its') (hz:ys.length≤sizeLine):
  Inv X Aa σ (upd H l (.lst ys)) { s with heap:=s.heap.update l (Obj.mapSeq f),toks:=t' }:=by
 have q:=PySem.IsL.update e f
 rw[hf]at q
 refine I.write (x:=l) (e:=l) (by rw[hH];exact trivial) (.inl rfl) (fun b' u hb hu=>(Heap.get?_update_other s.heap (Obj.mapSeq f) (Ne.symm hb)).trans hu) ⟨_,q⟩ ?_
 exact⟨hz,its',_,hv,q⟩
theorem Inv.lnew{its:List Value}{t':Nat}(I:Inv X Aa σ H s)(hv:Vals ys its)(hz:ys.length≤sizeLine):
  Inv X Aa σ (upd H s.heap.objs.size (.lst ys)) { s with heap:=s.heap.push { cls:=.type "list",data:=.seq its.toArray },toks:=t' }:=
 I.laid (fun _ _ q=>Heap.get?_push_of_some _ q) (Bg _) ⟨hz,its,0,hv,Heap.get?_push_size _ rfl⟩
def Inv.fresh(I:Inv X Aa σ H s):H s.heap.objs.size=none:=I.hok.fresh (Bg _)
def Inv.lstM(I:Inv X Aa σ H s)(hH:H l=some (.lst xs)):xs.length≤sizeLine∧∃(its:List Value)(n:Nat),Vals xs its∧xs.length=its.length∧s.heap.get? l=some { cls:=.type "list",data:=.seq its.toArray n }:=by
 obtain⟨z,its,n,r,e⟩:=I.hok l _ hH
 exact⟨z,its,n,r,r.length,e⟩
def nU{n:Nat}(h:n≤sizeLine):Builtin.List.listTooLong n=false:=by
 unfold Builtin.List.listTooLong
 exact decide_eq_false (by omega)
end
section
variable{X:Cx}
def bI:V→List V→Hp→VK→Prop:=fun x vs H Q=>∃l xs y,x=.ref l∧vs=[y]∧H l=some (.lst xs)∧xs.length<sizeLine∧Q .non (upd H l (.lst (xs++[y])))
def vk:MtM X "list.append" bI:=by
 intro Aa s σ H x vs v us Q I rx rv h
 obtain⟨l,xs,y,rfl,rfl,hH,hz,q⟩:=h
 cases rx
 obtain⟨u,rfl,ru⟩:=rv.one
 obtain⟨z,its,n,r,hl,e⟩:=I.lstM hH
 refine call_meets F.slot_list_append ⟨_,e,rfl⟩ F.entry_list_append (F.args_list_append_2 _ _) (PySem.list_append l its.toArray n u (by rw[Bc];omega)) ⟨e,?_⟩
 refine⟨.non,_,I.lset (its':=its++[u]) hH e (by simp) (r.append (.cons ru .nil)) ?_,rfl,q⟩
 rw[Bo,List.length_singleton]
 omega
def bH:V→List V→Hp→VK→Prop:=fun x vs H Q=>∃l b xs zs,x=.ref l∧vs=[.ref b]∧H l=some (.lst xs)∧H b=some (.lst zs)∧xs.length+zs.length≤sizeLine∧Q .non (upd H l (.lst (xs++zs)))
def jW:MtM X "list.extend" bH:=by
 intro Aa s σ H x vs v us Q I rx rv h
 obtain⟨l,b,xs,zs,rfl,rfl,hH,hB,hz,q⟩:=h
 cases rx
 obtain⟨u,rfl,ru⟩:=rv.one
 cases ru
 obtain⟨z,its,n,r,hl,e⟩:=I.lstM hH
 obtain⟨z2,its2,n2,r2,hl2,e2⟩:=I.lstM hB
 have hsz:its.toArray.size+its2.toArray.size≤sizeLine:=by rw[Bc,Bc];omega
 have hlong:¬(!its.toArray.isEmpty&&Builtin.List.listTooLong (its.toArray.size+its2.toArray.size))=true:=by
  rw[nU hsz,Bool.and_false]
  exact Ba
 refine call_meets F.slot_list_extend ⟨_,e,rfl⟩ F.entry_list_extend (F.args_list_extend_2 _ _)
  (AutoSeq1.list_extend_list_list_0 l its.toArray n b its2.toArray n2 hlong (by rw[Bc];omega) (by omega)) ⟨e,e2,?_⟩
 refine⟨.non,_,I.lset (its':=its++its2) hH e (by simp) (r.append r2) ?_,rfl,q⟩
 rw[Bo]
 omega
def Md:V→List V→Hp→VK→Prop:=fun x vs H Q=>∃l xs y,x=.ref l∧vs=[]∧H l=some (.lst xs)∧xs[xs.length-1]? = some y∧Q y (upd H l (.lst xs.dropLast))
def Qg:MtM X "list.pop" Md:=by
 intro Aa s σ H x vs v us Q I rx rv h
 obtain⟨l,xs,y,rfl,rfl,hH,hy,q⟩:=h
 cases rx
 have hus:=rv.zero
 subst hus
 obtain⟨z,its,n,r,hl,e⟩:=I.lstM hH
 obtain⟨u,hu,ru⟩:=r.get hy
 have hy':its.toArray[its.toArray.size-1]? = some u:=by
  show its.toArray[its.length-1]? = some u
  rw[←Array.getElem?_toList,←hl]
  exact hu
 refine call_meets F.slot_list_pop ⟨_,e,rfl⟩ F.entry_list_pop (F.args_list_pop_1 _) (MeetsSeq.list_pop_last l its.toArray n u hy' (by rw[Bc];omega)) ⟨e,?_⟩
 refine⟨y,_,I.lset (its':=its.dropLast) hH e ?_ r.dropLast ?_,ru,q⟩
 ·show its.toArray.eraseIdxIfInBounds (its.toArray.size-1)=its.dropLast.toArray
  rw[Bc,List.eraseIdxIfInBounds_toArray,lQ]
 ·rw[List.length_dropLast]
  omega
def hV:V→List V→Hp→VK→Prop:=fun x vs H Q=>∃l xs,x=.ref l∧vs=[]∧H l=some (.lst xs)∧Q .non (upd H l (.lst xs.reverse))
def lF:MtM X "list.reverse" hV:=by
 intro Aa s σ H x vs v us Q I rx rv h
 obtain⟨l,xs,rfl,rfl,hH,q⟩:=h
 cases rx
 have hus:=rv.zero
 subst hus
 obtain⟨z,its,n,r,hl,e⟩:=I.lstM hH
 refine call_meets F.slot_list_reverse ⟨_,e,rfl⟩ F.entry_list_reverse (F.args_list_reverse_1 _) (AutoSeq1.list_reverse_list_0 l its.toArray n (by rw[Bc];omega)) ⟨e,?_⟩
 refine⟨.non,_,I.lset (its':=its.reverse) hH e (by simp) r.reverse ?_,rfl,q⟩
 rw[Bz]
 omega
def Me:R2:=fun x y H Q=>∃l b xs zs,x=.ref l∧y=.ref b∧H l=some (.lst xs)∧H b=some (.lst zs)∧xs.length+zs.length≤sizeLine∧∀p,H p=none→Q (.ref p) (upd H p (.lst (xs++zs)))
def gq:OpR X (binaryOp .Add) Me:=by
 intro Aa s σ H x y v u Q I rx ry h
 obtain⟨l,b,xs,zs,rfl,rfl,hH,hB,hz,q⟩:=h
 cases rx
 cases ry
 obtain⟨z,its,n,r,hl,e⟩:=I.lstM hH
 obtain⟨z2,its2,n2,r2,hl2,e2⟩:=I.lstM hB
 refine PySem.P.add_list e e2 ?_ (by rw[Bc,Bc];omega)
 have ea:its.toArray++its2.toArray=(its++its2).toArray:=by simp
 rw[ea]
 exact⟨.ref _,_,I.lnew (t':=s.toks) (r.append r2) (by rw[Bo];omega),rfl,q _ I.fresh⟩
def Mc:R2:=fun x y H Q=>∃l k xs,x=.ref l∧y=.int k∧H l=some (.lst xs)∧-(2^63)≤k∧k<2^63∧xs.length*k.toNat≤sizeLine∧
 ∀p,H p=none→Q (.ref p) (upd H p (.lst (List.replicate k.toNat xs).flatten))
def WQ{α:Type}(xs:List α)(k:Nat):(List.replicate k xs).flatten.length=k*xs.length:=by
 induction k with
 | zero=>simp
 | succ k ih=>rw[BP,BS,Bo,ih,Nat.succ_mul,Nat.add_comm]
def Ti:OpR X (binaryOp .Mult) Mc:=by
 intro Aa s σ H x y v u Q I rx ry h
 obtain⟨l,k,xs,rfl,rfl,hH,h1,h2,hz,q⟩:=h
 cases rx
 obtain⟨t,rfl⟩:=ry
 obtain⟨z,its,n,r,hl,e⟩:=I.lstM hH
 have hlen:its.toArray.size*k.toNat≤sizeLine:=by rw[Bc,←hl];exact hz
 have hcap:¬its.toArray.size*k.toNat>(2^63-1)/8:=by
  have:(sizeLine:Nat)≤(2^63-1)/8:=by decide
  omega
 have hfit:¬(!Builtin.List.listFitsIndex k)=true:=by
  rw[fitsIndex_both h1 h2]
  exact Ba
 have hlong:¬Builtin.List.listTooLong (its.toArray.size*k.toNat)=true:=by
  rw[nU hlen]
  exact Ba
 have hnew:List.foldl (fun x1 x2=>x1++x2) #[] (List.replicate (if its.toArray.isEmpty=true then 0 else k.toNat) its.toArray)=(List.replicate k.toNat its).flatten.toArray:=by
  have f0:∀m:Nat,List.foldl (fun x1 x2=>x1++x2) #[] (List.replicate m its.toArray)=(List.replicate m its).flatten.toArray:=fun m=>by
   have:=q9 its m []
   rw[List.nil_append]at this
   exact this
  rw[f0]
  cases its with
  | nil=>simp
  | cons a r'=>rw[if_neg (by simp)]
 refine wpAny_binaryOp_repeat_ref (T:="list") (U:="int") (by decide) ⟨_,e,rfl⟩ (fun s'=>typeIs_int s' k t) noFill_list_mul F.fills_int_mul F.slot_int_rmul repeat_list F.slot_int_index.lookup
  (call_meets F.slot_int_rmul (typeIs_int s k t) F.entry_int_rmul (F.args_int_rmul_2 _ _) (int___rmul___int_list k t l its.toArray n)
   ⟨e,rfl,⟨_,e,rfl⟩,call_meets F.slot_list_mul ⟨_,e,rfl⟩ F.entry_list_mul (F.args_list_mul_2 _ _) (AutoListH.list___mul___list_int_3 l its.toArray n k t hfit hcap hlong) ⟨e,?_⟩⟩)
 rw[hnew]
 exact⟨.ref _,_,I.lnew (t':=s.toks) (r.rep k.toNat) (by rw[WQ,Nat.mul_comm];exact hz),rfl,q _ I.fresh⟩
end
section
set_option maxRecDepth 100000 in
end
end L2
namespace Att
open PySem PySem.W PySem.Calls PyProof.Rows
def sj{P:Params}{h:Heap}:∀(ns:List Int)(vs:List Value),WellAll P h vs (ns.map WData.int)→IntsAre vs ns:=by
 intro ns
 induction ns with
 | nil=>
  intro vs w
  rw[List.map_nil]at w
  cases w
  exact .nil
 | cons n ns ih=>
  intro vs w
  rw[B1]at w
  cases w with
  | cons a b=>
   cases a
   exact .cons _ _ (ih _ b)
theorem jr{l:OpenLaw}{n:Nat}(hn:l.most=some n){P:Params}{h:Heap}{args:List WData}{vals:List Value}
  (hpre:l.row.toRowW.claim.pre args=true) (hwl:WellAll P h vals args):
  ∃a vs ns,vals=[Value.ref a]∧args=[WData.list (ns.map WData.int)]∧h.get? a=some { cls:=.type "list",data:=.seq vs.toArray }∧IntsAre vs ns∧ns.length≤n:=by
 have hsh:WShape.hasAll [] args [.list .int]=true:=(pre_splitW hpre).1
 have hc:l.pre.holds [] { args:=args }=true:=(pre_splitW hpre).2
 obtain⟨d,r,rfl,h1,h2⟩:=hasAllW_cons hsh
 obtain rfl:=hasAllW_nil h2
 obtain⟨xs,rfl,h3⟩:=hasW_list h1
 obtain⟨ns,rfl⟩:=items_int h3
 have hlen:ns.length≤n:=by
  unfold OpenLaw.pre at hc
  have h4:(WTm.not (.lt (.lit (.int (n:Int))) (.len (.arg 0)))).holds [] { args:=[.list (ns.map .int)] }=true:=by
   have h4:=(holds_andW hc).1
   rw[hn]at h4
   exact h4
  have h5:=condW_of h4 (w_not (w_lt w_lit (w_len_list (w_arg rfl))))
  rw[A']at h5
  refine Nat.le_of_not_lt fun q=>?_
  have q':(n:Int)<((ns.length:Nat):Int):=by omega
  first
   | (rw[decide_eq_true q']at h5;exact absurd h5 (by decide))
   | (simp at h5;omega)
 cases hwl with
 | cons w1 w2=>
  cases w2
  cases w1 with
  | list ho hall=>exact⟨_,_,ns,rfl,rfl,ho,sj ns _ hall,hlen⟩
def jy(l:OpenLaw)(args:List WData):l.row.toRowW.claim.post args (.bool true) args=true:=
 postW_of (r:=l.row.toRowW) (X:=(true==true))
  (show WShape.has [] (.bool true) .bool=true by first|rfl|decide|simp[WShape.has,WShape.arms,WShape.armsAll])
  (show(WTm.eq .res (.lit (.bool true))).value [] { args:=args,res:=some (.bool true),after:=args }=some (.bool (true==true)) from w_eq_bool (w_res rfl) w_lit) rfl
theorem attach_call{l:OpenLaw}{n:Nat}{q:Program}{loose:List Str}{XP:(Str→Option Value)→Heap→Prop}{YP:World→Heap→Prop}{d:DefRec}
  (hn:l.most=some n) (hdf:d.params.defaults=[])
  (call:∀(w:World)(s₀ s₁:Shared)(mg mb:be)(fa:Addr)(o:Obj)(pm cd doc:Value)(a:Addr)(vs:List Value)(ns:List Int),
   Ground q loose [] XP w s₀ mg mb s₁.heap→YP w s₁.heap→
   s₁.heap.get? fa=some o→o.data=.func (docDef d.name d.params d.body d.scope pm cd doc)→s₁.heap.CodeRec cd d.name→mg d.name=some (.ref fa)→
   s₁.heap.get? a=some { cls:=.type "list",data:=.seq vs.toArray }→IntsAre vs ns→ns.length≤n→s₁.gens=#[]→
   codeAny (model l.prog w) callerA (.call (.ref fa) ⟨[.ref a],[]⟩) (fun r s'=>r=.ok (.ret (.bool true))∧OldK s₁.heap s'.heap∧s'.os=s₁.os∧AllBare s'.gens) s₁):
  WalkO q loose XP YP l.row.toRowW d [] (fun f vs=>PySem.call f vs):=by
 intro w s₀ s₁ mg mb G Y fa o pm cd doc dV kV ho hd hcd hD hmg hg args vals as hpre hlay hrd hwl hlo
 obtain rfl:dV=.none:=Dflts.none hD hdf
 obtain rfl:kV=.none:=Dflts.noKw hD
 obtain⟨a,vs,ns,rfl,rfl,hobj,hints,hlen⟩:=jr hn hpre hwl
 refine enter_call (codeAny_mono (call w s₀ s₁ mg mb fa o pm cd doc a vs ns G Y ho (fd_plain hd) hcd hmg hobj hints hlen hg) fun r s' hq=>?_)
 obtain⟨rfl,h2,h3,h4⟩:=hq
 exact⟨.inl ⟨.bool true,.bool true,[],rfl,fun _=>rfl,.bool true,jy l _,fun _=>⟨List.Pairwise.nil,fun _ hm=>(nomatch hm)⟩⟩,h2,h3,h4⟩
section
def Mr(h:Heap)(L d:Addr):List (Addr×Obj):=(List.range h.objs.size).filterMap fun a=>if a=L∨a=d then none else(h.get? a).map fun o=>(a,o)
end
end Att
namespace L2
open PySem PySem.Spec PyProof.Rows
theorem qF:∀{vs:List Value}{ns:List Int},IntsAre vs ns→Vals (ns.map V.int) vs
 | _,_,.nil=>.nil
 | _,_,.cons n t h=>.cons ⟨t,rfl⟩ (qF h)
def Q7(H:Hp):Prop:=∀b,H b=none∨∃o xs,H b=some (.frz o (.lst xs))
theorem dL{P:Program}{w:World}{K:A_}{mg mb:be}{CX:CXT}{k:Nat}{fa a:Addr}{fd:FuncData}{x:Str}{sp:Sp}{s₁:Shared}{vs:List Value}{ns:List Int}
  (KX:K.In s₁.heap) (hns:s₁.heap.Ns mainGlobals mg) (hb:s₁.heap.Ns builtinsNs mb) (hbb:∀x:Str,x≠"__name__"→mb x=bootBuiltins x) (hlim:s₁.heap.NoLimit) (hg:s₁.gens=#[])
  (ha:s₁.heap.get? a=some { cls:=.type "list",data:=.seq vs.toArray }) (hi:IntsAre vs ns) (hl:ns.length≤sizeLine) (hr:Room k callerA)
  (F:∀base:Heap,K.In base→base.Ns mainGlobals mg→FnOk P w K mg base CX k fa fd [x] sp) (hbind:∀(s:Shared)(u:Value),BindsTo s fd ⟨[u],[]⟩ [(x,u)])
  (hsp:∀H:Hp,Q7 H→SqL K H a (ns.map V.int)→sp [.ref a] H (fun v _=>v=.bl true) fun _ _ _=>False)
  (hCX:∀H e s',CX [] H s₁ (fun _ _ _=>False) e s'→False):
  codeAny (model P w) callerA (.call (.ref fa) ⟨[.ref a],[]⟩) (fun r s'=>r=.ok (.ret (.bool true))∧OldK s₁.heap s'.heap∧s'.os=s₁.os∧AllBare s'.gens) s₁:=by
 have rv:=qF hi
 have lenV:=hi.length
 have core:∀H:Hp,Q7 H→SqL K H a (ns.map V.int)→HOk P w H s₁.heap→(∀b,H b≠none→b=a)→(H a≠none→K.lookup a=none)→
   codeAny (model P w) callerA (.call (.ref fa) ⟨[.ref a],[]⟩) (fun r s'=>r=.ok (.ret (.bool true))∧OldK s₁.heap s'.heap∧s'.os=s₁.os∧AllBare s'.gens) s₁:=by
  intro H hO hS hok hA hK
  have base_of:∀{b:Addr}{o:Obj},s₁.heap.get? b=some o→H b=none→(oE s₁.heap H).get? b=some o:=fun e n=>d3 e n
  have noA:∀{b:Addr}{o:Obj}{es:Array DictEntry}{ep:Nat},s₁.heap.get? b=some o→o.data=.dict es ep→H b=none:=fun{b o es ep} e d=>by
   cases q:H b with
   | none=>rfl
   | some u=>
    have e':b=a:=hA b (by rw[q];simp)
    subst e'
    rw[ha]at e;cases e
    have d':Data.seq vs.toArray _=Data.dict es ep:=d
    cases d'
  have nsK:∀{b:Addr}{m:be},s₁.heap.Ns b m→(oE s₁.heap H).Ns b m:=fun{b m} ⟨o,es,ep,e,d,r⟩=>⟨o,es,ep,base_of e (noA e d),d,r⟩
  have hKb:K.In (oE s₁.heap H):=fun b o e=>base_of (KX b o e) (by
   cases q:H b with
   | none=>rfl
   | some u=>
    have e':b=a:=hA b (by rw[q];simp)
    subst e'
    rw[hK (by rw[q];simp)]at e;cases e)
  have hM:Mod K mg (oE s₁.heap H):=⟨hKb,nsK hns,⟨mb,nsK hb,hbb⟩,let⟨mc,h1,h2⟩:=hlim; ⟨mc,nsK h1,h2⟩⟩
  have e0:Env0 P w K mg (oE s₁.heap H) callerA [] s₁ H:=⟨rfl,hM,fun b o e=>ai e,Nat.le_of_eq (j7 _ _),trivial,fun b hb=>absurd (show b∈([]:List Addr) from hb) (by simp),hok,.of_eq hg⟩
  refine codeAny_mono ((F _ hKb (nsK hns)).run callerA [] s₁ H ⟨[.ref a],[]⟩ [.ref a] [.ref a] _ _ hr e0 (hbind s₁ (.ref a)) (.cons rfl .nil) (hsp H hO hS)) fun r s' h=>?_
  cases r with
  | error e=>exact(hCX H e s' h).elim
  | ok fl=>
   cases fl with
   | next=>exact False.elim h
   | brk=>exact False.elim h
   | cont=>exact False.elim h
   | ret u=>
    obtain⟨v,H',os,bare,un,hok',r',q⟩:=h
    have q':v=.bl true:=q
    subst q'
    obtain rfl:u=Value.bool true:=r'
    refine⟨rfl,OldK.of_keep fun b o e=>?_,os,bare⟩
    cases q:H b with
    | none=>exact un.keep b o e q (by intro z;exact absurd (show b∈([]:List Addr) from z) (by simp)) (by simp)
    | some u=>
     rcases hO b with z|⟨ob,xs,z⟩
     ·rw[q]at z;cases z
     ·have z2:=un.frzs b ob _ z
      obtain⟨e1,_⟩:=hok b _ z
      obtain⟨e2,_⟩:=hok' b _ z2
      rw[e]at e1;cases e1
      exact e2
 cases hk:K.lookup a with
 | some o=>
  have e:=KX a o hk
  rw[ha]at e
  cases e
  refine core (fun _=>none) (fun _=>.inl rfl) (.inr ⟨_,vs.toArray,_,hk,rfl,rfl,rfl,by rw[List.size_toArray,lenV];exact hl,by simpa using rv⟩) (fun b u z=>by have z':(none:Option HO)=some u:=z;cases z') (fun b z=>absurd rfl z) fun z=>absurd rfl z
 | none=>
  refine core (fun b=>if b=a then some (.frz { cls:=.type "list",data:=.seq vs.toArray } (.lst (ns.map V.int))) else none) (fun b=>?_) (.inl (.inr ⟨{ cls:=.type "list",data:=.seq vs.toArray },if_pos rfl⟩)) (fun b u z=>?_) (fun b z=>?_) fun _=>hk
  ·by_cases hb:b=a
   ·exact .inr ⟨_,_,if_pos hb⟩
   ·exact .inl (if_neg hb)
  ·by_cases hb:b=a
   ·have z':=(if_pos hb).symm.trans z
    cases z'
    subst hb
    exact⟨ha,by rw[A'];exact hl,vs,_,rv,ha⟩
   ·have z':=(if_neg hb).symm.trans z
    cases z'
  ·by_cases hb:b=a
   ·exact hb
   ·exact absurd (if_neg hb) z
abbrev KOf{K:A_}{h:Heap}(_:K.In h):PySem.W.Frag:=K
theorem walk_of{l:PySem.W.OpenLaw}{n k:Nat}{q:Program}{loose:List Str}{XP:(Str→Option Value)→Heap→Prop}{YP:World→Heap→Prop}{d:DefRec}{K:Params→PySem.W.Frag}{CX:World→CXT}{sp:World→Sp}{x:Str}
  (hn:l.most=some n) (hn2:n≤sizeLine) (hdf:d.params.defaults=[]) (hr:Room k callerA)
  (hY:∀(w:World)(h:Heap),YP w h→(K w.params).In h)
  (F:∀(w:World)(mg:be)(fa:Addr)(h:Heap),(K w.params).In h→h.Ns mainGlobals mg→mg d.name=some (.ref fa)→
   ∃fd:FuncData,(∀(s:Shared)(u:Value),BindsTo s fd ⟨[u],[]⟩ [(x,u)])∧
    ∀base:Heap,(K w.params).In base→base.Ns mainGlobals mg→FnOk l.prog w (K w.params) mg base (CX w) k fa fd [x] (sp w))
  (hsp:∀(w:World)(H:Hp)(a:Addr)(ns:List Int),ns.length≤n→Q7 H→SqL (K w.params) H a (ns.map V.int)→sp w [.ref a] H (fun v _=>v=.bl true) fun _ _ _=>False)
  (hCX:∀(w:World)(H:Hp)(s:Shared)(e:Value)(s':Shared),CX w [] H s (fun _ _ _=>False) e s'→False):
  PySem.W.WalkO q loose XP YP l.row.toRowW d [] (fun f vs=>PySem.call f vs):=by
 refine Att.attach_call hn hdf fun w s₀ s₁ mg mb fa o pm cd doc a vs ns G Y ho hd hcd hmg hobj hints hlen hg=>?_
 have KX:=hY w _ Y
 obtain⟨fd,hb,hF⟩:=F w mg fa _ KX G.T.g hmg
 exact dL KX G.T.g G.T.b G.T.builtins G.T.nolimit hg hobj hints (Br hlen hn2) hr hF hb (fun H hO hS=>hsp w H a ns hlen hO hS) fun H e s'=>hCX w H s₁ e s'
def inClass(s:Stmt)(j:Nat):Stmt:=match s with
 | .ClassDef _ _ _ body _ _ _ _ _ _ _=>body.getD j (.Pass ⟨0,0,0,0⟩)
 | _=>.Pass ⟨0,0,0,0⟩
def defArgs(s:Stmt):Arguments:=match s with
 | .FunctionDef _ a _ _ _ _ _ _ _ _=>a
 | _=>{ posonlyargs:=[],args:=[],vararg:=none,kwonlyargs:=[],kw_defaults:=[],kwarg:=none,defaults:=[] }
def defBody(s:Stmt):List Stmt:=match s with
 | .FunctionDef _ _ b _ _ _ _ _ _ _=>b
 | _=>[]
def defScope(s:Stmt):Scope:=match s with
 | .FunctionDef _ _ _ _ _ _ sc _ _ _=>sc
 | _=>{ kind:=.function,names:=[],isGenerator:=false,isCoroutine:=false }
abbrev CX0:CXT:=fun _ _ _ _ _ _=>False
abbrev E0:XK:=fun _ _ _=>False
def qQ{X:Cx}:tm CX0 X E0:=fun _ _ _ _ _ _ _ h=>h.elim
structure Fun(K:A_)(x qual:Str)(st:Stmt)(f:Addr)(fd:FuncData):Prop where
 ex:∃(oc:Value)(od:Option Addr)(kV doc pm:Value)(an:Option Addr)(cdv ct:Value)(osl:Array (Option Value)),
  fd=PySem.W.fnOf x qual (defArgs st) (defBody st) (defScope st) .none kV doc pm an cdv ct∧K.lookup f=some ⟨oc,od,.func fd,osl⟩∧PySem.W.codeIn K cdv qual=true
 kp:PySem.W.keepIn K (.ref f)=true
section
variable{P:Program}{w:World}{K:A_}{mg:be}{base:Heap}
theorem Fun.ok{x qual:Str}{st:Stmt}{f:Addr}{fd:FuncData}{N ps:List Str}{k:Nat}{sp:Sp}(F:Fun K x qual st f fd)(S:zh N ps (defScope st))(len:∀vs H Q E,sp vs H Q E→vs.length=ps.length)
  (hbody:∀(cdv:Value)(A:Around)(outer:List Env)(s:Shared)(H:Hp)(vs:List V)(Q:VK)(E:XK),Room k (A.deeper (envOfC qual (defScope st) s.heap.objs.size f cdv))→sp vs H Q E→
   ∃t,PSs (yg CX0 P w K mg base N qual (defScope st) f cdv A outer s H E).nox (defBody st) t∧t { nx:=fun _ H'=>Q .non H',rt:=Q } (start N vs) H):FnOk P w K mg base CX0 (k+1) f fd ps sp:=by
 obtain⟨oc,od,kV,doc,pm,an,cdv,ct,osl,rfl,lk,hcd⟩:=F.ex
 refine V8 lk hcd S len fun A outer s H vs Q E hr hsp=>?_
 obtain⟨t,h,q⟩:=hbody cdv A outer s H vs Q E hr hsp
 exact⟨t,h.nox,q⟩
theorem Fun.binds{x qual:Str}{st:Stmt}{f:Addr}{fd:FuncData}{ps:List Str}(F:Fun K x qual st f fd)
  (h:∀(kV doc pm:Value)(an:Option Addr)(cdv ct:Value)(us:List Value),us.length=ps.length→bindArgs (PySem.W.fnOf x qual (defArgs st) (defBody st) (defScope st) .none kV doc pm an cdv ct) ⟨us,[]⟩=pure (ps.zip us)):Binds K fd ps []:=by
 obtain⟨oc,od,kV,doc,pm,an,cdv,ct,osl,rfl,lk,hcd⟩:=F.ex
 exact .all (h kV doc pm an cdv ct)
theorem lP{x qual:Str}{st:Stmt}{f:Addr}{oc:Value}{od an:Option Addr}{osl:Array (Option Value)}{kV doc pm cdv ct:Value}(l:K.lookup f=some ⟨oc,od,.func (PySem.W.fnOf x qual (defArgs st) (defBody st) (defScope st) .none kV doc pm an cdv ct),osl⟩)
  (c:PySem.W.codeIn K cdv qual=true) (k:PySem.W.keepIn K (.ref f)=true):Fun K x qual st f (PySem.W.fnOf x qual (defArgs st) (defBody st) (defScope st) .none kV doc pm an cdv ct):=⟨⟨oc,od,kV,doc,pm,an,cdv,ct,osl,rfl,l,c⟩,k⟩
end
section
variable{X:Cx}
def pv(i:Nat){x:Str}{pos:Pos}(hN:X.N[i]? = some x:=by rfl)(hv:Vis X.env.scope x:=by walk_at "v")(hd:ug x:=by decide)
  (hcd:we x:=by decide):PE X (.Name x pos) (iX i):=yj hN hv hd hcd
end
def Mz{A B:Prop}(h:B):if false=true then A else B:=by
 rw[if_neg Ba]
 exact h
def Mx{A B:Prop}(h:A):if true=true then A else B:=by
 rw[if_pos rfl]
 exact h
def Ol{c A B:Prop}[Decidable c](h1:c→A)(h2:¬c→B):if c then A else B:=by
 by_cases h:c
 ·rw[if_pos h]
  exact h1 h
 ·rw[if_neg h]
  exact h2 h
def Same(H H':Hp):Prop:=∀b o,H b=some o→H' b=some o
def Same.refl(H:Hp):Same H H:=fun _ _ h=>h
def Same.trans{H H1 H2:Hp}(a:Same H H1)(b:Same H1 H2):Same H H2:=fun c o h=>b c o (a c o h)
def Same.free{H H':Hp}(e:Same H H'){l:Addr}(h:H' l=Option.none):H l=Option.none:=by
 cases q:H l with
 | none=>rfl
 | some o=>
  rw[e l o q]at h
  cases h
def Same.seq{K:A_}{H H':Hp}{a:Addr}{xs:List V}(e:Same H H')(h:SqL K H a xs):SqL K H' a xs:=by
 rcases h with (h|⟨o,h⟩)|h
 ·exact .inl (.inl (e _ _ h))
 ·exact .inl (.inr ⟨o,e _ _ h⟩)
 ·exact .inr h
end L2
set_option maxRecDepth 1000000
set_option maxHeartbeats 0
open PySem in
def My.top(i:Nat):Stmt:=PySem.Challenge.pw_oddbases_k60_rows_refused.main.body.getD i (.Pass ⟨0,0,0,0⟩)
noncomputable section
open PySem My
namespace My
noncomputable abbrev v_:Option Value:=some (.ref 6)
noncomputable abbrev g_:Array GenState:=⟨[]⟩
noncomputable abbrev d_:=@Drawn.mk 0 0 0 0
noncomputable abbrev P_:=@Pos.mk
noncomputable abbrev N_(o:Params→Obj)(a b:Params→W.BT)(x:Params):W.BT:=.node (o x) (a x) (b x)
noncomputable def q_{α:Type}(x:Params)(l:List (Params→α)):List α:=l.map fun f=>f x
noncomputable abbrev Z_(_:Params):W.BT:=.nil
noncomputable abbrev L_(o:Params→Obj):=N_ o Z_ Z_
def sg_{tb p w n₀ ann b}{n:Nat}{s s':W.SharedT}{t:Thread}{f:Flow}{c:Code}{q:Pos}(h:W.segRunT tb p w n₀ ann b n s t=some (f,s',c,q)):W.segRun tb p w n₀ ann b n s.abs t=some (f,s'.abs,c,q):=W.segRun_of h
noncomputable abbrev p_(a:String)(b:Nat):Value:=.str (.ofString a) b
noncomputable abbrev j_(a:Int)(b:Nat):Value:=.int a b
noncomputable abbrev r_(a:Nat):Value:=.ref a
noncomputable abbrev e_(x:Params)(a:String)(b:Nat)(v:Value):DictEntry:=⟨PyData.keyHash x (.ofString a),.str (.ofString a) b,v⟩
noncomputable abbrev t0(a1:String)(a3:Nat)(a7:String)(a8 a9:Nat)(x:Params):Obj:=(@Obj.mk (.type "function") none (@Data.func (@FuncData.mk (.ofString a1) (.ofString a1) (L2.defArgs (My.top a3)) (@FuncBody.stmts (L2.defBody (My.top a3))) (L2.defScope (My.top a3)) 3 (@List.nil (@Prod @Str @Nat)) .none .none .none (p_ a7 a8) none (r_ a9) .none 0)) #[])
noncomputable abbrev t1(a1:String)(a2:Nat)(a3:String)(a4 a6:Nat)(a7 a9:Int)(a17 a20 a21 a22 a23:Nat)(a24:Int)(a29:Nat)(x:Params):Obj:=(@Obj.mk (.type "code") none (@Data.fields (List.toArray [(p_ a1 a2),(p_ a3 a4),(p_ "/claim/cut.py" a6),(j_ a7 0),(j_ a9 0),(j_ 0 0),(j_ 0 0),(j_ 3 0),(r_ a17),(.bool @Bool.true),(j_ 181 0),(r_ a20),.none,(r_ a21),(r_ a22),(r_ a23),(j_ a24 0),(j_ a7 0),(p_ "/claim/cut.py" a29)])) #[])
noncomputable abbrev t2(a0:String)(a2:Nat)(x:Params):Obj:=(@Obj.mk .none none (@Data.func (@FuncData.mk (.ofString a0) (.ofString a0) (L2.defArgs (My.top a2)) (@FuncBody.stmts (L2.defBody (My.top a2))) (L2.defScope (My.top a2)) 0 (@List.nil (@Prod @Str @Nat)) .none .none .none .none none .none .none 0)) #[])
noncomputable abbrev t3(x:Params):Obj:=(@Obj.mk (.type "tuple") none (@Data.seq #[] 0) #[])
noncomputable abbrev t4(a1:String)(a2:Nat)(a3:String)(a4:Nat)(a5:String)(a6:Nat)(a7:String)(a8:Nat)(a9:String)(a10:Nat)(a11:String)(a12:Nat)(x:Params):Obj:=(@Obj.mk (.type "tuple") none (@Data.seq (List.toArray [(p_ a1 a2),(p_ a3 a4),(p_ a5 a6),(p_ a7 a8),(p_ a9 a10),(p_ a11 a12)]) 0) #[])
noncomputable abbrev t5(x:Params):Obj:=(@Obj.mk .none none (@Data.fields #[]) #[])
noncomputable abbrev t6(a1:String)(a2 a4 a6:Nat)(a7 a9:Int)(a17 a20 a21:Nat)(a22:Int)(a27:Nat)(x:Params):Obj:=(@Obj.mk (.type "code") none (@Data.fields (List.toArray [(p_ a1 a2),(p_ a1 a4),(p_ "/claim/cut.py" a6),(j_ a7 0),(j_ a9 0),(j_ 0 0),(j_ 0 0),(j_ 3 0),(r_ a17),(.bool @Bool.true),(j_ 181 0),(r_ a20),.none,.none,.none,(r_ a21),(j_ a22 0),(j_ a7 0),(p_ "/claim/cut.py" a27)])) #[])
noncomputable abbrev t7(a1:String)(a2:Nat)(a3:String)(a4:Nat)(a5:String)(a6:Nat)(a7:String)(a8:Nat)(a9:String)(a10:Nat)(x:Params):Obj:=(@Obj.mk (.type "tuple") none (@Data.seq (List.toArray [(p_ a1 a2),(p_ a3 a4),(p_ a5 a6),(p_ a7 a8),(p_ a9 a10)]) 0) #[])
noncomputable abbrev t8(a1:String)(a2:Nat)(a3:String)(a4:Nat)(a5:String)(a6:Nat)(x:Params):Obj:=(@Obj.mk (.type "tuple") none (@Data.seq (List.toArray [(p_ a1 a2),(p_ a3 a4),(p_ a5 a6)]) 0) #[])
noncomputable abbrev t9(a1:String)(a2:Nat)(a3:String)(a4:Nat)(x:Params):Obj:=(@Obj.mk (.type "tuple") none (@Data.seq (List.toArray [(p_ a1 a2),(p_ a3 a4)]) 0) #[])
noncomputable abbrev t10(a1:String)(a2:Nat)(a3:String)(a4:Nat)(a5:String)(a6:Nat)(a7:String)(a8:Nat)(x:Params):Obj:=(@Obj.mk (.type "tuple") none (@Data.seq (List.toArray [(p_ a1 a2),(p_ a3 a4),(p_ a5 a6),(p_ a7 a8)]) 0) #[])
noncomputable abbrev t11(a1:String)(a2:Nat)(x:Params):Obj:=(@Obj.mk (.type "tuple") none (@Data.seq (List.toArray [(p_ a1 a2)]) 0) #[])
noncomputable abbrev t12(a1:String)(a2:Nat)(a3:String)(a4:Nat)(a5:String)(a6:Nat)(a7:String)(a8:Nat)(a9:String)(a10:Nat)(a11:String)(a12:Nat)(a13:String)(a14:Nat)(x:Params):Obj:=(@Obj.mk (.type "tuple") none (@Data.seq (List.toArray [(p_ a1 a2),(p_ a3 a4),(p_ a5 a6),(p_ a7 a8),(p_ a9 a10),(p_ a11 a12),(p_ a13 a14)]) 0) #[])
noncomputable abbrev t13(a2:Nat)(x:Params):Obj:=(@Obj.mk (.type "builtin_function_or_method") none (@Data.fields (List.toArray [(.builtin "object.__init_subclass__"),(r_ a2)])) #[])
noncomputable abbrev t14(a1:Nat)(x:Params):Obj:=(@Obj.mk (.type "super") none (@Data.fields (List.toArray [(r_ a1),(r_ a1),(r_ a1)])) #[])
noncomputable abbrev t15(a1:String)(a3 a6 a8 a10 a12:Nat)(x:Params):Obj:=(@Obj.mk (.type "type") none (@Data.cls (@ClassData.mk (.ofString a1) [(r_ 265)] [(r_ a3),(r_ 265),(.type "object")] a6 (.ofString a1) @Bool.true [] [] @Bool.false (@Option.none @Bool) @Bool.false)) (@List.toArray (@Option @Value) [(some (r_ a8)),none,(some (p_ a1 a10)),(some (p_ a1 a12)),(some (.builtin "object.__new__")),(some (.bool @Bool.true))]))
noncomputable abbrev t16(a1 a2:String)(a3 a4 a12:Nat)(x:Params):Obj:=(@Obj.mk (.type "function") none (@Data.func (@FuncData.mk (.ofString a1) (.ofString a2) (L2.defArgs (L2.inClass (My.top a3) a4)) (@FuncBody.stmts (L2.defBody (L2.inClass (My.top a3) a4))) (L2.defScope (L2.inClass (My.top a3) a4)) 3 (@List.nil (@Prod @Str @Nat)) .none .none .none (p_ "oddbases.ways" 442) none (r_ a12) .none 0)) #[])
noncomputable abbrev t17(a0 a1:String)(a2 a3:Nat)(x:Params):Obj:=(@Obj.mk .none none (@Data.func (@FuncData.mk (.ofString a0) (.ofString a1) (L2.defArgs (L2.inClass (My.top a2) a3)) (@FuncBody.stmts (L2.defBody (L2.inClass (My.top a2) a3))) (L2.defScope (L2.inClass (My.top a2) a3)) 0 (@List.nil (@Prod @Str @Nat)) .none .none .none .none none .none .none 0)) #[])
noncomputable abbrev t18(a1 a3:Nat)(a4:String)(a5:Nat)(x:Params):Obj:=(@Obj.mk (.type "frame") none @Data.plain (@List.toArray (@Option @Value) [(some (r_ a1)),(some (r_ 3)),(some (r_ a3)),none,(some (p_ a4 a5)),none,(some (r_ 0))]))
noncomputable abbrev t19(a1:String)(a2 a4 a6:Nat)(a7:Int)(a17 a20:Nat)(a21:Int)(a26:Nat)(x:Params):Obj:=(@Obj.mk (.type "code") none (@Data.fields (List.toArray [(p_ a1 a2),(p_ a1 a4),(p_ "/claim/cut.py" a6),(j_ a7 0),(j_ 0 0),(j_ 0 0),(j_ 0 0),(j_ 0 0),(r_ a17),(.bool @Bool.false),(j_ 181 0),(r_ a20),.none,.none,.none,.none,(j_ a21 0),(j_ a7 0),(p_ "/claim/cut.py" a26)])) #[])
noncomputable abbrev t20(a0:Int)(a4:Nat)(a5:Int)(a9:Nat)(a10:Int)(a14:Nat)(a15:Int)(a19:Nat)(a20:Int)(a24:Nat)(a25:Int)(a29:Nat)(x:Params):Obj:=(@Obj.mk .none none (@Data.fields (List.toArray [(j_ a0 0),(j_ 4 0),(r_ a4),(j_ a5 0),(j_ 4 0),(r_ a9),(j_ a10 0),(j_ 4 0),(r_ a14),(j_ a15 0),(j_ 4 0),(r_ a19),(j_ a20 0),(j_ 4 0),(r_ a24),(j_ a25 0),(j_ 4 0),(r_ a29)])) #[])
noncomputable abbrev t21(a3 a8:Nat)(a9:String)(a10 a13:Nat)(a14:Int)(a15:Nat)(a16:String)(a18 a19:Nat)(a20:String)(a22 a23:Nat)(a24:String)(a26 a27:Nat)(a28:String)(a30 a31 a34 a35 a38 a39 a42 a43:Nat)(x:Params):Obj:=(@Obj.mk (.type "dict") none (@Data.dict (List.toArray [(e_ x "__module__" a3 (p_ "oddbases.ways" 442)),(e_ x "__qualname__" a8 (p_ a9 a10)),(e_ x "__firstlineno__" a13 (j_ a14 a15)),(e_ x a16 a18 (r_ a19)),(e_ x a20 a22 (r_ a23)),(e_ x a24 a26 (r_ a27)),(e_ x a28 a30 (r_ a31)),(e_ x "split" a34 (r_ a35)),(e_ x "has" a38 (r_ a39)),(e_ x "__static_attributes__" a42 (r_ a43))]) 10) #[])
noncomputable abbrev t22(x:Params):Obj:=(@Obj.mk (.type "builtin_function_or_method") none (@Data.fields (List.toArray [(.builtin "type.__prepare__"),(.type "type")])) #[])
noncomputable abbrev t23(a1:Nat)(x:Params):Obj:=(@Obj.mk (.type "tuple") none (@Data.seq (List.toArray [(r_ a1)]) 0) #[])
noncomputable abbrev t24(a3 a8:Nat)(a9:Int)(a10 a13 a14:Nat)(a15:String)(a17 a18:Nat)(a19:String)(a21 a22 a25 a26:Nat)(a27:String)(a29 a30 a33 a34 a37:Nat)(x:Params):Obj:=(@Obj.mk (.type "dict") none (@Data.dict (List.toArray [(e_ x "__module__" a3 (p_ "oddbases.ways" 442)),(e_ x "__firstlineno__" a8 (j_ a9 a10)),(e_ x "__init__" a13 (r_ a14)),(e_ x a15 a17 (r_ a18)),(e_ x a19 a21 (r_ a22)),(e_ x "ratio" a25 (r_ a26)),(e_ x a27 a29 (r_ a30)),(e_ x "__static_attributes__" a33 (r_ a34)),(e_ x "__doc__" a37 .none)]) 2) #[])
noncomputable abbrev t25(a0:Int)(a4:Nat)(a5:Int)(a9:Nat)(a10:Int)(a14:Nat)(a15:Int)(a19:Nat)(a20:Int)(a24:Nat)(x:Params):Obj:=(@Obj.mk .none none (@Data.fields (List.toArray [(j_ a0 0),(j_ 4 0),(r_ a4),(j_ a5 0),(j_ 4 0),(r_ a9),(j_ a10 0),(j_ 4 0),(r_ a14),(j_ a15 0),(j_ 4 0),(r_ a19),(j_ a20 0),(j_ 4 0),(r_ a24)])) #[])
noncomputable abbrev t26(a3 a8:Nat)(a9:String)(a10 a13:Nat)(a14:Int)(a15 a18 a19:Nat)(a20:String)(a22 a23:Nat)(a24:String)(a26 a27 a30 a31:Nat)(a32:String)(a34 a35 a38 a39:Nat)(x:Params):Obj:=(@Obj.mk (.type "dict") none (@Data.dict (List.toArray [(e_ x "__module__" a3 (p_ "oddbases.ways" 442)),(e_ x "__qualname__" a8 (p_ a9 a10)),(e_ x "__firstlineno__" a13 (j_ a14 a15)),(e_ x "__init__" a18 (r_ a19)),(e_ x a20 a22 (r_ a23)),(e_ x a24 a26 (r_ a27)),(e_ x "ratio" a30 (r_ a31)),(e_ x a32 a34 (r_ a35)),(e_ x "__static_attributes__" a38 (r_ a39))]) 9) #[])
noncomputable abbrev t27(a3 a8:Nat)(a9:Int)(a10 a13 a14 a17 a18 a21 a22 a25 a26 a29:Nat)(x:Params):Obj:=(@Obj.mk (.type "dict") none (@Data.dict (List.toArray [(e_ x "__module__" a3 (p_ "oddbases.ways" 442)),(e_ x "__firstlineno__" a8 (j_ a9 a10)),(e_ x "__init__" a13 (r_ a14)),(e_ x "high" a17 (r_ a18)),(e_ x "ratio" a21 (r_ a22)),(e_ x "__static_attributes__" a25 (r_ a26)),(e_ x "__doc__" a29 .none)]) 2) #[])
noncomputable abbrev t28(a0:Int)(a4:Nat)(a5:Int)(a9:Nat)(a10:Int)(a14:Nat)(x:Params):Obj:=(@Obj.mk .none none (@Data.fields (List.toArray [(j_ a0 0),(j_ 4 0),(r_ a4),(j_ a5 0),(j_ 4 0),(r_ a9),(j_ a10 0),(j_ 4 0),(r_ a14)])) #[])
noncomputable abbrev t29(a3 a8:Nat)(a9:String)(a10 a13:Nat)(a14:Int)(a15 a18 a19 a22 a23 a26 a27 a30 a31:Nat)(x:Params):Obj:=(@Obj.mk (.type "dict") none (@Data.dict (List.toArray [(e_ x "__module__" a3 (p_ "oddbases.ways" 442)),(e_ x "__qualname__" a8 (p_ a9 a10)),(e_ x "__firstlineno__" a13 (j_ a14 a15)),(e_ x "__init__" a18 (r_ a19)),(e_ x "high" a22 (r_ a23)),(e_ x "ratio" a26 (r_ a27)),(e_ x "__static_attributes__" a30 (r_ a31))]) 7) #[])
noncomputable abbrev t30(a2 a3:Nat)(x:Params):Obj:=(@Obj.mk (.type "getset_descriptor") none (@Data.fields (List.toArray [(p_ "__weakref__" a2),(r_ a3),(.builtin "ExceptionGroup.__weakref__"),.none])) #[])
noncomputable abbrev t31(a1:String)(a3 a9 a11 a13 a15:Nat)(x:Params):Obj:=(@Obj.mk (.type "type") none (@Data.cls (@ClassData.mk (.ofString a1) [(r_ 24)] [(r_ a3),(r_ 24),(.type "ValueError"),(.type "Exception"),(.type "BaseException"),(.type "object")] a9 (.ofString a1) @Bool.true [] [] @Bool.false (@Option.none @Bool) @Bool.false)) (@List.toArray (@Option @Value) [(some (r_ a11)),none,(some (p_ a1 a13)),(some (p_ a1 a15)),(some (.builtin "ValueError.__new__")),(some (.bool @Bool.true))]))
noncomputable abbrev t32(a3 a8:Nat)(a9:Int)(a10 a13 a14 a17:Nat)(x:Params):Obj:=(@Obj.mk (.type "dict") none (@Data.dict (List.toArray [(e_ x "__module__" a3 (p_ "oddbases.errors" 187)),(e_ x "__firstlineno__" a8 (j_ a9 a10)),(e_ x "__static_attributes__" a13 (r_ a14)),(e_ x "__doc__" a17 .none)]) 2) #[])
noncomputable abbrev t33(a3 a8:Nat)(a9:String)(a10 a13:Nat)(a14:Int)(a15 a18 a19:Nat)(x:Params):Obj:=(@Obj.mk (.type "dict") none (@Data.dict (List.toArray [(e_ x "__module__" a3 (p_ "oddbases.errors" 187)),(e_ x "__qualname__" a8 (p_ a9 a10)),(e_ x "__firstlineno__" a13 (j_ a14 a15)),(e_ x "__static_attributes__" a18 (r_ a19))]) 4) #[])
abbrev U51(x:Params):DictEntry:=(e_ x "Way" 526 (r_ 265))
abbrev U50(x:Params):DictEntry:=(e_ x "NoWay" 222 (r_ 37))
abbrev U49(x:Params):DictEntry:=(e_ x "__doc__" 166 .none)
abbrev U48(x:Params):DictEntry:=(e_ x "Plain" 567 (r_ 300))
abbrev U47(x:Params):DictEntry:=(e_ x "added" 431 (r_ 199))
abbrev U46(x:Params):DictEntry:=(e_ x "NoRow" 398 (r_ 169))
abbrev U45(x:Params):DictEntry:=(e_ x "__spec__" 169 .none)
abbrev U44(x:Params):DictEntry:=(e_ x "NoText" 382 (r_ 157))
abbrev U43(x:Params):DictEntry:=(e_ x "NoSpan" 350 (r_ 133))
abbrev U42(x:Params):DictEntry:=(e_ x "Nought" 334 (r_ 121))
abbrev U41(x:Params):DictEntry:=(e_ x "NoRatio" 286 (r_ 85))
abbrev U40(x:Params):DictEntry:=(e_ x "TooLess" 270 (r_ 73))
abbrev U39(x:Params):DictEntry:=(e_ x "bounded" 452 (r_ 213))
abbrev U38(x:Params):DictEntry:=(e_ x "as_pair" 421 (r_ 192))
abbrev U37(x:Params):DictEntry:=(e_ x "is_pair" 414 (r_ 185))
abbrev U36(x:Params):DictEntry:=(e_ x "NoTotal" 366 (r_ 145))
abbrev U35(x:Params):DictEntry:=(e_ x "NoPairs" 318 (r_ 109))
abbrev U34(x:Params):DictEntry:=(e_ x "NoNumber" 238 (r_ 49))
abbrev U33(x:Params):DictEntry:=(e_ x "OddError" 206 (r_ 24))
abbrev U32(x:Params):DictEntry:=(e_ x "__cached__" 174 .none)
abbrev U31(x:Params):DictEntry:=(e_ x "is_whole" 407 (r_ 178))
abbrev U30(x:Params):DictEntry:=(e_ x "NoFalling" 302 (r_ 97))
abbrev U29(x:Params):DictEntry:=(e_ x "NoWriting" 254 (r_ 61))
abbrev U28(x:Params):DictEntry:=(e_ x "__package__" 167 .none)
abbrev U27(x:Params):DictEntry:=(e_ x "multiplied" 441 (r_ 206))
abbrev U26(x:Params):DictEntry:=(e_ x "__builtins__" 171 (r_ 4))
abbrev U25(x:Params):DictEntry:=(e_ x "whole_read" 1266 (r_ 811))
abbrev U24(x:Params):DictEntry:=(e_ x "number_read" 1274 (r_ 818))
abbrev U23(x:Params):DictEntry:=(e_ x "whole_shown" 1236 (r_ 785))
abbrev U22(x:Params):DictEntry:=(e_ x "written_row" 1038 (r_ 656))
abbrev U21(x:Params):DictEntry:=(e_ x "number_shown" 1243 (r_ 792))
abbrev U20(x:Params):DictEntry:=(e_ x "lender_above" 1150 (r_ 729))
abbrev U19(x:Params):DictEntry:=(e_ x "__annotations__" 170 (r_ 6))
abbrev U18(x:Params):DictEntry:=(e_ x "without_debts" 1169 (r_ 743))
abbrev U17(x:Params):DictEntry:=(e_ x "times_by_ratio" 1181 (r_ 750))
abbrev U16(x:Params):DictEntry:=(e_ x "times_in_falling" 1194 (r_ 757))
abbrev U15(x:Params):DictEntry:=(e_ x "has_figures_alone" 973 (r_ 804))
abbrev U14(x:Params):DictEntry:=(e_ x "steps_and_writing" 930 (r_ 579))
abbrev U13(x:Params):DictEntry:=(e_ x "held_to_be_a_heap" 875 (r_ 544))
abbrev U12(x:Params):DictEntry:=(e_ x "quotients_and_rest" 1117 (r_ 705))
abbrev U11(x:Params):DictEntry:=(e_ x "quotients_by_ratio" 1094 (r_ 691))
abbrev U10(x:Params):DictEntry:=(e_ x "written_by_weights" 1022 (r_ 642))
abbrev U9(x:Params):DictEntry:=(e_ x "figures_and_carries" 953 (r_ 593))
abbrev U8(x:Params):DictEntry:=(e_ x "held_to_be_writings" 1000 (r_ 628))
abbrev U7(x:Params):DictEntry:=(e_ x "quotients_in_falling" 1108 (r_ 698))
abbrev U6(x:Params):DictEntry:=(e_ x "FIGURES" 1226 (p_ "0123456789" 1225))
abbrev U5(x:Params):DictEntry:=(e_ x "has_figures_alone_texts" 1258 (r_ 804))
abbrev U4(x:Params):DictEntry:=(e_ x "__file__" 173 (p_ "/claim/cut.py" 172))
abbrev U3(x:Params):DictEntry:=(e_ x "has_figures_alone_writings" 974 (r_ 607))
abbrev U2(x:Params):DictEntry:=(e_ x "has_mosts_above_noughts_alone" 983 (r_ 614))
abbrev U1(x:Params):DictEntry:=(e_ x "__loader__" 168 (.builtin "__main__.__loader__#opaque"))
abbrev U0(x:Params):DictEntry:=(e_ x "__name__" 165 (p_ "law_oddbases_k60_rows_refused" 1381))
def eM:=t0 "law" 105 "law_oddbases_k60_rows_refused" 1381 947
def eN:=t1 "law" 1460 "law" 1461 1462 591 1 942 943 944 945 946 1469 1470
def VT:=t2 "law" 105
def za:=t3
def eO:=t4 "_law_script" 1463 "_law_number" 1464 "_law_ahead" 1465 "_law_cell" 1466 "_law_row_here" 1467 "_law_name" 1468
def zc:=t5
def eP:=t0 "_law_due" 104 "law_oddbases_k60_rows_refused" 1381 940
def eQ:=t6 "_law_due" 1454 1455 1456 588 1 937 938 939 1457 1458
def VU:=t2 "_law_due" 104
def eR:=t0 "_law_row" 103 "law_oddbases_k60_rows_refused" 1381 935
def eS:=t1 "_law_row" 1443 "_law_row" 1444 1445 571 1 930 931 932 933 934 1451 1452
def VV:=t2 "_law_row" 103
def eT:=t7 "_law_cell" 1446 "_law_base" 1447 "_law_number" 1448 "_law_pick" 1449 "_law_some" 1450
def eU:=t0 "_law_of_pairs" 102 "law_oddbases_k60_rows_refused" 1381 928
def eV:=t1 "_law_of_pairs" 1434 "_law_of_pairs" 1435 1436 566 2 923 924 925 926 927 1440 1441
def VW:=t2 "_law_of_pairs" 102
def eW:=t8 "_law_base" 1437 "_law_number" 1438 "_law_some" 1439
def eX:=t0 "_law_too_less" 101 "law_oddbases_k60_rows_refused" 1381 921
def eZ:=t1 "_law_too_less" 1426 "_law_too_less" 1427 1428 563 1 916 917 918 919 920 1431 1432
def VX:=t2 "_law_too_less" 101
def e8:=t9 "_law_base" 1429 "_law_some" 1430
def e9:=t0 "_law_no_number" 100 "law_oddbases_k60_rows_refused" 1381 914
def db:=t1 "_law_no_number" 1417 "_law_no_number" 1418 1419 558 2 909 910 911 912 913 1423 1424
def VY:=t2 "_law_no_number" 100
def dj:=t8 "_law_base" 1420 "_law_number" 1421 "_law_some" 1422
def dk:=t0 "_law_no_text" 99 "law_oddbases_k60_rows_refused" 1381 907
def dm:=t1 "_law_no_text" 1408 "_law_no_text" 1409 1410 548 2 902 903 904 905 906 1414 1415
def VZ:=t2 "_law_no_text" 99
def dq:=t8 "_law_base" 1411 "_law_number" 1412 "_law_some" 1413
def dr:=t0 "_law_no_row" 98 "law_oddbases_k60_rows_refused" 1381 900
def du:=t1 "_law_no_row" 1400 "_law_no_row" 1401 1402 541 1 895 896 897 898 899 1405 1406
def V0:=t2 "_law_no_row" 98
def dw:=t9 "_law_cell" 1403 "_law_some" 1404
def Tn:=t0 "_law_refusal" 97 "law_oddbases_k60_rows_refused" 1381 893
def To:=t1 "_law_refusal" 1391 "_law_refusal" 1392 1393 531 1 888 889 890 891 892 1397 1398
def PV:=t2 "_law_refusal" 97
def Tp:=t8 "_law_row_here" 1394 "_law_kinds" 1395 "e" 1396
def Tq:=t0 "_law_cell_at" 96 "law_oddbases_k60_rows_refused" 1381 886
def Tr:=t1 "_law_cell_at" 1383 "_law_cell_at" 1384 1385 527 2 881 882 883 884 885 1388 1389
def PX:=t2 "_law_cell_at" 96
def Ts:=t9 "_law_script" 1386 "_law_k" 1387
def Tt:=t0 "said" 94 "oddbases.desk" 1298 879
def Tu:=t1 "said" 1372 "said" 1373 1374 520 1 874 875 876 877 878 1378 1379
def PY:=t2 "said" 94
def Tv:=t8 "row" 1375 "words" 1376 "way" 1377
def Tw:=t0 "writing_said" 93 "oddbases.desk" 1298 872
def Tx:=t1 "writing_said" 1363 "writing_said" 1364 1365 512 3 867 868 869 870 871 1369 1370
def PZ:=t2 "writing_said" 93
def Ty:=t8 "words" 1366 "way" 1367 "writing" 1368
def Tz:=t0 "reckoning_said" 92 "oddbases.desk" 1298 865
def TC:=t1 "reckoning_said" 1353 "reckoning_said" 1354 1355 504 4 860 861 862 863 864 1360 1361
def P0:=t2 "reckoning_said" 92
def TD:=t10 "asked" 1356 "way" 1357 "one" 1358 "other" 1359
def TF:=t0 "order_said" 91 "oddbases.desk" 1298 858
def TH:=t1 "order_said" 1343 "order_said" 1344 1345 497 3 853 854 855 856 857 1350 1351
def P1:=t2 "order_said" 91
def TK:=t10 "way" 1346 "one" 1347 "other" 1348 "told" 1349
def TL:=t0 "share_said" 90 "oddbases.desk" 1298 851
def TM:=t1 "share_said" 1333 "share_said" 1334 1335 494 3 846 847 848 849 850 1340 1341
def P2:=t2 "share_said" 90
def TN:=t10 "way" 1336 "writing" 1337 "many" 1338 "parts" 1339
def TQ:=t0 "words_of" 89 "oddbases.desk" 1298 844
def TR:=t1 "words_of" 1325 "words_of" 1326 1327 489 1 839 840 841 842 843 1330 1331
def P3:=t2 "words_of" 89
def TU:=t9 "row" 1328 "words" 1329
def TV(x:Params):Obj:=(@Obj.mk (.type "dict") none (@Data.dict (List.toArray [(e_ x "write" 1300 (j_ 3 1301)),(e_ x "worth" 1302 (j_ 3 1303)),(e_ x "plus" 1304 (j_ 4 1305)),(e_ x "minus" 1306 (j_ 4 1307)),(e_ x "times" 1308 (j_ 4 1309)),(e_ x "share" 1310 (j_ 4 1311)),(e_ x "order" 1312 (j_ 4 1313)),(e_ x "move" 1314 (j_ 4 1315))]) 8) #[])
def TW:=t0 "way_read" 86 "oddbases.texts" 1223 836
def TX:=t1 "way_read" 1289 "way_read" 1290 1291 480 1 831 832 833 834 835 1295 1296
def P4:=t2 "way_read" 86
def TY:=t8 "text" 1292 "name" 1293 "number" 1294
def TZ:=t0 "way_made" 85 "oddbases.texts" 1223 829
def T0:=t1 "way_made" 1281 "way_made" 1282 1283 466 2 824 825 826 827 828 1286 1287
def P5:=t2 "way_made" 85
def T1:=t9 "name" 1284 "number" 1285
def T2:=t0 "row_read" 84 "oddbases.texts" 1223 822
def T3:=t6 "row_read" 1275 1276 1277 458 2 819 820 821 1278 1279
def P6:=t2 "row_read" 84
def al:=t0 "number_read" 83 "oddbases.texts" 1223 817
def ao:=t1 "number_read" 1267 "number_read" 1268 1269 451 1 812 813 814 815 816 1272 1273
def T4:=t2 "number_read" 83
def ap:=t9 "text" 1270 "parts" 1271
def aq:=t0 "whole_read" 82 "oddbases.texts" 1223 810
def au:=t1 "whole_read" 1259 "whole_read" 1260 1261 444 1 805 806 807 808 809 1264 1265
def T5:=t2 "whole_read" 82
def av:=t9 "text" 1262 "figures" 1263
def aw:=t0 "has_figures_alone" 80 "oddbases.texts" 1223 803
def ax:=t1 "has_figures_alone" 1250 "has_figures_alone" 1251 1252 438 1 798 799 800 801 802 1255 1256
def T6:=t2 "has_figures_alone" 80
def ay:=t9 "text" 1253 "sign" 1254
def az:=t0 "row_shown" 79 "oddbases.texts" 1223 796
def aA:=t6 "row_shown" 1244 1245 1246 434 1 793 794 795 1247 1248
def T7:=t2 "row_shown" 79
def aB:=t0 "number_shown" 78 "oddbases.texts" 1223 791
def aC:=t1 "number_shown" 1237 "number_shown" 1238 1239 430 1 786 787 788 789 790 1241 1242
def T8:=t2 "number_shown" 78
def aD:=t11 "number" 1240
def aE:=t0 "whole_shown" 77 "oddbases.texts" 1223 784
def aF:=t1 "whole_shown" 1227 "whole_shown" 1228 1229 418 1 779 780 781 782 783 1234 1235
def T9:=t2 "whole_shown" 77
def aG:=t10 "number" 1230 "limit" 1231 "parts" 1232 "rest" 1233
def aH:=t0 "times" 74 "oddbases.sums" 1128 777
def aI:=t1 "times" 1214 "times" 1215 1216 411 3 772 773 774 775 776 1220 1221
def T_:=t2 "times" 74
def aJ:=t8 "way" 1217 "one" 1218 "other" 1219
def aK:=t0 "minus" 73 "oddbases.sums" 1128 770
def aL:=t1 "minus" 1204 "minus" 1205 1206 405 3 765 766 767 768 769 1211 1212
def Sa:=t2 "minus" 73
def aM:=t10 "way" 1207 "one" 1208 "other" 1209 "difference" 1210
def aN:=t0 "plus" 72 "oddbases.sums" 1128 763
def aO:=t1 "plus" 1195 "plus" 1196 1197 402 3 758 759 760 761 762 1201 1202
def Sb:=t2 "plus" 72
def aP:=t8 "way" 1198 "one" 1199 "other" 1200
def aQ:=t0 "times_in_falling" 71 "oddbases.sums" 1128 756
def aR:=t1 "times_in_falling" 1182 "times_in_falling" 1183 1184 394 3 751 752 753 754 755 1192 1193
def Sd:=t2 "times_in_falling" 71
def aS:=t12 "way" 1185 "one" 1186 "other" 1187 "product" 1188 "ahead" 1189 "place" 1190 "above" 1191
def aU:=t0 "times_by_ratio" 70 "oddbases.sums" 1128 749
def aV:=t1 "times_by_ratio" 1170 "times_by_ratio" 1171 1172 388 3 744 745 746 747 748 1179 1180
def Se:=t2 "times_by_ratio" 70
def aW:=t4 "way" 1173 "one" 1174 "other" 1175 "product" 1176 "place" 1177 "above" 1178
def aX:=t0 "without_debts" 69 "oddbases.sums" 1128 742
def aY:=t1 "without_debts" 1160 "without_debts" 1161 1162 382 2 737 738 739 740 741 1167 1168
def Sf:=t2 "without_debts" 69
def aZ:=t10 "way" 1163 "row" 1164 "things" 1165 "place" 1166
def a_:=t0 "lend" 68 "oddbases.sums" 1128 735
def Za:=t1 "lend" 1151 "lend" 1152 1153 375 3 730 731 732 733 734 1157 1158
def Sg:=t2 "lend" 68
def Zb:=t8 "way" 1154 "row" 1155 "lender" 1156
def Zc:=t0 "lender_above" 67 "oddbases.sums" 1128 728
def Zd:=t1 "lender_above" 1142 "lender_above" 1143 1144 370 2 723 724 725 726 727 1148 1149
def Sh:=t2 "lender_above" 67
def Ze:=t8 "row" 1145 "place" 1146 "lender" 1147
def Zf:=t0 "row_times" 66 "oddbases.sums" 1128 721
def Zg:=t6 "row_times" 1136 1137 1138 368 2 718 719 720 1139 1140
def Si:=t2 "row_times" 66
def Zh:=t0 "row_plus" 65 "oddbases.sums" 1128 716
def Zi:=t6 "row_plus" 1130 1131 1132 365 2 713 714 715 1133 1134
def Sj:=t2 "row_plus" 65
def Zj:=t0 "shared" 63 "oddbases.shares" 1080 711
def Zk:=t1 "shared" 1118 "shared" 1119 1120 356 3 706 707 708 709 710 1125 1126
def Sk:=t2 "shared" 63
def Sm:=t10 "way" 1121 "row" 1122 "many" 1123 "parts" 1124
def Sn:=t0 "quotients_and_rest" 62 "oddbases.shares" 1080 704
def So:=t1 "quotients_and_rest" 1109 "quotients_and_rest" 1110 1111 352 3 699 700 701 702 703 1115 1116
def P7:=t2 "quotients_and_rest" 62
def Sq:=t8 "way" 1112 "row" 1113 "many" 1114
def Sr:=t0 "quotients_in_falling" 61 "oddbases.shares" 1080 697
def Ss:=t1 "quotients_in_falling" 1095 "quotients_in_falling" 1096 1097 339 3 692 693 694 695 696 1106 1107
def P8:=t2 "quotients_in_falling" 61
def Su(x:Params):Obj:=(@Obj.mk (.type "tuple") none (@Data.seq (List.toArray [(p_ "way" 1098),(p_ "row" 1099),(p_ "many" 1100),(p_ "quotients" 1101),(p_ "rest" 1102),(p_ "ahead" 1103),(p_ "place" 1104),(p_ "total" 1105)]) 0) #[])
def Zl:=t0 "quotients_by_ratio" 60 "oddbases.shares" 1080 690
def Zm:=t1 "quotients_by_ratio" 1082 "quotients_by_ratio" 1083 1084 330 3 685 686 687 688 689 1092 1093
def Sv:=t2 "quotients_by_ratio" 60
def Zo:=t12 "way" 1085 "row" 1086 "many" 1087 "quotients" 1088 "rest" 1089 "place" 1090 "total" 1091
def Zp:=t0 "order" 58 "oddbases.orders" 1058 683
def Zq:=t1 "order" 1069 "order" 1070 1071 318 3 678 679 680 681 682 1077 1078
def Sw:=t2 "order" 58
def Zr:=t7 "way" 1072 "one" 1073 "other" 1074 "place" 1075 "more" 1076
def Zs:=t0 "parting" 57 "oddbases.orders" 1058 676
def Zt:=t1 "parting" 1060 "parting" 1061 1062 313 2 671 672 673 674 675 1066 1067
def Sx:=t2 "parting" 57
def Zu:=t8 "one" 1063 "other" 1064 "place" 1065
def Zv:=t0 "moved" 55 "oddbases.moving" 1039 669
def Zw:=t1 "moved" 1049 "moved" 1050 1051 309 3 664 665 666 667 668 1055 1056
def Sy:=t2 "moved" 55
def Zy:=t8 "way" 1052 "row" 1053 "other" 1054
def Zz:=t0 "as_wanted" 54 "oddbases.moving" 1039 662
def ZA:=t1 "as_wanted" 1041 "as_wanted" 1042 1043 303 2 657 658 659 660 661 1046 1047
def Sz:=t2 "as_wanted" 54
def ZB:=t9 "way" 1044 "number" 1045
def ZC:=t0 "written_row" 52 "oddbases.writings" 962 655
def ZD:=t1 "written_row" 1031 "written_row" 1032 1033 298 2 650 651 652 653 654 1036 1037
def SA:=t2 "written_row" 52
def ZE:=t9 "way" 1034 "row" 1035
def ZF:=t0 "written" 51 "oddbases.writings" 962 648
def ZG:=t1 "written" 1023 "written" 1024 1025 292 2 643 644 645 646 647 1028 1029
def SB:=t2 "written" 51
def ZH:=t9 "way" 1026 "number" 1027
def ZI:=t0 "written_by_weights" 50 "oddbases.writings" 962 641
def ZJ:=t1 "written_by_weights" 1012 "written_by_weights" 1013 1014 284 2 636 637 638 639 640 1020 1021
def SD:=t2 "written_by_weights" 50
def ZK:=t7 "way" 1015 "number" 1016 "figures" 1017 "rest" 1018 "weight" 1019
def ZL:=t0 "worth" 49 "oddbases.writings" 962 634
def ZM:=t1 "worth" 1001 "worth" 1002 1003 279 2 629 630 631 632 633 1009 1010
def SE:=t2 "worth" 49
def ZN:=t7 "way" 1004 "row" 1005 "number" 1006 "thing" 1007 "weight" 1008
def ZO:=t0 "held_to_be_writings" 48 "oddbases.writings" 962 627
def ZP:=t1 "held_to_be_writings" 992 "held_to_be_writings" 993 994 275 2 622 623 624 625 626 998 999
def SF:=t2 "held_to_be_writings" 48
def ZQ:=t8 "way" 995 "rows" 996 "row" 997
def ZR:=t0 "is_writing" 47 "oddbases.writings" 962 620
def ZS:=t1 "is_writing" 984 "is_writing" 985 986 269 2 615 616 617 618 619 989 990
def SG:=t2 "is_writing" 47
def ZT:=t9 "way" 987 "row" 988
def ZU:=t0 "has_mosts_above_noughts_alone" 46 "oddbases.writings" 962 613
def ZV:=t1 "has_mosts_above_noughts_alone" 975 "has_mosts_above_noughts_alone" 976 977 264 2 608 609 610 611 612 981 982
def SH:=t2 "has_mosts_above_noughts_alone" 46
def ZW:=t8 "way" 978 "row" 979 "place" 980
def ZX:=t0 "has_figures_alone" 44 "oddbases.writings" 962 606
def ZY:=t1 "has_figures_alone" 964 "has_figures_alone" 965 966 258 2 601 602 603 604 605 971 972
def SI:=t2 "has_figures_alone" 44
def ZZ:=t10 "way" 967 "row" 968 "place" 969 "thing" 970
def Z0:=t0 "settled" 42 "oddbases.settling" 939 599
def Z1:=t1 "settled" 954 "settled" 955 956 255 2 594 595 596 597 598 959 960
def SJ:=t2 "settled" 42
def Z2:=t9 "way" 957 "totals" 958
def Z3:=t0 "figures_and_carries" 41 "oddbases.settling" 939 592
def Z4:=t1 "figures_and_carries" 941 "figures_and_carries" 942 943 240 2 587 588 589 590 591 951 952
def SK:=t2 "figures_and_carries" 41
def Z5:=t12 "way" 944 "totals" 945 "figures" 946 "carry" 947 "found" 948 "place" 949 "parts" 950
def Z6:=t0 "fallen" 39 "oddbases.falls" 865 585
def Z7:=t1 "fallen" 931 "fallen" 932 933 237 2 580 581 582 583 584 936 937
def SL:=t2 "fallen" 39
def Z8:=t9 "way" 934 "heap" 935
def SM:=t0 "steps_and_writing" 38 "oddbases.falls" 865 578
def SN:=t1 "steps_and_writing" 918 "steps_and_writing" 919 920 222 2 573 574 575 576 577 928 929
def P9:=t2 "steps_and_writing" 38
def SO:=t12 "way" 921 "heap" 922 "done" 923 "left" 924 "place" 925 "step" 926 "many" 927
def SQ:=t0 "how_often" 37 "oddbases.falls" 865 571
def SR:=t1 "how_often" 908 "how_often" 909 910 217 3 566 567 568 569 570 915 916
def Oa:=t2 "how_often" 37
def SS:=t10 "way" 911 "heap" 912 "step" 913 "place" 914
def ST:=t0 "step_at" 36 "oddbases.falls" 865 564
def Z9:=t1 "step_at" 899 "step_at" 900 901 211 3 559 560 561 562 563 905 906
def SU:=t2 "step_at" 36
def Yb:=t8 "way" 902 "heap" 903 "place" 904
def Yc:=t0 "do_steps" 35 "oddbases.falls" 865 557
def Yd:=t1 "do_steps" 887 "do_steps" 888 889 206 4 552 553 554 555 556 896 897
def SV:=t2 "do_steps" 35
def Ye:=t4 "way" 890 "heap" 891 "step" 892 "many" 893 "place" 894 "things" 895
def Yg:=t0 "changes" 34 "oddbases.falls" 865 550
def Yh:=t1 "changes" 876 "changes" 877 878 194 2 545 546 547 548 549 884 885
def SW:=t2 "changes" 34
def Yi:=t7 "way" 879 "step" 880 "kind" 881 "place" 882 "parted" 883
def Yj:=t0 "held_to_be_a_heap" 33 "oddbases.falls" 865 543
def Yk:=t1 "held_to_be_a_heap" 867 "held_to_be_a_heap" 868 869 188 2 538 539 540 541 542 873 874
def SY:=t2 "held_to_be_a_heap" 33
def Yl:=t8 "way" 870 "heap" 871 "things" 872
def Ym:=t0 "trimmed" 31 "oddbases.rows" 847 536
def Yn:=t1 "trimmed" 857 "trimmed" 858 859 182 1 531 532 533 534 535 862 863
def SZ:=t2 "trimmed" 31
def Yo:=t9 "row" 860 "things" 861
def Yp:=t0 "thing_at" 30 "oddbases.rows" 847 529
def Yq:=t1 "thing_at" 849 "thing_at" 850 851 178 2 524 525 526 527 528 854 855
def S0:=t2 "thing_at" 30
def Yr:=t9 "row" 852 "place" 853
def S1:=t13 521
def S2:=t14 521
def Ys:=t15 "Pairs" 521 520 470 778 786
def Yt(x:Params):Obj:=(@Obj.mk (.type "dict") none (@Data.dict (List.toArray [(e_ x "__module__" 785 (p_ "oddbases.ways" 442)),(e_ x "__firstlineno__" 789 (j_ 154 788)),(e_ x "__init__" 797 (r_ 483)),(e_ x "nought" 804 (r_ 490)),(e_ x "high" 812 (r_ 497)),(e_ x "ratio" 820 (r_ 504)),(e_ x "split" 833 (r_ 511)),(e_ x "has" 841 (r_ 518)),(e_ x "__static_attributes__" 843 (r_ 519)),(e_ x "__doc__" 844 .none)]) 2) #[])
def Yu:=t11 "most" 842
def Yv:=t16 "has" "Pairs.has" 28 5 517
def Yw:=t1 "has" 834 "Pairs.has" 835 836 175 2 512 513 514 515 516 839 840
def S3:=t17 "has" "Pairs.has" 28 5
def Yx:=t9 "self" 837 "number" 838
def Yy:=t16 "split" "Pairs.split" 28 4 510
def Yz:=t1 "split" 821 "Pairs.split" 822 823 168 3 505 506 507 508 509 831 832
def S4:=t17 "split" "Pairs.split" 28 4
def YA:=t12 "self" 824 "total" 825 "place" 826 "pair" 827 "figures" 828 "figure" 829 "turned" 830
def YB:=t16 "ratio" "Pairs.ratio" 28 3 503
def YC:=t1 "ratio" 813 "Pairs.ratio" 814 815 165 2 498 499 500 501 502 818 819
def S5:=t17 "ratio" "Pairs.ratio" 28 3
def YD:=t9 "self" 816 "place" 817
def YE:=t16 "high" "Pairs.high" 28 2 496
def YF:=t1 "high" 805 "Pairs.high" 806 807 162 2 491 492 493 494 495 810 811
def S6:=t17 "high" "Pairs.high" 28 2
def YG:=t9 "self" 808 "place" 809
def YH:=t16 "nought" "Pairs.nought" 28 1 489
def YI:=t1 "nought" 798 "Pairs.nought" 799 800 159 1 484 485 486 487 488 802 803
def S7:=t17 "nought" "Pairs.nought" 28 1
def YJ:=t11 "self" 801
def YK:=t16 "__init__" "Pairs.__init__" 28 0 482
def YL:=t1 "__init__" 790 "Pairs.__init__" 791 792 156 2 477 478 479 480 481 795 796
def S8:=t17 "__init__" "Pairs.__init__" 28 0
def YM:=t9 "self" 793 "most" 794
def S9:=t18 475 472 "oddbases.ways" 442
def Ra:=t19 "Pairs" 780 781 782 154 473 474 783 784
def Rb:=t20 156 482 159 489 162 496 165 503 168 510 175 517
def Rc:=t21 785 787 "Pairs" 786 789 154 788 "__init__" 797 483 "nought" 804 490 "high" 812 497 "ratio" 820 504 833 511 841 518 843 519
def zD:=t22
def xC:=t23 265
def Re:=t13 467
def Rg:=t14 467
def YO:=t15 "Falling" 467 466 423 715 723
def YQ:=t24 722 726 130 725 734 436 "high" 742 443 "weights" 755 450 763 457 "split" 772 464 774 465 775
def YR:=t11 "most" 773
def YS:=t16 "split" "Falling.split" 27 4 463
def YT:=t1 "split" 764 "Falling.split" 765 766 152 3 458 459 460 461 462 770 771
def Rh:=t17 "split" "Falling.split" 27 4
def YU:=t8 "self" 767 "total" 768 "place" 769
def YV:=t16 "ratio" "Falling.ratio" 27 3 456
def YW:=t1 "ratio" 756 "Falling.ratio" 757 758 149 2 451 452 453 454 455 761 762
def Ri:=t17 "ratio" "Falling.ratio" 27 3
def Rj:=t9 "self" 759 "place" 760
def Rk:=t16 "weights" "Falling.weights" 27 2 449
def Rm:=t1 "weights" 743 "Falling.weights" 744 745 138 2 444 445 446 447 448 753 754
def Ob:=t17 "weights" "Falling.weights" 27 2
def Rn:=t12 "self" 746 "many" 747 "weights" 748 "ahead" 749 "weight" 750 "place" 751 "following" 752
def Ro:=t16 "high" "Falling.high" 27 1 442
def Rp:=t1 "high" 735 "Falling.high" 736 737 135 2 437 438 439 440 441 740 741
def Oc:=t17 "high" "Falling.high" 27 1
def Rq:=t9 "self" 738 "place" 739
def YX:=t16 "__init__" "Falling.__init__" 27 0 435
def YY:=t1 "__init__" 727 "Falling.__init__" 728 729 132 2 430 431 432 433 434 732 733
def Rr:=t17 "__init__" "Falling.__init__" 27 0
def YZ:=t9 "self" 730 "most" 731
def Rs:=t18 428 425 "oddbases.ways" 442
def Rt:=t19 "Falling" 717 718 719 130 426 427 720 721
def Ru:=t25 132 435 135 442 138 449 149 456 152 463
def Rv:=t26 722 724 "Falling" 723 726 130 725 734 436 "high" 742 443 "weights" 755 450 763 457 "split" 772 464 774 465
def Rx:=t13 420
def Ry:=t14 420
def Y_:=t15 "Growing" 420 419 390 674 682
def Xa:=t27 681 685 120 684 693 403 701 410 709 417 711 418 712
def Xb:=t11 "first" 710
def Xc:=t16 "ratio" "Growing.ratio" 26 2 416
def Xd:=t1 "ratio" 702 "Growing.ratio" 703 704 128 2 411 412 413 414 415 707 708
def RA:=t17 "ratio" "Growing.ratio" 26 2
def Xe:=t9 "self" 705 "place" 706
def Xf:=t16 "high" "Growing.high" 26 1 409
def Xg:=t1 "high" 694 "Growing.high" 695 696 125 2 404 405 406 407 408 699 700
def RB:=t17 "high" "Growing.high" 26 1
def Xh:=t9 "self" 697 "place" 698
def Xi:=t16 "__init__" "Growing.__init__" 26 0 402
def Xj:=t1 "__init__" 686 "Growing.__init__" 687 688 122 2 397 398 399 400 401 691 692
def RC:=t17 "__init__" "Growing.__init__" 26 0
def Xk:=t9 "self" 689 "first" 690
def RD:=t18 395 392 "oddbases.ways" 442
def RE:=t19 "Growing" 676 677 678 120 393 394 679 680
def RF:=t28 122 402 125 409 128 416
def RG:=t29 681 683 "Growing" 682 685 120 684 693 403 701 410 709 417 711 418
def RH:=t13 387
def RI:=t14 387
def Xl:=t15 "Balanced" 387 386 343 617 625
def Xm:=t24 624 628 104 627 636 356 "low" 644 363 "high" 652 370 660 377 "has" 668 384 670 385 671
def Xn:=t11 "half" 669
def Xo:=t16 "has" "Balanced.has" 25 4 383
def Xp:=t1 "has" 661 "Balanced.has" 662 663 118 2 378 379 380 381 382 666 667
def RJ:=t17 "has" "Balanced.has" 25 4
def Xq:=t9 "self" 664 "number" 665
def Xr:=t16 "ratio" "Balanced.ratio" 25 3 376
def Xs:=t1 "ratio" 653 "Balanced.ratio" 654 655 115 2 371 372 373 374 375 658 659
def RK:=t17 "ratio" "Balanced.ratio" 25 3
def Xu:=t9 "self" 656 "place" 657
def Xv:=t16 "high" "Balanced.high" 25 2 369
def Xw:=t1 "high" 645 "Balanced.high" 646 647 112 2 364 365 366 367 368 650 651
def RL:=t17 "high" "Balanced.high" 25 2
def Xx:=t9 "self" 648 "place" 649
def Xy:=t16 "low" "Balanced.low" 25 1 362
def Xz:=t1 "low" 637 "Balanced.low" 638 639 109 2 357 358 359 360 361 642 643
def RM:=t17 "low" "Balanced.low" 25 1
def XA:=t9 "self" 640 "place" 641
def XB:=t16 "__init__" "Balanced.__init__" 25 0 355
def XC:=t1 "__init__" 629 "Balanced.__init__" 630 631 106 2 350 351 352 353 354 634 635
def RN:=t17 "__init__" "Balanced.__init__" 25 0
def XD:=t9 "self" 632 "half" 633
def RO:=t18 348 345 "oddbases.ways" 442
def RP:=t19 "Balanced" 619 620 621 104 346 347 622 623
def RQ:=t25 106 355 109 362 112 369 115 376 118 383
def RS:=t26 624 626 "Balanced" 625 628 104 627 636 356 "low" 644 363 "high" 652 370 660 377 "has" 668 384 670 385
def RT:=t13 340
def RU:=t14 340
def XE:=t15 "Below" 340 339 303 568 576
def XF(x:Params):Obj:=(@Obj.mk (.type "dict") none (@Data.dict (List.toArray [(e_ x "__module__" 575 (p_ "oddbases.ways" 442)),(e_ x "__firstlineno__" 579 (j_ 91 578)),(e_ x "__init__" 587 (r_ 316)),(e_ x "high" 595 (r_ 323)),(e_ x "ratio" 603 (r_ 330)),(e_ x "has" 611 (r_ 337)),(e_ x "__static_attributes__" 613 (r_ 338)),(e_ x "__doc__" 614 .none)]) 2) #[])
def XG:=t11 "base" 612
def XH:=t16 "has" "Below.has" 24 3 336
def XI:=t1 "has" 604 "Below.has" 605 606 102 2 331 332 333 334 335 609 610
def RV:=t17 "has" "Below.has" 24 3
def XJ:=t9 "self" 607 "number" 608
def XM:=t16 "ratio" "Below.ratio" 24 2 329
def XN:=t1 "ratio" 596 "Below.ratio" 597 598 99 2 324 325 326 327 328 601 602
def RW:=t17 "ratio" "Below.ratio" 24 2
def XO:=t9 "self" 599 "place" 600
def RX:=t16 "high" "Below.high" 24 1 322
def RY:=t1 "high" 588 "Below.high" 589 590 96 2 317 318 319 320 321 593 594
def Od:=t17 "high" "Below.high" 24 1
def RZ:=t9 "self" 591 "place" 592
def R0:=t16 "__init__" "Below.__init__" 24 0 315
def R1:=t1 "__init__" 580 "Below.__init__" 581 582 93 2 310 311 312 313 314 585 586
def Oe:=t17 "__init__" "Below.__init__" 24 0
def R3:=t9 "self" 583 "base" 584
def Of:=t18 308 305 "oddbases.ways" 442
def R4:=t19 "Below" 570 571 572 91 306 307 573 574
def R5(x:Params):Obj:=(@Obj.mk .none none (@Data.fields (List.toArray [(j_ 93 0),(j_ 4 0),(r_ 315),(j_ 96 0),(j_ 4 0),(r_ 322),(j_ 99 0),(j_ 4 0),(r_ 329),(j_ 102 0),(j_ 4 0),(r_ 336)])) #[])
def R6(x:Params):Obj:=(@Obj.mk (.type "dict") none (@Data.dict (List.toArray [(e_ x "__module__" 575 (p_ "oddbases.ways" 442)),(e_ x "__qualname__" 577 (p_ "Below" 576)),(e_ x "__firstlineno__" 579 (j_ 91 578)),(e_ x "__init__" 587 (r_ 316)),(e_ x "high" 595 (r_ 323)),(e_ x "ratio" 603 (r_ 330)),(e_ x "has" 611 (r_ 337)),(e_ x "__static_attributes__" 613 (r_ 338))]) 8) #[])
def XQ:=t13 300
def XR:=t14 300
def gB:=t15 "Plain" 300 299 270 527 535
def gC:=t27 534 538 81 537 546 283 554 290 562 297 564 298 565
def gE:=t11 "base" 563
def gF:=t16 "ratio" "Plain.ratio" 23 2 296
def gG:=t1 "ratio" 555 "Plain.ratio" 556 557 89 2 291 292 293 294 295 560 561
def XS:=t17 "ratio" "Plain.ratio" 23 2
def gH:=t9 "self" 558 "place" 559
def gJ:=t16 "high" "Plain.high" 23 1 289
def gK:=t1 "high" 547 "Plain.high" 548 549 86 2 284 285 286 287 288 552 553
def XT:=t17 "high" "Plain.high" 23 1
def gL:=t9 "self" 550 "place" 551
def gM:=t16 "__init__" "Plain.__init__" 23 0 282
def gN:=t1 "__init__" 539 "Plain.__init__" 540 541 83 2 277 278 279 280 281 544 545
def XU:=t17 "__init__" "Plain.__init__" 23 0
def gO:=t9 "self" 542 "base" 543
def XV:=t18 275 272 "oddbases.ways" 442
def XW:=t19 "Plain" 529 530 531 81 273 274 532 533
def XX:=t28 83 282 86 289 89 296
def XY:=t29 534 536 "Plain" 535 538 81 537 546 283 554 290 562 297 564 298
def XZ:=t13 265
def X0:=t14 265
def gP:=t30 522 265
def gQ(x:Params):Obj:=(@Obj.mk (.type "getset_descriptor") none (@Data.fields (List.toArray [(p_ "__dict__" 520),(r_ 265),(.builtin "function.__dict__"),(.builtin "function.__dict__#set")])) #[])
def YN(x:Params):Obj:=(@Obj.mk (.type "type") none (@Data.cls (@ClassData.mk (.ofString "Way") [(.type "object")] [(r_ 265),(.type "object")] 264 (.ofString "Way") @Bool.true [] [(r_ 300),(r_ 340),(r_ 387),(r_ 420),(r_ 467),(r_ 521)] @Bool.false (@Option.none @Bool) @Bool.false)) (@List.toArray (@Option @Value) [none,none,(some (p_ "Way" 453)),(some (p_ "Way" 461)),(some (.builtin "object.__new__")),(some (.bool @Bool.true))]))
def gR(x:Params):Obj:=(@Obj.mk (.type "dict") none (@Data.dict (List.toArray [(e_ x "__module__" 460 (p_ "oddbases.ways" 442)),(e_ x "__firstlineno__" 464 (j_ 54 463)),(e_ x "nought" 471 (r_ 227)),(e_ x "low" 479 (r_ 234)),(e_ x "weights" 490 (r_ 241)),(e_ x "weight" 498 (r_ 248)),(e_ x "split" 510 (r_ 255)),(e_ x "has" 518 (r_ 262)),(e_ x "__static_attributes__" 519 (r_ 263)),(e_ x "__dict__" 521 (r_ 266)),(e_ x "__weakref__" 523 (r_ 267)),(e_ x "__doc__" 524 .none)]) 4) #[])
def gT:=t16 "has" "Way.has" 22 5 261
def gU:=t1 "has" 511 "Way.has" 512 513 79 2 256 257 258 259 260 516 517
def X1:=t17 "has" "Way.has" 22 5
def gW:=t9 "self" 514 "number" 515
def gX:=t16 "split" "Way.split" 22 4 254
def gY:=t1 "split" 499 "Way.split" 500 501 73 3 249 250 251 252 253 508 509
def X2:=t17 "split" "Way.split" 22 4
def gZ:=t4 "self" 502 "total" 503 "place" 504 "low" 505 "figures" 506 "figure" 507
def g0:=t16 "weight" "Way.weight" 22 3 247
def g7:=t1 "weight" 491 "Way.weight" 492 493 70 2 242 243 244 245 246 496 497
def X3:=t17 "weight" "Way.weight" 22 3
def g8:=t9 "self" 494 "place" 495
def g9:=t16 "weights" "Way.weights" 22 2 240
def fb:=t1 "weights" 480 "Way.weights" 481 482 62 2 235 236 237 238 239 488 489
def X4:=t17 "weights" "Way.weights" 22 2
def fc:=t7 "self" 483 "many" 484 "weights" 485 "weight" 486 "place" 487
def fe:=t16 "low" "Way.low" 22 1 233
def fh:=t1 "low" 472 "Way.low" 473 474 59 2 228 229 230 231 232 477 478
def X5:=t17 "low" "Way.low" 22 1
def fi:=t9 "self" 475 "place" 476
def fj:=t16 "nought" "Way.nought" 22 0 226
def fk:=t1 "nought" 465 "Way.nought" 466 467 56 1 221 222 223 224 225 469 470
def X6:=t17 "nought" "Way.nought" 22 0
def fm:=t11 "self" 468
def X7:=t18 219 216 "oddbases.ways" 442
def X8:=t19 "Way" 455 456 457 54 217 218 458 459
def X9:=t20 56 226 59 233 62 240 70 247 73 254 79 261
def X_:=t21 460 462 "Way" 461 464 54 463 "nought" 471 227 "low" 479 234 "weights" 490 241 "weight" 498 248 510 255 518 262 519 263
def fq:=t0 "bounded" 21 "oddbases.ways" 442 212
def ft:=t1 "bounded" 444 "bounded" 445 446 50 3 207 208 209 210 211 450 451
def Wa:=t2 "bounded" 21
def fu:=t8 "number" 447 "least" 448 "most" 449
def fv:=t0 "multiplied" 19 "oddbases.pairs" 399 205
def fw:=t1 "multiplied" 432 "multiplied" 433 434 43 2 200 201 202 203 204 439 440
def Wb:=t2 "multiplied" 19
def fA:=t10 "one" 435 "other" 436 "left" 437 "right" 438
def fB:=t0 "added" 18 "oddbases.pairs" 399 198
def fD:=t1 "added" 422 "added" 423 424 37 2 193 194 195 196 197 429 430
def R7:=t2 "added" 18
def Wc:=t10 "one" 425 "other" 426 "left" 427 "right" 428
def Wd:=t0 "as_pair" 17 "oddbases.pairs" 399 191
def We:=t1 "as_pair" 415 "as_pair" 416 417 33 1 186 187 188 189 190 419 420
def R8:=t2 "as_pair" 17
def Wf:=t11 "number" 418
def Wg:=t0 "is_pair" 16 "oddbases.pairs" 399 184
def Wh:=t1 "is_pair" 408 "is_pair" 409 410 31 1 179 180 181 182 183 412 413
def R9:=t2 "is_pair" 16
def Wi:=t11 "value" 411
def fE:=t0 "is_whole" 15 "oddbases.pairs" 399 177
def fF:=t1 "is_whole" 401 "is_whole" 402 403 29 1 172 173 174 175 176 405 406
def Wj:=t2 "is_whole" 15
def fG:=t11 "value" 404
def Wk:=t13 169
def Wl:=t14 169
def fH:=t31 "NoRow" 169 168 160 383 391
def fI:=t32 390 394 26 393 395 167 396
def Wm:=t18 165 162 "oddbases.errors" 187
def Wn:=t19 "NoRow" 385 386 387 26 163 164 388 389
def Wo:=t33 390 392 "NoRow" 391 394 26 393 395 167
def zJ:=t23 24
def Wp:=t13 157
def Wq:=t14 157
def fK:=t31 "NoText" 157 156 148 367 375
def fL:=t32 374 378 24 377 379 155 380
def Wr:=t18 153 150 "oddbases.errors" 187
def Ws:=t19 "NoText" 369 370 371 24 151 152 372 373
def Wt:=t33 374 376 "NoText" 375 378 24 377 379 155
def Wu:=t13 145
def Wv:=t14 145
def fM:=t31 "NoTotal" 145 144 136 351 359
def fN:=t32 358 362 22 361 363 143 364
def Ww:=t18 141 138 "oddbases.errors" 187
def Wx:=t19 "NoTotal" 353 354 355 22 139 140 356 357
def Wy:=t33 358 360 "NoTotal" 359 362 22 361 363 143
def Wz:=t13 133
def WA:=t14 133
def fO:=t31 "NoSpan" 133 132 124 335 343
def fP:=t32 342 346 20 345 347 131 348
def WB:=t18 129 126 "oddbases.errors" 187
def WC:=t19 "NoSpan" 337 338 339 20 127 128 340 341
def WD:=t33 342 344 "NoSpan" 343 346 20 345 347 131
def WE:=t13 121
def WF:=t14 121
def fQ:=t31 "Nought" 121 120 112 319 327
def fR:=t32 326 330 18 329 331 119 332
def WG:=t18 117 114 "oddbases.errors" 187
def WH:=t19 "Nought" 321 322 323 18 115 116 324 325
def fS:=t33 326 328 "Nought" 327 330 18 329 331 119
def fU:=t13 109
def fV:=t14 109
def jJ:=t31 "NoPairs" 109 108 100 303 311
def jK:=t32 310 314 16 313 315 107 316
def fW:=t18 105 102 "oddbases.errors" 187
def fX:=t19 "NoPairs" 305 306 307 16 103 104 308 309
def fY:=t33 310 312 "NoPairs" 311 314 16 313 315 107
def fZ:=t13 97
def f_:=t14 97
def jL:=t31 "NoFalling" 97 96 88 287 295
def jM:=t32 294 298 14 297 299 95 300
def eg:=t18 93 90 "oddbases.errors" 187
def eh:=t19 "NoFalling" 289 290 291 14 91 92 292 293
def eA:=t33 294 296 "NoFalling" 295 298 14 297 299 95
def eB:=t13 85
def eD:=t14 85
def jN:=t31 "NoRatio" 85 84 76 271 279
def jO:=t32 278 282 12 281 283 83 284
def eE:=t18 81 78 "oddbases.errors" 187
def eF:=t19 "NoRatio" 273 274 275 12 79 80 276 277
def eG:=t33 278 280 "NoRatio" 279 282 12 281 283 83
def eI:=t13 73
def eJ:=t14 73
def jP:=t31 "TooLess" 73 72 64 255 263
def jQ:=t32 262 266 10 265 267 71 268
def eK:=t18 69 66 "oddbases.errors" 187
def WI:=t19 "TooLess" 257 258 259 10 67 68 260 261
def WJ:=t33 262 264 "TooLess" 263 266 10 265 267 71
def WK:=t13 61
def eL:=t14 61
def jR:=t31 "NoWriting" 61 60 52 239 247
def jS:=t32 246 250 8 249 251 59 252
def eY:=t18 57 54 "oddbases.errors" 187
def df:=t19 "NoWriting" 241 242 243 8 55 56 244 245
def o99:=t33 246 248 "NoWriting" 247 250 8 249 251 59
def o93:=t13 49
def o92:=t14 49
def o91:=t31 "NoNumber" 49 48 40 223 231
def o90:=t32 230 234 6 233 235 47 236
def o88:=t18 45 42 "oddbases.errors" 187
def o87:=t19 "NoNumber" 225 226 227 6 43 44 228 229
def o84:=t33 230 232 "NoNumber" 231 234 6 233 235 47
def o78:=t13 37
def o77:=t14 37
def o76:=t31 "NoWay" 37 36 28 207 215
def o75:=t32 214 218 4 217 219 35 220
def o73:=t18 33 30 "oddbases.errors" 187
def o72:=t19 "NoWay" 209 210 211 4 31 32 212 213
def o69:=t33 214 216 "NoWay" 215 218 4 217 219 35
def o63:=t13 24
def o62:=t14 24
def o61:=t30 202 24
def jI(x:Params):Obj:=(@Obj.mk (.type "type") none (@Data.cls (@ClassData.mk (.ofString "OddError") [(.type "ValueError")] [(r_ 24),(.type "ValueError"),(.type "Exception"),(.type "BaseException"),(.type "object")] 23 (.ofString "OddError") @Bool.true [] [(r_ 37),(r_ 49),(r_ 61),(r_ 73),(r_ 85),(r_ 97),(r_ 109),(r_ 121),(r_ 133),(r_ 145),(r_ 157),(r_ 169)] @Bool.false (@Option.none @Bool) @Bool.false)) (@List.toArray (@Option @Value) [(some (r_ 15)),none,(some (p_ "OddError" 189)),(some (p_ "OddError" 197)),(some (.builtin "ValueError.__new__")),(some (.bool @Bool.true))]))
def o59(x:Params):Obj:=(@Obj.mk (.type "dict") none (@Data.dict (List.toArray [(e_ x "__module__" 196 (p_ "oddbases.errors" 187)),(e_ x "__firstlineno__" 200 (j_ 2 199)),(e_ x "__static_attributes__" 201 (r_ 22)),(e_ x "__weakref__" 203 (r_ 25)),(e_ x "__doc__" 204 .none)]) 3) #[])
def o57:=t18 20 17 "oddbases.errors" 187
def o56:=t19 "OddError" 191 192 193 2 18 19 194 195
def o53:=t33 196 198 "OddError" 197 200 2 199 201 22
def o51(x:Params):Obj:=(@Obj.mk (.type "tuple") none (@Data.seq (List.toArray [(.type "ValueError")]) 0) #[])
def o46:=t18 13 3 "__main__" 164
def o45:=t19 "<module>" 182 183 184 1 11 12 185 186
noncomputable def g3_:List (Nat×Nat):=(2,20)::(4,33)::(6,45)::(8,57)::(10,69)::(12,81)::(14,93)::(16,105)::(18,117)::(20,129)::(22,141)::(24,153)::(26,165)::(29,177)::(31,184)::(33,191)::(37,198)::(43,205)::(50,212)::(54,219)::(81,275)::(91,308)::(104,348)::(120,395)::(130,428)::(154,475)::(178,529)::(182,536)::(188,543)::(194,550)::(206,557)::(211,564)::(217,571)::(222,578)::(237,585)::(240,592)::(255,599)::(258,606)::(264,613)::(269,620)::(275,627)::(279,634)::(284,641)::(292,648)::(298,655)::(303,662)::(309,669)::(313,676)::(318,683)::(330,690)::(339,697)::(352,704)::(356,711)::(365,716)::(368,721)::(370,728)::(375,735)::(382,742)::(388,749)::(394,756)::(402,763)::(405,770)::(411,777)::(418,784)::(430,791)::(434,796)::(438,803)::(444,810)::(451,817)::(458,822)::(466,829)::(480,836)::(489,844)::(494,851)::(497,858)::(504,865)::(512,872)::(520,879)::(527,886)::(531,893)::(541,900)::(548,907)::(558,914)::(563,921)::(566,928)::(571,935)::(588,940)::(591,947)::[]
noncomputable def f3_(n:Nat):List Value:=(g3_.take n).flatMap fun p=>[j_ p.1 0,j_ 0 0,r_ p.2]
def V1(x:Params):Obj:=(@Obj.mk .none none (@Data.fields (List.toArray (f3_ 88))) #[])
noncomputable def d3_(x:Params)(n:Nat):List DictEntry:=(q_ x (U49::U28::U1::U45::U19::U26::U4::U32::U33::U50::U34::U29::U40::U41::U30::U35::U42::U43::U36::U44::U46::U31::U37::U38::U47::U27::U39::U51::U48::[])++(e_ x "Below" 616 (r_ 340))::(e_ x "Balanced" 673 (r_ 387))::(e_ x "Growing" 714 (r_ 420))::(e_ x "Falling" 777 (r_ 467))::(e_ x "Pairs" 846 (r_ 521))::(e_ x "thing_at" 856 (r_ 530))::(e_ x "trimmed" 864 (r_ 537))::(U13 x)::(e_ x "changes" 886 (r_ 551))::(e_ x "do_steps" 898 (r_ 558))::(e_ x "step_at" 907 (r_ 565))::(e_ x "how_often" 917 (r_ 572))::(U14 x)::(e_ x "fallen" 938 (r_ 586))::(U9 x)::(e_ x "settled" 961 (r_ 600))::q_ x (U15::U3::U2::[])++(e_ x "is_writing" 991 (r_ 621))::(U8 x)::(e_ x "worth" 1011 (r_ 635))::(U10 x)::(e_ x "written" 1030 (r_ 649))::(U22 x)::(e_ x "as_wanted" 1048 (r_ 663))::(e_ x "moved" 1057 (r_ 670))::(e_ x "parting" 1068 (r_ 677))::(e_ x "order" 1079 (r_ 684))::q_ x (U11::U7::U12::[])++(e_ x "shared" 1127 (r_ 712))::(e_ x "row_plus" 1135 (r_ 717))::(e_ x "row_times" 1141 (r_ 722))::(U20 x)::(e_ x "lend" 1159 (r_ 736))::q_ x (U18::U17::U16::[])++(e_ x "plus" 1203 (r_ 764))::(e_ x "minus" 1213 (r_ 771))::(e_ x "times" 1222 (r_ 778))::q_ x (U6::U23::U21::[])++(e_ x "row_shown" 1249 (r_ 797))::q_ x (U5::U25::U24::[])++(e_ x "row_read" 1280 (r_ 823))::(e_ x "way_made" 1288 (r_ 830))::(e_ x "way_read" 1297 (r_ 837))::(e_ x "COUNTS" 1324 (r_ 838))::(e_ x "words_of" 1332 (r_ 845))::(e_ x "share_said" 1342 (r_ 852))::(e_ x "order_said" 1352 (r_ 859))::(e_ x "reckoning_said" 1362 (r_ 866))::(e_ x "writing_said" 1371 (r_ 873))::(e_ x "said" 1380 (r_ 880))::(e_ x "_law_cell_at" 1390 (r_ 887))::(e_ x "_law_refusal" 1399 (r_ 894))::(e_ x "_law_no_row" 1407 (r_ 901))::(e_ x "_law_no_text" 1416 (r_ 908))::(e_ x "_law_no_number" 1425 (r_ 915))::(e_ x "_law_too_less" 1433 (r_ 922))::(e_ x "_law_of_pairs" 1442 (r_ 929))::(e_ x "_law_row" 1453 (r_ 936))::(e_ x "_law_due" 1459 (r_ 941))::(e_ x "law" 1471 (r_ 948))::[]).take n
def dz(x:Params):Obj:=(@Obj.mk (.type "dict") none (@Data.dict (List.toArray ((U0 x)::d3_ x 99)) 100) #[])
def Mh(x:Params):Obj:=(@Obj.mk .none none (@Data.fields (List.toArray (f3_ 80))) #[])
def Mi(x:Params):Obj:=(@Obj.mk (.type "dict") none (@Data.dict (List.toArray ((U0 x)::d3_ x 91)) 92) #[])
def Mj(x:Params):Obj:=(@Obj.mk .none none (@Data.fields (List.toArray (f3_ 72))) #[])
def Ml(x:Params):Obj:=(@Obj.mk (.type "dict") none (@Data.dict (List.toArray ((e_ x "__name__" 165 (p_ "oddbases.desk" 1298))::d3_ x 82)) 83) #[])
def Mn(x:Params):Obj:=(@Obj.mk .none none (@Data.fields (List.toArray (f3_ 21))) #[])
def Mm(x:Params):Obj:=(@Obj.mk (.type "type") none (@Data.cls (@ClassData.mk (.ofString "Way") [(.type "object")] [(r_ 265),(.type "object")] 264 (.ofString "Way") @Bool.true [] [(r_ 300)] @Bool.false (@Option.none @Bool) @Bool.false)) (@List.toArray (@Option @Value) [none,none,(some (p_ "Way" 453)),(some (p_ "Way" 461)),(some (.builtin "object.__new__")),(some (.bool @Bool.true))]))
def Mo(x:Params):Obj:=(@Obj.mk (.type "dict") none (@Data.dict (List.toArray [(e_ x "__name__" 165 (p_ "oddbases.ways" 442)),(U49 x),(U28 x),(U1 x),(U45 x),(U19 x),(U26 x),(U4 x),(U32 x),(U33 x),(U50 x),(U34 x),(U29 x),(U40 x),(U41 x),(U30 x),(U35 x),(U42 x),(U43 x),(U36 x),(U44 x),(U46 x),(U31 x),(U37 x),(U38 x),(U47 x),(U27 x),(U39 x),(U51 x),(U48 x)]) 30) #[])
abbrev wI:=N_ za (L_ za) Z_
abbrev sq:=N_ za (L_ zc) Z_
abbrev Q3:=N_ xC (L_ za) (L_ za)
abbrev Q4:=N_ za (L_ za) (L_ zc)
abbrev ka:=N_ za (L_ za) (L_ za)
abbrev Nk:=N_ zJ (N_ gR (L_ Yt) (L_ T_)) (N_ RG (L_ ZG) Z_)
abbrev Nl:=N_ zD (N_ xC (L_ Z1) (L_ TK)) (N_ zD (L_ Sh) Z_)
abbrev Nn:=N_ WA (N_ gT (L_ Yv) (L_ aJ)) (N_ xC (L_ za) Z_)
abbrev No:=N_ Wl (N_ gE (L_ Ye) (L_ au)) (N_ za (L_ Sw) Z_)
abbrev Np:=N_ Wy (N_ gQ (L_ S2) (L_ aH)) (N_ RF (L_ za) Z_)
abbrev Nq:=N_ fN (N_ XY (L_ S0) (L_ aF)) (N_ za (L_ ZC) Z_)
abbrev Nr:=N_ zJ (N_ XT (L_ Yj) (L_ ay)) (N_ Xd (L_ zc) Z_)
abbrev Nt:=N_ Wn (N_ gH (L_ SW) (L_ za)) (N_ Ry (L_ Zs) Z_)
abbrev Nu:=N_ zD (N_ YN (L_ Ys) (L_ aI)) (N_ za (L_ ZF) Z_)
abbrev Nv:=N_ fF (N_ R6 (L_ Yb) (L_ ao)) (N_ za (L_ Sv) Z_)
abbrev Nw:=N_ Wk (N_ gC (L_ za) (L_ aq)) (N_ Ru (L_ Zq) Z_)
abbrev Ny:=N_ fD (N_ XO (L_ Z8) (L_ TV)) (N_ za (L_ Sk) Z_)
abbrev Nz:=N_ za (N_ Oe (L_ Oa) (L_ T1)) (N_ Rp (L_ Sr) Z_)
abbrev NA:=N_ fk (N_ RN (L_ ZW) (L_ Tz)) (N_ YL (L_ zc) Z_)
abbrev NB:=N_ ft (N_ XE (L_ Z2) (L_ TL)) (N_ Rg (L_ zc) Z_)
abbrev NC:=N_ X_ (N_ zD (L_ Z0) (L_ za)) (N_ Rc (L_ Zd) Z_)
abbrev ND:=N_ fb (N_ RL (L_ ZQ) (L_ Tt)) (N_ YF (L_ zc) Z_)
abbrev NE:=N_ zc (N_ XI (L_ Z4) (L_ TN)) (N_ YS (L_ Si) Z_)
abbrev NF:=N_ fw (N_ XJ (L_ Z5) (L_ TQ)) (N_ za (L_ Zh) Z_)
abbrev NG:=N_ fh (N_ RM (L_ ZT) (L_ Tw)) (N_ YI (L_ zc) Z_)
abbrev NH:=N_ fu (N_ XH (L_ Z3) (L_ za)) (N_ YR (L_ Zg) Z_)
abbrev NI:=N_ za (N_ Od (L_ P9) (L_ TY)) (N_ Rm (L_ Sn) Z_)
abbrev NJ:=N_ X8 (N_ RQ (L_ ZZ) (L_ TF)) (N_ Ra (L_ zc) Z_)
abbrev NK:=N_ Wq (N_ gL (L_ SY) (L_ za)) (N_ za (L_ Zv) Z_)
abbrev NL:=N_ fG (N_ XQ (L_ Yc) (L_ ap)) sq
abbrev NM:=N_ Ww (N_ xC (L_ Yr) (L_ za)) (N_ zc (L_ SA) Z_)
abbrev NN:=N_ Wt (N_ zc (L_ za) (L_ T8)) (N_ Xh (L_ ZA) Z_)
abbrev NO:=N_ Wr (N_ gN (L_ za) (L_ zc)) (N_ Xf (L_ Zy) Z_)
abbrev Y99:=N_ fE (N_ za (L_ za) (L_ al)) (N_ Rr (L_ Zm) Z_)
abbrev Y98:=N_ Wv (N_ XX (L_ Yp) (L_ za)) (N_ Xj (L_ zc) Z_)
abbrev Y97:=N_ Wo (N_ gJ (L_ zc) (L_ T6)) (N_ Xb (L_ za) Z_)
abbrev Y96:=N_ fL (N_ za (L_ Yl) (L_ aA)) (N_ zc (L_ Sy) Z_)
abbrev Y95:=N_ za (N_ gB (L_ SV) (L_ za)) (N_ Rt (L_ Zp) Z_)
abbrev Y94:=N_ fI (N_ gG (L_ za) (L_ za)) (N_ zD (L_ Zr) Z_)
abbrev Y93:=N_ Wj (N_ zD (L_ zc) (L_ T4)) (N_ YZ (L_ za) Z_)
abbrev Y92:=N_ fK (N_ zc (L_ za) (L_ az)) (N_ Xe (L_ Zw) Z_)
abbrev Y91:=N_ Ws (N_ XU (L_ Ym) (L_ za)) (N_ Xg (L_ zc) Z_)
abbrev Y90:=N_ fH (N_ gF (L_ zc) (L_ T5)) (N_ Rv (L_ za) Z_)
abbrev Y89:=N_ fM (N_ za (L_ Yq) (L_ aE)) (N_ RC (L_ za) Z_)
abbrev Y88:=N_ zD (N_ gK (L_ za) (L_ za)) (N_ Xc (L_ Zu) Z_)
abbrev Y87:=N_ za (N_ R5 (L_ SU) (L_ za)) (N_ YY (L_ Zl) Z_)
abbrev Y86:=N_ Wu (N_ XW (L_ za) (L_ zc)) (N_ Xi (L_ ZB) Z_)
abbrev Y85:=N_ za (N_ za (L_ Yi) (L_ ax)) (N_ Xa (L_ Sx) Z_)
abbrev Y84:=N_ za (N_ gO (L_ SZ) (L_ aC)) (N_ za (L_ Zz) Z_)
abbrev Y83:=N_ za (N_ XS (L_ Yg) (L_ av)) (N_ xC (L_ zc) Z_)
abbrev Y82:=N_ Wz (N_ za (L_ Yu) (L_ za)) (N_ zD (L_ SB) Z_)
abbrev Y81:=N_ za (N_ zD (L_ za) (L_ T9)) (N_ Xk (L_ ZD) Z_)
abbrev Y80:=N_ fi (N_ zc (L_ ZU) (L_ za)) (N_ YJ (L_ aY) Z_)
abbrev Y79:=N_ fe (N_ Xz (L_ za) (L_ za)) (N_ YH (L_ aW) Z_)
abbrev Y78:=N_ za (N_ XG (L_ za) (L_ P2)) (N_ YQ (L_ Zf) Z_)
abbrev Y77:=N_ Wf (N_ R0 (L_ SQ) (L_ P5)) sq
abbrev Y76:=N_ X7 (N_ RP (L_ za) (L_ za)) (N_ S9 (L_ Zb) Z_)
abbrev Y75:=N_ Wb (N_ zc (L_ zc) (L_ TR)) (N_ YU (L_ Zi) Z_)
abbrev Y74:=N_ g8 (N_ zc (L_ ZO) (L_ za)) (N_ YD (L_ aR) Z_)
abbrev Y73:=N_ Wh (N_ R3 (L_ SS) (L_ za)) (N_ za (L_ P8) Z_)
abbrev Y72:=N_ za (N_ RW (L_ SL) (L_ zc)) (N_ YW (L_ Zj) Z_)
abbrev Y71:=N_ fc (N_ zc (L_ ZR) (L_ za)) (N_ YG (L_ aV) Z_)
abbrev Y70:=N_ Wi (N_ Of (L_ ST) (L_ P6)) sq
abbrev Y69:=N_ fq (N_ RU (L_ za) (L_ za)) (N_ Re (L_ Ze) Z_)
abbrev Y68:=N_ zc (N_ XN (L_ Z7) (L_ TU)) (N_ YV (L_ za) Z_)
abbrev Y67:=N_ g9 (N_ Xw (L_ za) (L_ za)) (N_ YE (L_ aS) Z_)
abbrev Y66:=N_ Wa (N_ XF (L_ zc) (L_ TM)) (N_ YO (L_ za) Z_)
abbrev Y65:=N_ fj (N_ XC (L_ za) (L_ za)) (N_ YK (L_ aZ) Z_)
abbrev Y64:=N_ Wc (N_ RX (L_ SM) (L_ P4)) sq
abbrev Y63:=N_ fm (N_ zc (L_ ZX) (L_ za)) (N_ YM (L_ Za) Z_)
abbrev Y62:=N_ We (N_ RZ (L_ SO) (L_ za)) (N_ za (L_ P7) Z_)
abbrev Y61:=N_ Wm (N_ za (L_ Yh) (L_ zc)) (N_ Rx (L_ za) Z_)
abbrev Y60:=N_ zc (N_ X0 (L_ za) (L_ zc)) (N_ RD (L_ ZE) Z_)
abbrev Y59:=N_ zc (N_ R4 (L_ Z9) (L_ zc)) (N_ YX (L_ za) Z_)
abbrev Y58:=N_ zJ (N_ XV (L_ zc) (L_ aD)) wI
abbrev Y57:=N_ zc (N_ zc (L_ za) (L_ aw)) (N_ Y_ (L_ Zt) Z_)
abbrev Y56:=N_ zc (N_ za (L_ Yn) (L_ aB)) (N_ RB (L_ za) Z_)
abbrev Y55:=N_ zc (N_ XR (L_ Yd) (L_ zc)) (N_ Rs (L_ za) Z_)
abbrev Y54:=N_ Wx (N_ XZ (L_ zc) (L_ aG)) wI
abbrev Y53:=N_ zD (N_ za (L_ Yo) (L_ za)) (N_ zc (L_ Sz) Z_)
abbrev Y52:=N_ za (N_ gP (L_ S1) (L_ za)) (N_ RE (L_ zc) Z_)
abbrev Y51:=N_ Wp (N_ za (L_ Yk) (L_ zc)) (N_ RA (L_ za) Z_)
abbrev Y50:=N_ R8 (N_ zc (L_ zc) (L_ TZ)) (N_ Rn (L_ za) Z_)
abbrev Y49:=N_ zc (N_ za (L_ ZY) (L_ TD)) (N_ zc (L_ Sg) Z_)
abbrev Y48:=N_ za (N_ Xx (L_ za) (L_ PY)) (N_ za (L_ aU) Z_)
abbrev Y47:=N_ za (N_ RT (L_ SJ) (L_ zc)) (N_ xC (L_ za) Z_)
abbrev Y46:=N_ X9 (N_ za (L_ zc) (L_ TH)) (N_ Rb (L_ za) Z_)
abbrev Y45:=N_ fA (N_ XM (L_ Z6) (L_ za)) sq
abbrev Y44:=N_ zc (N_ RY (L_ SN) (L_ za)) (N_ Rk (L_ za) Z_)
abbrev Y43:=N_ zc (N_ za (L_ ZS) (L_ Tv)) (N_ zc (L_ Se) Z_)
abbrev Y42:=N_ X5 (N_ za (L_ zc) (L_ Tx)) (N_ S7 (L_ za) Z_)
abbrev Y41:=N_ za (N_ XD (L_ za) (L_ P0)) (N_ za (L_ a_) Z_)
abbrev Y40:=N_ Wd Q4 (N_ Ob (L_ So) Z_)
abbrev Y39:=N_ zc (N_ za (L_ ZV) (L_ Ty)) (N_ zc (L_ Sf) Z_)
abbrev Y38:=N_ R7 (N_ zc (L_ zc) (L_ TW)) (N_ Rj (L_ za) Z_)
abbrev Y37:=N_ Wg Q4 (N_ Oc (L_ Ss) Z_)
abbrev Y36:=N_ za (N_ RS (L_ za) (L_ P1)) (N_ za (L_ Zc) Z_)
abbrev Y35:=N_ X6 (N_ za (L_ zc) (L_ TC)) (N_ S8 (L_ za) Z_)
abbrev Y34:=N_ zc (N_ R1 (L_ SR) (L_ za)) (N_ Ro (L_ za) Z_)
abbrev Y33:=N_ zc (N_ za (L_ ZP) (L_ Ts)) (N_ zc (L_ Sd) Z_)
abbrev Y32:=N_ R9 (N_ zc (L_ zc) (L_ T2)) (N_ Rq (L_ za) Z_)
abbrev Y31:=N_ za (N_ XA (L_ za) (L_ PZ)) (N_ za (L_ aX) Z_)
abbrev Y30:=N_ fB ka (N_ Ri (L_ Zk) Z_)
abbrev Y29:=N_ X4 (N_ za (L_ zc) (L_ Tu)) (N_ S6 (L_ za) Z_)
abbrev Y28:=N_ za (N_ RV (L_ SK) (L_ zc)) (N_ YT (L_ zc) Z_)
abbrev Y27:=N_ za (N_ gM (L_ zc) (L_ T7)) wI
abbrev Y26:=N_ za Q3 (N_ zc (L_ Zo) Z_)
abbrev Y25:=N_ fv ka (N_ Rh (L_ za) Z_)
abbrev Y24:=N_ za (N_ za (L_ za) (L_ T3)) (N_ zc (L_ Su) Z_)
abbrev Y23:=N_ za (N_ Xv (L_ SF) (L_ zc)) wI
abbrev Y22:=N_ za (N_ XB (L_ SH) (L_ zc)) wI
abbrev Y21:=N_ za (N_ za (L_ za) (L_ TX)) (N_ zc (L_ Sm) Z_)
abbrev Y20:=N_ za (N_ za (L_ za) (L_ T0)) (N_ zc (L_ Sq) Z_)
abbrev Y19:=N_ za (N_ RO (L_ SI) (L_ zc)) wI
abbrev Y18:=N_ za (N_ Xy (L_ SG) (L_ zc)) wI
abbrev Y17:=N_ za (N_ za (L_ za) (L_ P3)) (N_ zc (L_ Sj) Z_)
abbrev Y16:=N_ WJ (N_ WB (N_ gW (L_ Yx) (L_ aL)) (N_ Xm (L_ ZI) Z_)) Y44
abbrev Y15:=N_ zD (N_ WC (N_ zc (L_ zc) (L_ Sa)) (N_ Xn (L_ ZJ) Z_)) NI
abbrev Y14:=N_ WI (N_ fO (N_ gU (L_ Yw) (L_ zc)) (N_ RH (L_ ZH) Z_)) Y38
abbrev Y13:=N_ WK (N_ za (N_ gX (L_ Yy) (L_ aM)) (N_ Xp (L_ za) Z_)) Y62
abbrev Y12:=N_ WD Y50 (N_ gY (N_ RJ (L_ ZK) (L_ Tn)) (N_ Yz (L_ zc) Z_))
abbrev Y11:=N_ WF Nz (N_ zc (N_ za (L_ ZM) (L_ Tp)) (N_ zc (L_ Sb) Z_))
abbrev Y10:=N_ fR Y73 (N_ g0 (N_ Xs (L_ za) (L_ za)) (N_ YB (L_ aP) Z_))
abbrev Y9:=N_ zJ Y77 (N_ za (N_ Xq (L_ za) (L_ PV)) (N_ za (L_ aN) Z_))
abbrev Y8:=N_ WH Y70 (N_ za (N_ Xu (L_ za) (L_ PX)) (N_ za (L_ aQ) Z_))
abbrev Y7:=N_ WE Y34 (N_ gZ (N_ zc (L_ ZL) (L_ za)) (N_ YA (L_ aO) Z_))
abbrev Y6:=N_ za Y32 (N_ g7 (N_ RK (L_ ZN) (L_ Tq)) (N_ YC (L_ zc) Z_))
abbrev Y5:=N_ zc (N_ fP (N_ X1 (L_ S3) (L_ za)) (N_ RI (L_ zc) Z_)) Y21
abbrev Y4:=N_ zJ (N_ zc ka (N_ Xo (L_ SD) Z_)) Y40
abbrev Y3:=N_ za (N_ za (N_ za (L_ za) (L_ aK)) (N_ Xl (L_ za) Z_)) Y64
abbrev Y2:=N_ WG Y24 (N_ X3 (N_ za (L_ zc) (L_ Tr)) (N_ S5 (L_ za) Z_))
abbrev Y1:=N_ zD Y20 (N_ X2 (N_ za (L_ zc) (L_ To)) (N_ S4 (L_ za) Z_))
abbrev Y0:=N_ fQ Y37 (N_ za (N_ Xr (L_ SE) (L_ zc)) wI)
section
local macro_rules | `($n:num) => `(nat_lit $n)
noncomputable def myAs:List Nat:=(2::3::15::22::23::24::25::28::35::36::37::40::47::48::49::52::59::60::61::64::71::72::73::76::83::84::85::88::95::96::97::100::107::108::109::112::119::120::121::124::131::132::133::136::143::144::145::148::155::156::157::160::167::168::169::172::174::175::177::178::179::181::182::184::185::186::188::189::191::192::193::195::196::198::199::200::202::203::205::206::207::209::210::212::213::221::223::224::226::227::228::230::231::233::234::235::237::238::240::241::242::244::245::247::248::249::251::252::254::255::256::258::259::261::262::263::264::265::266::267::270::277::279::280::282::283::284::286::287::289::290::291::293::294::296::297::298::299::300::303::310::312::313::315::316::317::319::320::322::323::324::326::327::329::330::331::333::334::336::337::338::339::340::343::350::352::353::355::356::357::359::360::362::363::364::366::367::369::370::371::373::374::376::377::378::380::381::383::384::385::386::387::390::397::399::400::402::403::404::406::407::409::410::411::413::414::416::417::418::419::420::423::430::432::433::435::436::437::439::440::442::443::444::446::447::449::450::451::453::454::456::457::458::460::461::463::464::465::466::467::470::477::479::480::482::483::484::486::487::489::490::491::493::494::496::497::498::500::501::503::504::505::507::508::510::511::512::514::515::517::518::519::520::521::524::526::527::529::530::531::533::534::536::537::538::540::541::543::544::545::547::548::550::551::552::554::555::557::558::559::561::562::564::565::566::568::569::571::572::573::575::576::578::579::580::582::583::585::586::587::589::590::592::593::594::596::597::599::600::601::603::604::606::607::608::610::611::613::614::615::617::618::620::621::622::624::625::627::628::629::631::632::634::635::636::638::639::641::642::643::645::646::648::649::650::652::653::655::656::657::659::660::662::663::664::666::667::669::670::671::673::674::676::677::678::680::681::683::684::685::687::688::690::691::692::694::695::697::698::699::701::702::704::705::706::708::709::711::712::713::716::717::718::721::722::723::725::726::728::729::730::732::733::735::736::737::739::740::742::743::744::746::747::749::750::751::753::754::756::757::758::760::761::763::764::765::767::768::770::771::772::774::775::777::778::779::781::782::784::785::786::788::789::791::792::793::796::797::798::800::801::803::804::805::807::808::810::811::812::814::815::817::818::819::822::823::824::826::827::829::830::831::833::834::836::837::838::839::841::842::844::845::846::848::849::851::852::853::855::856::858::859::860::862::863::865::866::867::869::870::872::873::874::876::877::879::880::881::883::884::886::887::888::890::891::893::894::895::897::898::900::901::902::904::905::907::908::909::911::912::914::915::916::918::919::921::922::923::925::926::928::929::930::932::933::935::936::937::940::941::942::944::945::947::948::[])
noncomputable def h_heap_39:PySem.Params→PySem.W.Frag:=fun x=>
(2,(@W.boot_o_2 x))::(3,(dz x))::(15,(o51 x))::(22,(za x))::(23,(o59 x))::(24,(jI x))::(25,(o61 x))::(28,(zJ x))::(35,(za x))::(36,(o75 x))::(37,(o76 x))::(40,(zJ x))::(47,(za x))::(48,(o90 x))::(49,(o91 x))::(52,(zJ x))::(59,(za x))::(60,(jS x))::(61,(jR x))::(64,(zJ x))::(71,(za x))::(72,(jQ x))::(73,(jP x))::(76,(zJ x))::(83,(za x))::(84,(jO x))::(85,(jN x))::(88,(zJ x))::(95,(za x))::(96,(jM x))::(97,(jL x))::(100,(zJ x))::(107,(za x))::(108,(jK x))::(109,(jJ x))::(112,(zJ x))::(119,(za x))::(120,(fR x))::(121,(fQ x))::(124,(zJ x))::(131,(za x))::(132,(fP x))::(133,(fO x))::(136,(zJ x))::(143,(za x))::(144,(fN x))::(145,(fM x))::(148,(zJ x))::(155,(za x))::(156,(fL x))::(157,(fK x))::(160,(zJ x))::(167,(za x))::(168,(fI x))::(169,(fH x))::(172,(za x))::(174,(fG x))::(175,(za x))::(177,(fF x))::(178,(fE x))::(179,(za x))::(181,(Wi x))::(182,(za x))::(184,(Wh x))::(185,(Wg x))::(186,(za x))::(188,(Wf x))::(189,(za x))::(191,(We x))::(192,(Wd x))::(193,(za x))::(195,(Wc x))::(196,(za x))::(198,(fD x))::(199,(fB x))::(200,(za x))::(202,(fA x))::(203,(za x))::(205,(fw x))::(206,(fv x))::(207,(za x))::(209,(fu x))::(210,(za x))::(212,(ft x))::(213,(fq x))::(221,(za x))::(223,(fm x))::(224,(za x))::(226,(fk x))::(227,(fj x))::(228,(za x))::(230,(fi x))::(231,(za x))::(233,(fh x))::(234,(fe x))::(235,(za x))::(237,(fc x))::(238,(za x))::(240,(fb x))::(241,(g9 x))::(242,(za x))::(244,(g8 x))::(245,(za x))::(247,(g7 x))::(248,(g0 x))::(249,(za x))::(251,(gZ x))::(252,(za x))::(254,(gY x))::(255,(gX x))::(256,(za x))::(258,(gW x))::(259,(za x))::(261,(gU x))::(262,(gT x))::(263,(za x))::(264,(gR x))::(265,(YN x))::(266,(gQ x))::(267,(gP x))::(270,(xC x))::(277,(za x))::(279,(gO x))::(280,(za x))::(282,(gN x))::(283,(gM x))::(284,(za x))::(286,(gL x))::(287,(za x))::(289,(gK x))::(290,(gJ x))::(291,(za x))::(293,(gH x))::(294,(za x))::(296,(gG x))::(297,(gF x))::(298,(gE x))::(299,(gC x))::(300,(gB x))::(303,(xC x))::(310,(za x))::(312,(R3 x))::(313,(za x))::(315,(R1 x))::(316,(R0 x))::(317,(za x))::(319,(RZ x))::(320,(za x))::(322,(RY x))::(323,(RX x))::(324,(za x))::(326,(XO x))::(327,(za x))::(329,(XN x))::(330,(XM x))::(331,(za x))::(333,(XJ x))::(334,(za x))::(336,(XI x))::(337,(XH x))::(338,(XG x))::(339,(XF x))::(340,(XE x))::(343,(xC x))::(350,(za x))::(352,(XD x))::(353,(za x))::(355,(XC x))::(356,(XB x))::(357,(za x))::(359,(XA x))::(360,(za x))::(362,(Xz x))::(363,(Xy x))::(364,(za x))::(366,(Xx x))::(367,(za x))::(369,(Xw x))::(370,(Xv x))::(371,(za x))::(373,(Xu x))::(374,(za x))::(376,(Xs x))::(377,(Xr x))::(378,(za x))::(380,(Xq x))::(381,(za x))::(383,(Xp x))::(384,(Xo x))::(385,(Xn x))::(386,(Xm x))::(387,(Xl x))::(390,(xC x))::(397,(za x))::(399,(Xk x))::(400,(za x))::(402,(Xj x))::(403,(Xi x))::(404,(za x))::(406,(Xh x))::(407,(za x))::(409,(Xg x))::(410,(Xf x))::(411,(za x))::(413,(Xe x))::(414,(za x))::(416,(Xd x))::(417,(Xc x))::(418,(Xb x))::(419,(Xa x))::(420,(Y_ x))::(423,(xC x))::(430,(za x))::(432,(YZ x))::(433,(za x))::(435,(YY x))::(436,(YX x))::(437,(za x))::(439,(Rq x))::(440,(za x))::(442,(Rp x))::(443,(Ro x))::(444,(za x))::(446,(Rn x))::(447,(za x))::(449,(Rm x))::(450,(Rk x))::(451,(za x))::(453,(Rj x))::(454,(za x))::(456,(YW x))::(457,(YV x))::(458,(za x))::(460,(YU x))::(461,(za x))::(463,(YT x))::(464,(YS x))::(465,(YR x))::(466,(YQ x))::(467,(YO x))::(470,(xC x))::(477,(za x))::(479,(YM x))::(480,(za x))::(482,(YL x))::(483,(YK x))::(484,(za x))::(486,(YJ x))::(487,(za x))::(489,(YI x))::(490,(YH x))::(491,(za x))::(493,(YG x))::(494,(za x))::(496,(YF x))::(497,(YE x))::(498,(za x))::(500,(YD x))::(501,(za x))::(503,(YC x))::(504,(YB x))::(505,(za x))::(507,(YA x))::(508,(za x))::(510,(Yz x))::(511,(Yy x))::(512,(za x))::(514,(Yx x))::(515,(za x))::(517,(Yw x))::(518,(Yv x))::(519,(Yu x))::(520,(Yt x))::(521,(Ys x))::(524,(za x))::(526,(Yr x))::(527,(za x))::(529,(Yq x))::(530,(Yp x))::(531,(za x))::(533,(Yo x))::(534,(za x))::(536,(Yn x))::(537,(Ym x))::(538,(za x))::(540,(Yl x))::(541,(za x))::(543,(Yk x))::(544,(Yj x))::(545,(za x))::(547,(Yi x))::(548,(za x))::(550,(Yh x))::(551,(Yg x))::(552,(za x))::(554,(Ye x))::(555,(za x))::(557,(Yd x))::(558,(Yc x))::(559,(za x))::(561,(Yb x))::(562,(za x))::(564,(Z9 x))::(565,(ST x))::(566,(za x))::(568,(SS x))::(569,(za x))::(571,(SR x))::(572,(SQ x))::(573,(za x))::(575,(SO x))::(576,(za x))::(578,(SN x))::(579,(SM x))::(580,(za x))::(582,(Z8 x))::(583,(za x))::(585,(Z7 x))::(586,(Z6 x))::(587,(za x))::(589,(Z5 x))::(590,(za x))::(592,(Z4 x))::(593,(Z3 x))::(594,(za x))::(596,(Z2 x))::(597,(za x))::(599,(Z1 x))::(600,(Z0 x))::(601,(za x))::(603,(ZZ x))::(604,(za x))::(606,(ZY x))::(607,(ZX x))::(608,(za x))::(610,(ZW x))::(611,(za x))::(613,(ZV x))::(614,(ZU x))::(615,(za x))::(617,(ZT x))::(618,(za x))::(620,(ZS x))::(621,(ZR x))::(622,(za x))::(624,(ZQ x))::(625,(za x))::(627,(ZP x))::(628,(ZO x))::(629,(za x))::(631,(ZN x))::(632,(za x))::(634,(ZM x))::(635,(ZL x))::(636,(za x))::(638,(ZK x))::(639,(za x))::(641,(ZJ x))::(642,(ZI x))::(643,(za x))::(645,(ZH x))::(646,(za x))::(648,(ZG x))::(649,(ZF x))::(650,(za x))::(652,(ZE x))::(653,(za x))::(655,(ZD x))::(656,(ZC x))::(657,(za x))::(659,(ZB x))::(660,(za x))::(662,(ZA x))::(663,(Zz x))::(664,(za x))::(666,(Zy x))::(667,(za x))::(669,(Zw x))::(670,(Zv x))::(671,(za x))::(673,(Zu x))::(674,(za x))::(676,(Zt x))::(677,(Zs x))::(678,(za x))::(680,(Zr x))::(681,(za x))::(683,(Zq x))::(684,(Zp x))::(685,(za x))::(687,(Zo x))::(688,(za x))::(690,(Zm x))::(691,(Zl x))::(692,(za x))::(694,(Su x))::(695,(za x))::(697,(Ss x))::(698,(Sr x))::(699,(za x))::(701,(Sq x))::(702,(za x))::(704,(So x))::(705,(Sn x))::(706,(za x))::(708,(Sm x))::(709,(za x))::(711,(Zk x))::(712,(Zj x))::(713,(za x))::(716,(Zi x))::(717,(Zh x))::(718,(za x))::(721,(Zg x))::(722,(Zf x))::(723,(za x))::(725,(Ze x))::(726,(za x))::(728,(Zd x))::(729,(Zc x))::(730,(za x))::(732,(Zb x))::(733,(za x))::(735,(Za x))::(736,(a_ x))::(737,(za x))::(739,(aZ x))::(740,(za x))::(742,(aY x))::(743,(aX x))::(744,(za x))::(746,(aW x))::(747,(za x))::(749,(aV x))::(750,(aU x))::(751,(za x))::(753,(aS x))::(754,(za x))::(756,(aR x))::(757,(aQ x))::(758,(za x))::(760,(aP x))::(761,(za x))::(763,(aO x))::(764,(aN x))::(765,(za x))::(767,(aM x))::(768,(za x))::(770,(aL x))::(771,(aK x))::(772,(za x))::(774,(aJ x))::(775,(za x))::(777,(aI x))::(778,(aH x))::(779,(za x))::(781,(aG x))::(782,(za x))::(784,(aF x))::(785,(aE x))::(786,(za x))::(788,(aD x))::(789,(za x))::(791,(aC x))::(792,(aB x))::(793,(za x))::(796,(aA x))::(797,(az x))::(798,(za x))::(800,(ay x))::(801,(za x))::(803,(ax x))::(804,(aw x))::(805,(za x))::(807,(av x))::(808,(za x))::(810,(au x))::(811,(aq x))::(812,(za x))::(814,(ap x))::(815,(za x))::(817,(ao x))::(818,(al x))::(819,(za x))::(822,(T3 x))::(823,(T2 x))::(824,(za x))::(826,(T1 x))::(827,(za x))::(829,(T0 x))::(830,(TZ x))::(831,(za x))::(833,(TY x))::(834,(za x))::(836,(TX x))::(837,(TW x))::(838,(TV x))::(839,(za x))::(841,(TU x))::(842,(za x))::(844,(TR x))::(845,(TQ x))::(846,(za x))::(848,(TN x))::(849,(za x))::(851,(TM x))::(852,(TL x))::(853,(za x))::(855,(TK x))::(856,(za x))::(858,(TH x))::(859,(TF x))::(860,(za x))::(862,(TD x))::(863,(za x))::(865,(TC x))::(866,(Tz x))::(867,(za x))::(869,(Ty x))::(870,(za x))::(872,(Tx x))::(873,(Tw x))::(874,(za x))::(876,(Tv x))::(877,(za x))::(879,(Tu x))::(880,(Tt x))::(881,(za x))::(883,(Ts x))::(884,(za x))::(886,(Tr x))::(887,(Tq x))::(888,(za x))::(890,(Tp x))::(891,(za x))::(893,(To x))::(894,(Tn x))::(895,(za x))::(897,(dw x))::(898,(za x))::(900,(du x))::(901,(dr x))::(902,(za x))::(904,(dq x))::(905,(za x))::(907,(dm x))::(908,(dk x))::(909,(za x))::(911,(dj x))::(912,(za x))::(914,(db x))::(915,(e9 x))::(916,(za x))::(918,(e8 x))::(919,(za x))::(921,(eZ x))::(922,(eX x))::(923,(za x))::(925,(eW x))::(926,(za x))::(928,(eV x))::(929,(eU x))::(930,(za x))::(932,(eT x))::(933,(za x))::(935,(eS x))::(936,(eR x))::(937,(za x))::(940,(eQ x))::(941,(eP x))::(942,(za x))::(944,(eO x))::(945,(za x))::(947,(eN x))::(948,(eM x))::[]
end
def h_view_39:PySem.Program:={ PySem.Challenge.pw_oddbases_k60_rows_refused with main:={ PySem.Challenge.pw_oddbases_k60_rows_refused.main with body:=[My.top 1,My.top 2,My.top 3,My.top 4,My.top 5,My.top 6,My.top 7,My.top 8,My.top 9,My.top 10,My.top 11,My.top 12,My.top 13,My.top 15,My.top 16,My.top 17,My.top 18,My.top 19,My.top 21,My.top 22,My.top 23,My.top 24,My.top 25,My.top 26,My.top 27,My.top 28,My.top 30,My.top 31,My.top 33,My.top 34,My.top 35,My.top 36,My.top 37,My.top 38,My.top 39,My.top 41,My.top 42,My.top 45,My.top 46,My.top 47,My.top 48,My.top 49,My.top 50,My.top 51,My.top 52,My.top 54,My.top 55,My.top 57,My.top 58,My.top 60,My.top 61,My.top 62,My.top 63,My.top 65,My.top 66,My.top 67,My.top 68,My.top 69,My.top 70,My.top 71,My.top 72,My.top 73,My.top 74,My.top 76,My.top 77,My.top 78,My.top 79,My.top 80,My.top 81,My.top 82,My.top 83,My.top 84,My.top 85,My.top 86,My.top 88,My.top 89,My.top 90,My.top 91,My.top 92,My.top 93,My.top 94,My.top 96,My.top 97,My.top 98,My.top 99,My.top 100,My.top 101,My.top 102,My.top 103,My.top 104,My.top 105] } }
def yZ:((x:@Params)→@Heap):=(fun x=>(@Heap.mk (@Array.mk @Obj (q_ x (W.boot_o_0::W.boot_o_1::W.boot_o_2::dz::W.boot_o_4::W.boot_o_5::W.boot_o_6::W.boot_o_7::W.boot_o_8::W.boot_o_9::W.boot_o_10::za::V1::o45::o46::o51::zD::o53::za::zc::o56::o57::za::o59::jI::o61::o62::o63::zJ::zD::o69::za::zc::o72::o73::za::o75::o76::o77::o78::zJ::zD::o84::za::zc::o87::o88::za::o90::o91::o92::o93::zJ::zD::o99::za::zc::df::eY::za::jS::jR::eL::WK::zJ::zD::WJ::za::zc::WI::eK::za::jQ::jP::eJ::eI::zJ::zD::eG::za::zc::eF::eE::za::jO::jN::eD::eB::zJ::zD::eA::za::zc::eh::eg::za::jM::jL::f_::fZ::zJ::zD::fY::za::zc::fX::fW::za::jK::jJ::fV::fU::zJ::zD::fS::za::zc::WH::WG::za::fR::fQ::WF::WE::zJ::zD::WD::za::zc::WC::WB::za::fP::fO::WA::Wz::zJ::zD::Wy::za::zc::Wx::Ww::za::fN::fM::Wv::Wu::zJ::zD::Wt::za::zc::Ws::Wr::za::fL::fK::Wq::Wp::zJ::zD::Wo::za::zc::Wn::Wm::za::fI::fH::Wl::Wk::za::zc::fG::za::Wj::fF::fE::za::zc::Wi::za::R9::Wh::Wg::za::zc::Wf::za::R8::We::Wd::za::zc::Wc::za::R7::fD::fB::za::zc::fA::za::Wb::fw::fv::za::zc::fu::za::Wa::ft::fq::za::zD::X_::za::X9::X8::X7::za::zc::fm::za::X6::fk::fj::za::zc::fi::za::X5::fh::fe::za::zc::fc::za::X4::fb::g9::za::zc::g8::za::X3::g7::g0::za::zc::gZ::za::X2::gY::gX::za::zc::gW::za::X1::gU::gT::za::gR::YN::gQ::gP::X0::XZ::xC::zD::XY::za::XX::XW::XV::za::zc::gO::za::XU::gN::gM::za::zc::gL::za::XT::gK::gJ::za::zc::gH::za::XS::gG::gF::gE::gC::gB::XR::XQ::xC::zD::R6::za::R5::R4::Of::za::zc::R3::za::Oe::R1::R0::za::zc::RZ::za::Od::RY::RX::za::zc::XO::za::RW::XN::XM::za::zc::XJ::za::RV::XI::XH::XG::XF::XE::RU::RT::xC::zD::RS::za::RQ::RP::RO::za::zc::XD::za::RN::XC::XB::za::zc::XA::za::RM::Xz::Xy::za::zc::Xx::za::RL::Xw::Xv::za::zc::Xu::za::RK::Xs::Xr::za::zc::Xq::za::RJ::Xp::Xo::Xn::Xm::Xl::RI::RH::xC::zD::RG::za::RF::RE::RD::za::zc::Xk::za::RC::Xj::Xi::za::zc::Xh::za::RB::Xg::Xf::za::zc::Xe::za::RA::Xd::Xc::Xb::Xa::Y_::Ry::Rx::xC::zD::Rv::za::Ru::Rt::Rs::za::zc::YZ::za::Rr::YY::YX::za::zc::Rq::za::Oc::Rp::Ro::za::zc::Rn::za::Ob::Rm::Rk::za::zc::Rj::za::Ri::YW::YV::za::zc::YU::za::Rh::YT::YS::YR::YQ::YO::Rg::Re::xC::zD::Rc::za::Rb::Ra::S9::za::zc::YM::za::S8::YL::YK::za::zc::YJ::za::S7::YI::YH::za::zc::YG::za::S6::YF::YE::za::zc::YD::za::S5::YC::YB::za::zc::YA::za::S4::Yz::Yy::za::zc::Yx::za::S3::Yw::Yv::Yu::Yt::Ys::S2::S1::za::zc::Yr::za::S0::Yq::Yp::za::zc::Yo::za::SZ::Yn::Ym::za::zc::Yl::za::SY::Yk::Yj::za::zc::Yi::za::SW::Yh::Yg::za::zc::Ye::za::SV::Yd::Yc::za::zc::Yb::za::SU::Z9::ST::za::zc::SS::za::Oa::SR::SQ::za::zc::SO::za::P9::SN::SM::za::zc::Z8::za::SL::Z7::Z6::za::zc::Z5::za::SK::Z4::Z3::za::zc::Z2::za::SJ::Z1::Z0::za::zc::ZZ::za::SI::ZY::ZX::za::zc::ZW::za::SH::ZV::ZU::za::zc::ZT::za::SG::ZS::ZR::za::zc::ZQ::za::SF::ZP::ZO::za::zc::ZN::za::SE::ZM::ZL::za::zc::ZK::za::SD::ZJ::ZI::za::zc::ZH::za::SB::ZG::ZF::za::zc::ZE::za::SA::ZD::ZC::za::zc::ZB::za::Sz::ZA::Zz::za::zc::Zy::za::Sy::Zw::Zv::za::zc::Zu::za::Sx::Zt::Zs::za::zc::Zr::za::Sw::Zq::Zp::za::zc::Zo::za::Sv::Zm::Zl::za::zc::Su::za::P8::Ss::Sr::za::zc::Sq::za::P7::So::Sn::za::zc::Sm::za::Sk::Zk::Zj::za::zc::Sj::Zi::Zh::za::zc::Si::Zg::Zf::za::zc::Ze::za::Sh::Zd::Zc::za::zc::Zb::za::Sg::Za::a_::za::zc::aZ::za::Sf::aY::aX::za::zc::aW::za::Se::aV::aU::za::zc::aS::za::Sd::aR::aQ::za::zc::aP::za::Sb::aO::aN::za::zc::aM::za::Sa::aL::aK::za::zc::aJ::za::T_::aI::aH::za::zc::aG::za::T9::aF::aE::za::zc::aD::za::T8::aC::aB::za::zc::T7::aA::az::za::zc::ay::za::T6::ax::aw::za::zc::av::za::T5::au::aq::za::zc::ap::za::T4::ao::al::za::zc::P6::T3::T2::za::zc::T1::za::P5::T0::TZ::za::zc::TY::za::P4::TX::TW::TV::za::zc::TU::za::P3::TR::TQ::za::zc::TN::za::P2::TM::TL::za::zc::TK::za::P1::TH::TF::za::zc::TD::za::P0::TC::Tz::za::zc::Ty::za::PZ::Tx::Tw::za::zc::Tv::za::PY::Tu::Tt::za::zc::Ts::za::PX::Tr::Tq::za::zc::Tp::za::PV::To::Tn::za::zc::dw::za::V0::du::dr::za::zc::dq::za::VZ::dm::dk::za::zc::dj::za::VY::db::e9::za::zc::e8::za::VX::eZ::eX::za::zc::eW::za::VW::eV::eU::za::zc::eT::za::VV::eS::eR::za::zc::VU::eQ::eP::za::zc::eO::za::VT::eN::eM::[]))) (@Life.mk [] [] [] 0 (@List.nil (@Prod @Nat @Nat)) [] @Bool.false #[] [] 0 @Bool.false @Bool.false @Bool.false (0:Int) [(2000:Int),(10:Int),(10:Int)] @Bool.false 0 @Bool.true [] [] 0 @Bool.false)))
def yo:@Env:=(@Env.mk (@Module.scope (@Program.main ((@W.OpenRow.toRowW (@W.OpenLaw.row @Challenge.rw_oddbases_k60_rows_refused))).1)) @mainNs @mainNs (@List.nil (@Prod @Str @Addr)) @Str.empty (@Option.none @Addr) (r_ 13) (@some @Addr (@OfNat.ofNat @Addr 14 (@instOfNatNat 14))) (@OfNat.ofNat @Addr 0 (@instOfNatNat 0)))
def n0:=N_ W.boot_o_0 (N_ W.boot_o_1 (N_ dz (N_ W.boot_o_7 (N_ o51 (N_ za (N_ WK (N_ za (N_ gX (L_ Yy) (L_ aM)) (N_ Xp (L_ za) (L_ za))) Y62) (N_ za (N_ Wp (N_ za (L_ Yk) (L_ zc)) (N_ RA (L_ za) (L_ VW))) Y63)) (N_ za (N_ za (N_ za (N_ zD (L_ za) (L_ T9)) (N_ Xk (L_ ZD) (L_ dj))) Y28) (N_ fU (N_ za Q3 (N_ zc (L_ Zo) (L_ zc))) Y29))) (N_ o59 (N_ o78 (N_ za (N_ Wz (N_ za (L_ Yu) (L_ za)) (N_ zD (L_ SB) (L_ zc))) Y30) (N_ za (N_ za (N_ XS (L_ Yg) (L_ av)) (N_ xC (L_ zc) (L_ eS))) Y31)) (N_ za (N_ eB (N_ za (N_ gO (L_ SZ) (L_ aC)) (N_ za (L_ Zz) (L_ za))) Nl) Y6))) (N_ za (N_ zc (N_ za (N_ za (N_ za (N_ za (L_ za) (L_ aK)) (N_ Xl (L_ za) (L_ V0))) Y64) (N_ fZ (N_ za (N_ za (L_ Yi) (L_ ax)) (N_ Xa (L_ Sx) (L_ zc))) Y65)) (N_ o93 (N_ za (N_ Wu (N_ XW (L_ za) (L_ zc)) (N_ Xi (L_ ZB) (L_ e9))) Y66) (N_ za (N_ za (N_ R5 (L_ SU) (L_ za)) (N_ YY (L_ Zl) (L_ eN))) Y33))) (N_ o63 (N_ za (N_ eI (N_ za (N_ gP (L_ S1) (L_ za)) (N_ RE (L_ zc) (L_ dm))) Y17) (N_ za (N_ Wk (N_ gC (L_ za) (L_ aq)) (N_ Ru (L_ Zq) (L_ VU))) Y18)) (N_ za (N_ za (N_ za (N_ gM (L_ zc) (L_ T7)) ka) NJ) Y7)))) (N_ W.boot_o_5 (N_ W.boot_o_9 (N_ o53 (N_ o72 (N_ zD (N_ WC (N_ zc (L_ zc) (L_ Sa)) (N_ Xn (L_ ZJ) (L_ dw))) NI) (N_ jL (N_ zD (N_ gK (L_ za) (L_ za)) (N_ Xc (L_ Zu) (L_ eU))) Y35)) (N_ o91 (N_ eF (N_ fM (N_ za (L_ Yq) (L_ aE)) (N_ RC (L_ za) (L_ VY))) NH) (N_ zD (N_ fF (N_ R6 (L_ Yb) (L_ ao)) (N_ za (L_ Sv) (L_ za))) Y67))) (N_ o61 (N_ zD (N_ jP (N_ zD (N_ YN (L_ Ys) (L_ aI)) (N_ za (L_ ZF) (L_ za))) Y68) (N_ fX (N_ fH (N_ gF (L_ zc) (L_ T5)) (N_ Rv (L_ za) (L_ za))) NG)) (N_ df (N_ zD (N_ Ws (N_ XU (L_ Ym) (L_ za)) (N_ Xg (L_ zc) (L_ eZ))) Y36) Y0))) (N_ o45 (N_ o57 (N_ o76 (N_ WI (N_ fO (N_ gU (L_ Yw) (L_ zc)) (N_ RH (L_ ZH) (L_ dr))) Y38) (N_ zD (N_ Wn (N_ gH (L_ SW) (L_ za)) (N_ Ry (L_ Zs) (L_ za))) Y39)) (N_ zD (N_ jN (N_ zD (N_ za (L_ Yo) (L_ za)) (N_ zc (L_ Sz) (L_ zc))) Y69) Y8)) (N_ zD (N_ o87 (N_ zD (N_ Wx (N_ XZ (L_ zc) (L_ aG)) ka) NF) (N_ jJ (N_ zc (N_ XR (L_ Yd) (L_ zc)) (N_ Rs (L_ za) (L_ eP))) Y71)) (N_ jR (N_ eh (N_ fK (N_ zc (L_ za) (L_ az)) (N_ Xe (L_ Zw) (L_ eW))) Y19) Y1))))) (N_ W.boot_o_2 (N_ W.boot_o_4 (N_ W.boot_o_8 (N_ zD (N_ zc (N_ zJ (N_ zc ka (N_ Xo (L_ SD) (L_ zc))) Y40) (N_ jM (N_ zJ (N_ XT (L_ Yj) (L_ ay)) (N_ Xd (L_ zc) (L_ eV))) Y41)) (N_ o90 (N_ zc (N_ fN (N_ XY (L_ S0) (L_ aF)) (N_ za (L_ ZC) (L_ za))) NE) (N_ zJ (N_ Wj (N_ zD (L_ zc) (L_ T4)) (N_ YZ (L_ za) (L_ eO))) ND))) (N_ jI (N_ zJ (N_ jQ (N_ zJ (N_ gR (L_ Yt) (L_ T_)) (N_ RG (L_ ZG) (L_ dq))) Y72) (N_ zc (N_ fI (N_ gG (L_ za) (L_ za)) (N_ zD (L_ Zr) (L_ eR))) Y42)) (N_ zc (N_ zJ (N_ zc (N_ za (L_ Yn) (L_ aB)) (N_ RB (L_ za) (L_ VX))) NC) Y10))) (N_ V1 (N_ o56 (N_ o75 (N_ zc (N_ fP (N_ X1 (L_ S3) (L_ za)) (N_ RI (L_ zc) (L_ du))) Y21) (N_ zJ (N_ zc (N_ zc (L_ za) (L_ aw)) (N_ Y_ (L_ Zt) (L_ eT))) Y22)) (N_ zJ (N_ jO (N_ zJ (N_ XV (L_ zc) (L_ aD)) ka) NB) (N_ zc (N_ zc (N_ R4 (L_ Z9) (L_ zc)) (N_ YX (L_ za) (L_ eM))) Y74))) (N_ zJ (N_ zc (N_ zJ (N_ zc (N_ X0 (L_ za) (L_ zc)) (N_ RD (L_ ZE) (L_ dk))) Y75) (N_ jK (N_ za (N_ gB (L_ SV) (L_ za)) (N_ Rt (L_ Zp) (L_ eQ))) Y43)) (N_ jS (N_ zc (N_ fL (N_ za (L_ Yl) (L_ aA)) (N_ zc (L_ Sy) (L_ zc))) Y76) Y9)))) (N_ W.boot_o_6 (N_ W.boot_o_10 (N_ za (N_ o73 (N_ WJ (N_ WB (N_ gW (L_ Yx) (L_ aL)) (N_ Xm (L_ ZI) (L_ za))) Y44) (N_ f_ (N_ Wo (N_ gJ (L_ zc) (L_ T6)) (N_ Xb (L_ za) (L_ za))) NA)) (N_ o92 (N_ eE (N_ Wv (N_ XX (L_ Yp) (L_ za)) (N_ Xj (L_ zc) (L_ db))) Y78) (N_ fS (N_ fE (N_ za (L_ za) (L_ al)) (N_ Rr (L_ Zm) (L_ VT))) Y23))) (N_ o62 (N_ o84 (N_ eJ (N_ Wy (N_ gQ (L_ S2) (L_ aH)) (N_ RF (L_ za) (L_ VZ))) Y45) (N_ fW (N_ Wl (N_ gE (L_ Ye) (L_ au)) (N_ za (L_ Sw) (L_ zc))) Y79)) (N_ eY (N_ eA (N_ Wr (N_ gN (L_ za) (L_ zc)) (N_ Xf (L_ Zy) (L_ eX))) Y46) Y11))) (N_ o46 (N_ za (N_ o77 (N_ eK (N_ WA (N_ gT (L_ Yv) (L_ aJ)) Q3) Ny) (N_ fY (N_ Wm (N_ za (L_ Yh) (L_ zc)) (N_ Rx (L_ za) (L_ VV))) Y80)) (N_ o99 (N_ eD (N_ Wt (N_ zc (L_ za) (L_ T8)) (N_ Xh (L_ ZA) (L_ e8))) Y47) Y2)) (N_ o69 (N_ o88 (N_ eG (N_ Ww (N_ xC (L_ Yr) (L_ za)) (N_ zc (L_ SA) (L_ zc))) Y25) (N_ fV (N_ fG (N_ XQ (L_ Yc) (L_ ap)) (N_ za (L_ zc) (L_ za))) Y48)) (N_ eL (N_ eg (N_ Wq (N_ gL (L_ SY) (L_ za)) (N_ za (L_ Zv) (L_ za))) Y49) Y12)))))
def wA:(@List @Stmt):=[My.top 98,My.top 99,My.top 100,My.top 101,My.top 102,My.top 103,My.top 104,My.top 105]
def ym:=N_ W.boot_o_0 (N_ W.boot_o_1 (N_ Mi (N_ W.boot_o_7 (N_ o51 (N_ za Y13 (N_ za Y51 Y63)) (N_ za (N_ za Y81 Y28) (N_ fU Y26 Y29))) (N_ o59 (N_ o78 (N_ za Y82 Y30) (N_ za Y83 Y31)) (N_ za (N_ eB Y84 Nl) Y6))) (N_ za (N_ zc (N_ za Y3 (N_ fZ Y85 Y65)) (N_ o93 (N_ za Y86 Y66) (N_ za Y87 Y33))) (N_ o63 (N_ za (N_ eI Y52 Y17) (N_ za Nw Y18)) (N_ za (N_ za Y27 NJ) Y7)))) (N_ W.boot_o_5 (N_ W.boot_o_9 (N_ o53 (N_ o72 Y15 (N_ jL Y88 Y35)) (N_ o91 (N_ eF Y89 NH) (N_ zD Nv Y67))) (N_ o61 (N_ zD (N_ jP Nu Y68) (N_ fX Y90 NG)) (N_ df (N_ zD Y91 Y36) Y0))) (N_ o45 (N_ o57 (N_ o76 Y14 (N_ zD Nt Y39)) (N_ zD (N_ jN Y53 Y69) Y8)) (N_ zD (N_ o87 (N_ zD Y54 NF) (N_ jJ Y55 Y71)) (N_ jR (N_ eh Y92 Y19) Y1))))) (N_ W.boot_o_2 (N_ W.boot_o_4 (N_ W.boot_o_8 (N_ zD (N_ zc Y4 (N_ jM Nr Y41)) (N_ o90 (N_ zc Nq NE) (N_ zJ Y93 ND))) (N_ jI (N_ zJ (N_ jQ Nk Y72) (N_ zc Y94 Y42)) (N_ zc (N_ zJ Y56 NC) Y10))) (N_ Mh (N_ o56 (N_ o75 Y5 (N_ zJ Y57 Y22)) (N_ zJ (N_ jO Y58 NB) (N_ zc Y59 Y74))) (N_ zJ (N_ zc (N_ zJ Y60 Y75) (N_ jK Y95 Y43)) (N_ jS (N_ zc Y96 Y76) Y9)))) (N_ W.boot_o_6 (N_ W.boot_o_10 (N_ za (N_ o73 Y16 (N_ f_ Y97 NA)) (N_ o92 (N_ eE Y98 Y78) (N_ fS Y99 Y23))) (N_ o62 (N_ o84 (N_ eJ Np Y45) (N_ fW No Y79)) (N_ eY (N_ eA NO Y46) Y11))) (N_ o46 (N_ za (N_ o77 (N_ eK Nn Ny) (N_ fY Y61 Y80)) (N_ o99 (N_ eD NN Y47) Y2)) (N_ o69 (N_ o88 (N_ eG NM Y25) (N_ fV NL Y48)) (N_ eL (N_ eg NK Y49) Y12)))))
def uU:(@List @Stmt):=[My.top 88,My.top 89,My.top 90,My.top 91,My.top 92,My.top 93,My.top 94,My.top 95,My.top 96,My.top 97]
def yn:=N_ W.boot_o_0 (N_ W.boot_o_1 (N_ Ml (N_ W.boot_o_7 (N_ o51 (N_ za Y13 (N_ za Y51 (N_ fm (N_ zc (L_ ZX) Z_) (N_ YM (L_ Za) Z_)))) (N_ za (N_ za Y81 (N_ za (N_ RV (L_ SK) Z_) (N_ YT (L_ zc) Z_))) (N_ fU Y26 (N_ X4 sq (N_ S6 (L_ za) Z_))))) (N_ o59 (N_ o78 (N_ za Y82 (N_ fB wI (N_ Ri (L_ Zk) Z_))) (N_ za Y83 (N_ za (N_ XA (L_ za) Z_) (N_ za (L_ aX) Z_)))) (N_ za (N_ eB Y84 (N_ zD (N_ xC (L_ Z1) Z_) (N_ zD (L_ Sh) Z_))) (N_ za Y32 (N_ g7 (N_ RK (L_ ZN) Z_) (N_ YC (L_ zc) Z_)))))) (N_ za (N_ zc (N_ za Y3 (N_ fZ Y85 (N_ fj (N_ XC (L_ za) Z_) (N_ YK (L_ aZ) Z_)))) (N_ o93 (N_ za Y86 (N_ Wa (N_ XF (L_ zc) Z_) (N_ YO (L_ za) Z_))) (N_ za Y87 (N_ zc (N_ za (L_ ZP) Z_) (N_ zc (L_ Sd) Z_))))) (N_ o63 (N_ za (N_ eI Y52 (N_ za wI (N_ zc (L_ Sj) Z_))) (N_ za Nw (N_ za (N_ Xy (L_ SG) Z_) wI))) (N_ za (N_ za Y27 (N_ X8 (N_ RQ (L_ ZZ) Z_) (N_ Ra (L_ zc) Z_))) (N_ WE Y34 (N_ gZ (N_ zc (L_ ZL) Z_) (N_ YA (L_ aO) Z_))))))) (N_ W.boot_o_5 (N_ W.boot_o_9 (N_ o53 (N_ o72 Y15 (N_ jL Y88 (N_ X6 sq (N_ S8 (L_ za) Z_)))) (N_ o91 (N_ eF Y89 (N_ fu (N_ XH (L_ Z3) Z_) (N_ YR (L_ Zg) Z_))) (N_ zD Nv (N_ g9 (N_ Xw (L_ za) Z_) (N_ YE (L_ aS) Z_))))) (N_ o61 (N_ zD (N_ jP Nu (N_ zc (N_ XN (L_ Z7) Z_) (N_ YV (L_ za) Z_))) (N_ fX Y90 (N_ fh (N_ RM (L_ ZT) Z_) (N_ YI (L_ zc) Z_)))) (N_ df (N_ zD Y91 (N_ za (N_ RS (L_ za) Z_) (N_ za (L_ Zc) Z_))) (N_ fQ Y37 (N_ za (N_ Xr (L_ SE) Z_) wI))))) (N_ o45 (N_ o57 (N_ o76 Y14 (N_ zD Nt (N_ zc (N_ za (L_ ZV) Z_) (N_ zc (L_ Sf) Z_)))) (N_ zD (N_ jN Y53 (N_ fq (N_ RU (L_ za) Z_) (N_ Re (L_ Ze) Z_))) (N_ WH Y70 (N_ za (N_ Xu (L_ za) Z_) (N_ za (L_ aQ) Z_))))) (N_ zD (N_ o87 (N_ zD Y54 (N_ fw (N_ XJ (L_ Z5) Z_) (N_ za (L_ Zh) Z_))) (N_ jJ Y55 (N_ fc (N_ zc (L_ ZR) Z_) (N_ YG (L_ aV) Z_)))) (N_ jR (N_ eh Y92 (N_ za (N_ RO (L_ SI) Z_) wI)) (N_ zD Y20 (N_ X2 sq (N_ S4 (L_ za) Z_)))))))) (N_ W.boot_o_2 (N_ W.boot_o_4 (N_ W.boot_o_8 (N_ zD (N_ zc Y4 (N_ jM Nr (N_ za (N_ XD (L_ za) Z_) (N_ za (L_ a_) Z_)))) (N_ o90 (N_ zc Nq (N_ zc (N_ XI (L_ Z4) Z_) (N_ YS (L_ Si) Z_))) (N_ zJ Y93 (N_ fb (N_ RL (L_ ZQ) Z_) (N_ YF (L_ zc) Z_))))) (N_ jI (N_ zJ (N_ jQ Nk (N_ za (N_ RW (L_ SL) Z_) (N_ YW (L_ Zj) Z_))) (N_ zc Y94 (N_ X5 sq (N_ S7 (L_ za) Z_)))) (N_ zc (N_ zJ Y56 (N_ X_ (N_ zD (L_ Z0) Z_) (N_ Rc (L_ Zd) Z_))) (N_ fR Y73 (N_ g0 (N_ Xs (L_ za) Z_) (N_ YB (L_ aP) Z_)))))) (N_ Mj (N_ o56 (N_ o75 Y5 (N_ zJ Y57 (N_ za (N_ XB (L_ SH) Z_) wI))) (N_ zJ (N_ jO Y58 (N_ ft (N_ XE (L_ Z2) Z_) (N_ Rg (L_ zc) Z_))) (N_ zc Y59 (N_ g8 (N_ zc (L_ ZO) Z_) (N_ YD (L_ aR) Z_))))) (N_ zJ (N_ zc (N_ zJ Y60 (N_ Wb (N_ zc (L_ zc) Z_) (N_ YU (L_ Zi) Z_))) (N_ jK Y95 (N_ zc (N_ za (L_ ZS) Z_) (N_ zc (L_ Se) Z_)))) (N_ jS (N_ zc Y96 (N_ X7 (N_ RP (L_ za) Z_) (N_ S9 (L_ Zb) Z_))) (N_ zJ Y77 (N_ za (N_ Xq (L_ za) Z_) (N_ za (L_ aN) Z_))))))) (N_ W.boot_o_6 (N_ W.boot_o_10 (N_ za (N_ o73 Y16 (N_ f_ Y97 (N_ fk (N_ RN (L_ ZW) Z_) (N_ YL (L_ zc) Z_)))) (N_ o92 (N_ eE Y98 (N_ za (N_ XG (L_ za) Z_) (N_ YQ (L_ Zf) Z_))) (N_ fS Y99 (N_ za (N_ Xv (L_ SF) Z_) wI)))) (N_ o62 (N_ o84 (N_ eJ Np (N_ fA (N_ XM (L_ Z6) Z_) sq)) (N_ fW No (N_ fe (N_ Xz (L_ za) Z_) (N_ YH (L_ aW) Z_)))) (N_ eY (N_ eA NO (N_ X9 sq (N_ Rb (L_ za) Z_))) (N_ WF Nz (N_ zc (N_ za (L_ ZM) Z_) (N_ zc (L_ Sb) Z_)))))) (N_ o46 (N_ za (N_ o77 (N_ eK Nn (N_ fD (N_ XO (L_ Z8) Z_) (N_ za (L_ Sk) Z_))) (N_ fY Y61 (N_ fi (N_ zc (L_ ZU) Z_) (N_ YJ (L_ aY) Z_)))) (N_ o99 (N_ eD NN (N_ za (N_ RT (L_ SJ) Z_) (N_ xC (L_ za) Z_))) (N_ WG Y24 (N_ X3 sq (N_ S5 (L_ za) Z_))))) (N_ o69 (N_ o88 (N_ eG NM (N_ fv wI (N_ Rh (L_ za) Z_))) (N_ fV NL (N_ za (N_ Xx (L_ za) Z_) (N_ za (L_ aU) Z_)))) (N_ eL (N_ eg NK (N_ zc (N_ za (L_ ZY) Z_) (N_ zc (L_ Sg) Z_))) (N_ WD Y50 (N_ gY (N_ RJ (L_ ZK) Z_) (N_ Yz (L_ zc) Z_))))))))
def uV:(@List @Stmt):=[My.top 24,My.top 25,My.top 26,My.top 27,My.top 28,My.top 29,My.top 30,My.top 31,My.top 32,My.top 33,My.top 34,My.top 35,My.top 36,My.top 37,My.top 38,My.top 39,My.top 40,My.top 41,My.top 42,My.top 43,My.top 44,My.top 45,My.top 46,My.top 47,My.top 48,My.top 49,My.top 50,My.top 51,My.top 52,My.top 53,My.top 54,My.top 55,My.top 56,My.top 57,My.top 58,My.top 59,My.top 60,My.top 61,My.top 62,My.top 63,My.top 64,My.top 65,My.top 66,My.top 67,My.top 68,My.top 69,My.top 70,My.top 71,My.top 72,My.top 73,My.top 74,My.top 75,My.top 76,My.top 77,My.top 78,My.top 79,My.top 80,My.top 81,My.top 82,My.top 83,My.top 84,My.top 85,My.top 86,My.top 87]
def lM:=N_ W.boot_o_0 (N_ W.boot_o_1 (N_ Mo (N_ W.boot_o_7 (N_ o51 (N_ za (N_ WK (N_ za (L_ gX) Z_) (L_ We)) (N_ za (N_ Wp (L_ za) Z_) (L_ fm))) (N_ za (N_ za (N_ za (L_ zD) Z_) (L_ za)) (N_ fU (L_ za) (L_ X4)))) (N_ o59 (N_ o78 (N_ za (N_ Wz (L_ za) Z_) (L_ fB)) (N_ za (N_ za (L_ XS) Z_) (L_ za))) (N_ za (N_ eB (N_ za (L_ gO) Z_) (L_ zD)) (N_ za (L_ R9) (L_ g7))))) (N_ za (N_ zc (N_ za (N_ za wI (L_ Wc)) (N_ fZ wI (L_ fj))) (N_ o93 (N_ za (N_ Wu (L_ XW) Z_) (L_ Wa)) Q4)) (N_ o63 (N_ za (N_ eI (N_ za (L_ gP) Z_) (L_ za)) (N_ za (N_ Wk (L_ gC) Z_) (L_ za))) (N_ za (N_ za (N_ za (L_ gM) Z_) (L_ X8)) (N_ WE (L_ zc) (L_ gZ)))))) (N_ W.boot_o_5 (N_ W.boot_o_9 (N_ o53 (N_ o72 (N_ zD (N_ WC (L_ zc) Z_) (L_ za)) (N_ jL (N_ zD (L_ gK) Z_) (L_ X6))) (N_ o91 (N_ eF (N_ fM (L_ za) Z_) (L_ fu)) (N_ zD (L_ fF) (L_ g9)))) (N_ o61 (N_ zD (N_ jP (N_ zD (L_ Mm) Z_) (L_ zc)) (N_ fX (N_ fH (L_ gF) Z_) (L_ fh))) (N_ df (N_ zD (N_ Ws (L_ XU) Z_) (L_ za)) (N_ fQ (L_ Wg) (L_ za))))) (N_ o45 (N_ o57 (N_ o76 (N_ WI (N_ fO (L_ gU) Z_) (L_ R7)) (N_ zD (N_ Wn (L_ gH) Z_) (L_ zc))) (N_ zD (N_ jN (N_ zD (L_ za) Z_) (L_ fq)) (N_ WH (L_ Wi) (L_ za)))) (N_ zD (N_ o87 (N_ zD (N_ Wx (L_ XZ) Z_) (L_ fw)) (N_ jJ (N_ zc (L_ XR) Z_) (L_ fc))) (N_ jR (N_ eh (N_ fK (L_ zc) Z_) (L_ za)) (N_ zD (L_ za) (L_ X2))))))) (N_ W.boot_o_2 (N_ W.boot_o_4 (N_ W.boot_o_8 (N_ zD (N_ zc (N_ zJ (N_ zc (L_ za) Z_) (L_ Wd)) (N_ jM (N_ zJ (L_ XT) Z_) (L_ za))) (N_ o90 (N_ zc (N_ fN (L_ XY) Z_) (L_ zc)) (N_ zJ (L_ Wj) (L_ fb)))) (N_ jI (N_ zJ (N_ jQ (N_ zJ (L_ gR) Z_) (L_ za)) (N_ zc (N_ fI (L_ gG) Z_) (L_ X5))) (N_ zc (N_ zJ (N_ zc (L_ za) Z_) (L_ X_)) (N_ fR (L_ Wh) (L_ g0))))) (N_ Mn (N_ o56 (N_ o75 (N_ zc (N_ fP (L_ X1) Z_) (L_ za)) (N_ zJ (N_ zc (L_ zc) Z_) (L_ za))) (N_ zJ (N_ jO (N_ zJ (L_ XV) Z_) (L_ ft)) (N_ zc (L_ zc) (L_ g8)))) (N_ zJ (N_ zc (N_ zJ (N_ zc (L_ X0) Z_) (L_ Wb)) (N_ jK (N_ za (L_ gB) Z_) (L_ zc))) (N_ jS (N_ zc (N_ fL (L_ za) Z_) (L_ X7)) (N_ zJ (L_ Wf) (L_ za)))))) (N_ W.boot_o_6 (N_ W.boot_o_10 (N_ za (N_ o73 (N_ WJ (N_ WB (L_ gW) Z_) (L_ zc)) (N_ f_ (N_ Wo (L_ gJ) Z_) (L_ fk))) (N_ o92 (N_ eE (N_ Wv (L_ XX) Z_) (L_ za)) (N_ fS (L_ fE) (L_ za)))) (N_ o62 (N_ o84 (N_ eJ (N_ Wy (L_ gQ) Z_) (L_ fA)) (N_ fW (N_ Wl (L_ gE) Z_) (L_ fe))) (N_ eY (N_ eA (N_ Wr (L_ gN) Z_) (L_ X9)) (N_ WF (L_ za) (L_ zc))))) (N_ o46 (N_ za (N_ o77 (N_ eK (N_ WA (L_ gT) Z_) (L_ fD)) (N_ fY (N_ Wm (L_ za) Z_) (L_ fi))) (N_ o99 (N_ eD (N_ Wt (L_ zc) Z_) (L_ za)) (N_ WG (L_ za) (L_ X3)))) (N_ o69 (N_ o88 (N_ eG (N_ Ww (L_ xC) Z_) (L_ fv)) (N_ fV (N_ fG (L_ XQ) Z_) (L_ za))) (N_ eL (N_ eg (N_ Wq (L_ gL) Z_) (L_ zc)) (N_ WD (L_ R8) (L_ gY)))))))
def n4:(@List @Stmt):=[My.top 0,My.top 1,My.top 2,My.top 3,My.top 4,My.top 5,My.top 6,My.top 7,My.top 8,My.top 9,My.top 10,My.top 11,My.top 12,My.top 13,My.top 14,My.top 15,My.top 16,My.top 17,My.top 18,My.top 19,My.top 20,My.top 21,My.top 22,My.top 23]
def j9:=N_ W.boot_o_0 (N_ W.boot_o_1 (N_ W.boot_o_3 (L_ W.boot_o_7) (L_ za)) (N_ W.boot_o_5 (L_ W.boot_o_9) (L_ o45))) (N_ W.boot_o_2 (N_ W.boot_o_4 (L_ W.boot_o_8) (L_ zc)) (N_ W.boot_o_6 (L_ W.boot_o_10) (L_ o46)))
def ig:((x:@Params)→@Heap):=(fun x=>(@Heap.mk (@Array.mk @Obj [(@W.boot_o_0 x),(@W.boot_o_1 x),(@W.boot_o_2 x),(@W.boot_o_3 x),(@W.boot_o_4 x),(@W.boot_o_5 x),(@W.boot_o_6 x),(@W.boot_o_7 x),(@W.boot_o_8 x),(@W.boot_o_9 x),(@W.boot_o_10 x),(za x),(zc x),(o45 x),(o46 x)]) (@Life.mk [] [] [] 0 (@List.nil (@Prod @Nat @Nat)) [] @Bool.false #[] [] 0 @Bool.false @Bool.false @Bool.false (0:Int) [(2000:Int),(10:Int),(10:Int)] @Bool.false 0 @Bool.true [] [] 0 @Bool.false)))
abbrev k2:=(@Life.mk [] [] [] 0 (@List.nil (@Prod @Nat @Nat)) [] @Bool.false #[] [] 0 @Bool.false @Bool.false @Bool.false (0:Int) [(2000:Int),(10:Int),(10:Int)] @Bool.false 0 @Bool.true [] [] 0 @Bool.false)
abbrev S_(t:Params→W.BT)(n k:Nat)(w:World)(o:OsState):W.SharedT:=W.SharedT.mk (t w.params) n k2 g_ d_ k o
abbrev k0(x0:World)(x1:OsState):=(@Shared.mk (@yZ x0.params) g_ d_ 1472 x1)
abbrev k1:=(@W.OpenRow.toRowW (@W.OpenLaw.row @Challenge.rw_oddbases_k60_rows_refused))
abbrev k3:=(@Prod (@Prod (@List (@Option @FnShape)) @Bool) (@Prod (@List (@Option @PyProof.Rows.PlainShape)) (@Prod (@List (@Option (@Prod @PyProof.Rows.PlainShape @Bool))) (@Prod (@Prod (@List (@Option @FnShape)) @Bool) (@List (@Prod (@Option (@Prod (@List (@Option @FnShape)) @Bool)) (@Option (@Prod @PyProof.Rows.PlainShape @Bool))))))))
abbrev k4:=(@W.looseW @h_view_39 [(.ofString "has_figures_alone_writings"),(.ofString "has_figures_alone_texts"),(.ofString "COUNTS")])
abbrev k5:=(@Bool.true,((@pinGoodD (@PyProof.Rows.drecsOf @h_view_39)),((@PyProof.Rows.plainGoodE @h_view_39 k4),((@PyProof.Rows.plainGoodD @h_view_39 [(.ofString "has_figures_alone_writings"),(.ofString "has_figures_alone_texts"),(.ofString "COUNTS")]),((@W.wideGood @h_view_39),(@W.clsGoodW @h_view_39 [(.ofString "has_figures_alone_writings"),(.ofString "has_figures_alone_texts"),(.ofString "COUNTS")]))))))
abbrev k6(x0:World)(x1:OsState):=(@W.clsSeenW @h_view_39 [(.ofString "has_figures_alone_writings"),(.ofString "has_figures_alone_texts"),(.ofString "COUNTS")] (k0 x0 x1))
abbrev k7(x0:World)(x1:OsState):=(@PyProof.Rows.plainSeenD @h_view_39 [(.ofString "has_figures_alone_writings"),(.ofString "has_figures_alone_texts"),(.ofString "COUNTS")] (k0 x0 x1))
abbrev k8:=(@Code.body (@W.behindTheImports (k1).1) @yo)
abbrev k9(x0:World)(x1:OsState):=(@ite @Bool (@Eq @Bool @Bool.true @Bool.true) (@instDecidableEqBool @Bool.true @Bool.true) (@BEq.beq @Nat (@instBEqOfDecidableEq @Nat @instDecidableEqNat) (@Array.size @GenState (@Shared.gens (k0 x0 x1))) 0) (@Bool.not (@leftWithCleanup (@Shared.gens (k0 x0 x1)))))
abbrev k10:=(@W.clsGoodW @h_view_39 [(.ofString "has_figures_alone_writings"),(.ofString "has_figures_alone_texts"),(.ofString "COUNTS")])
abbrev k11:=(@List (@Prod (@Option (@Prod (@List (@Option @FnShape)) @Bool)) (@Option (@Prod @PyProof.Rows.PlainShape @Bool))))
abbrev k12:=(@PyProof.Rows.plainGoodD @h_view_39 [(.ofString "has_figures_alone_writings"),(.ofString "has_figures_alone_texts"),(.ofString "COUNTS")])
abbrev k13(x0:World)(x1:OsState):=(@Bool.and (@Bool.and (@Bool.and (@W.staticsOk (@importedModules (@Module.body (@Program.main (k1).1))) (@W.boot_heap x0.params) (@yZ x0.params)) (@W.namesBound (k1).1 (@yZ x0.params))) (@W.gensDone (k0 x0 x1))) (@W.laidKept (@W.boot_heap x0.params) (@yZ x0.params)))
abbrev k14:=(@Prod (@Prod (@Option @Str) (@List (@Prod @Str @Value))) (@Prod @Bool (@Prod @Bool k3)))
abbrev k15:=(@Prod @Flow (@Prod @W.SharedT (@Prod @Code @Pos)))
abbrev k16:=(@Eq.refl (@List @Addr) My.myAs)
abbrev k17:=(@importedModules (@Module.body (@Program.main (k1).1)))
abbrev k18:=(@W.openGood @h_view_39 [(.ofString "has_figures_alone_writings"),(.ofString "has_figures_alone_texts"),(.ofString "COUNTS")])
abbrev k19(x0:World)(x1:OsState):=(@pinSeenD @h_view_39 (@PyProof.Rows.drecsOf @h_view_39) (k0 x0 x1))
abbrev k20:=(@W.piecesOf @uU @yo k8 (P_ 487 0 487 8) [(@W.topFrame (P_ 0 0 0 0))])
abbrev k21(x0:World)(x1:OsState):=(@PyProof.Rows.plainSeenE @h_view_39 k4 (k0 x0 x1))
abbrev k22:=(@Prod (@List (@Option @FnShape)) @Bool)
abbrev k23:=(@List.nil (@Prod @Str @W.WData))
abbrev k24(x0:World)(x1:OsState):=(@W.wideSeen @h_view_39 (k0 x0 x1))
abbrev k25:=(@Prod @Flow (@Prod @Shared (@Prod @Code @Pos)))
abbrev k26:=(@Nat.add 12 (@Nat.add 1 (@Nat.add 3663 (@Nat.add 3372 (@Nat.add 389 (@Nat.add 247 2))))))
abbrev k27:=(@List (@Option (@Prod @PyProof.Rows.PlainShape @Bool)))
abbrev k28:=(@HAppend.hAppend (@List @Stmt) (@List @Stmt) (@List @Stmt) (@instHAppendOfAppend (@List @Stmt) (@List.instAppend @Stmt)) @uU (@HAppend.hAppend (@List @Stmt) (@List @Stmt) (@List @Stmt) (@instHAppendOfAppend (@List @Stmt) (@List.instAppend @Stmt)) @wA []))
abbrev k29(x0:World)(x1:OsState):=(S_ lM 303 568 x0 x1)
abbrev k30(x0:World)(x1:OsState):=(S_ j9 15 187 x0 x1)
abbrev k31(x0:World)(x1:OsState):=(@Shared.mk (@ig x0.params) g_ d_ 187 x1)
abbrev k32(x0:World)(x1:OsState):=(@PyProof.Rows.tablesOk @h_view_39 (@Shared.heap (k0 x0 x1)))
abbrev k33(x0:World)(x1:OsState):=(@PyProof.Rows.tabsOk @h_view_39 (k0 x0 x1))
abbrev k34(x0:World)(x1:OsState):=(@Heap.accountedOkI (@Shared.heap (k0 x0 x1)) k17)
abbrev k35(x0:World)(x1:OsState):=(S_ n0 949 1472 x0 x1)
abbrev k36(x0:World)(x1:OsState):=(S_ ym 895 1400 x0 x1)
abbrev k37(x0:World)(x1:OsState):=(S_ yn 838 1300 x0 x1)
abbrev k38(x0:World)(x1:OsState):=(@Heap.isNs (@Shared.heap (k0 x0 x1)) @mainGlobals)
abbrev k39(x0:World)(x1:OsState):=(@Heap.isNs (@Shared.heap (k0 x0 x1)) @builtinsNs)
abbrev k40:=(@PyProof.Rows.plainGoodE @h_view_39 k4)
abbrev k41(x0:World)(x1:OsState):=(@Shared.mk (@W.boot_heap x0.params) g_ @W.boot_drawn @W.boot_toks x1)
abbrev k42:=(@PyProof.Rows.clssOf @h_view_39 k4)
abbrev k43:=(@Thread.mk (@denote @treeTable k8) k8 (P_ 0 0 0 0) [(@W.topFrame (P_ 0 0 0 0))])
abbrev kh0:=(@W.kHook @h_heap_39 My.myAs (fun x0=>(@id (@Eq (@List @Addr) My.myAs (@List.map (@Prod @Addr @Obj) @Addr (fun(x1:(@Prod @Addr @Obj))=>(@Prod.fst @Addr @Obj x1)) (@h_heap_39 x0))) k16)))
def pf_1092:((x0:World)→(@Eq ((x1:OsState)→(@W.Hook.α kh0)) (fun x1=>(@W.Hook.obs kh0 (k0 x0 x1))) (fun x1=>(@W.Hook.val kh0 x0)))):=by intros;kernel_rfl
def pf_1082:((x0:World)→(@Eq ((x1:OsState)→k11) (fun x1=>(k6 x0 x1)) (fun x1=>k10))):=by intros;kernel_rfl
def pf_1080:((x0:World)→(@Eq ((x1:OsState)→k22) (fun x1=>(k24 x0 x1)) (fun x1=>(@W.wideGood @h_view_39)))):=by intros;kernel_rfl
def pf_1083:((x0:World)→((x1:OsState)→(@Eq (@Prod k22 k11) ((k24 x0 x1),(k6 x0 x1)) ((@W.wideGood @h_view_39),k10)))):=(fun x0=>(fun x1=>(@W.looks_pair k22 k11 (k24 x0 x1) (@W.wideGood @h_view_39) (k6 x0 x1) k10 ((fun x2=>(fun x3=>(congrFun (My.pf_1080 x2) x3))) x0 x1) ((fun x2=>(fun x3=>(congrFun (My.pf_1082 x2) x3))) x0 x1))))
def pf_1078:((x0:World)→(@Eq ((x1:OsState)→k27) (fun x1=>(k7 x0 x1)) (fun x1=>k12))):=by intros;kernel_rfl
def pf_1084:((x0:World)→((x1:OsState)→(@Eq (@Prod k27 (@Prod k22 k11)) ((k7 x0 x1),((k24 x0 x1),(k6 x0 x1))) (k12,((@W.wideGood @h_view_39),k10))))):=(fun x0=>(fun x1=>(@W.looks_pair k27 (@Prod k22 k11) (k7 x0 x1) k12 ((k24 x0 x1),(k6 x0 x1)) ((@W.wideGood @h_view_39),k10) ((fun x2=>(fun x3=>(congrFun (My.pf_1078 x2) x3))) x0 x1) (@My.pf_1083 x0 x1))))
def pf_1076:((x0:World)→(@Eq ((x1:OsState)→(@List (@Option @PyProof.Rows.PlainShape))) (fun x1=>(k21 x0 x1)) (fun x1=>k40))):=by intros;kernel_rfl
def pf_1085:((x0:World)→((x1:OsState)→(@Eq (@Prod (@List (@Option @PyProof.Rows.PlainShape)) (@Prod k27 (@Prod k22 k11))) ((k21 x0 x1),((k7 x0 x1),((k24 x0 x1),(k6 x0 x1)))) (k40,(k12,((@W.wideGood @h_view_39),k10)))))):=(fun x0=>(fun x1=>(@W.looks_pair (@List (@Option @PyProof.Rows.PlainShape)) (@Prod k27 (@Prod k22 k11)) (k21 x0 x1) k40 ((k7 x0 x1),((k24 x0 x1),(k6 x0 x1))) (k12,((@W.wideGood @h_view_39),k10)) ((fun x2=>(fun x3=>(congrFun (My.pf_1076 x2) x3))) x0 x1) (@My.pf_1084 x0 x1))))
def pf_1074:((x0:World)→(@Eq ((x1:OsState)→k22) (fun x1=>(k19 x0 x1)) (fun x1=>(@pinGoodD (@PyProof.Rows.drecsOf @h_view_39))))):=by intros;kernel_rfl
def pf_1086:((x0:World)→((x1:OsState)→(@Eq k3 ((k19 x0 x1),((k21 x0 x1),((k7 x0 x1),((k24 x0 x1),(k6 x0 x1))))) ((@pinGoodD (@PyProof.Rows.drecsOf @h_view_39)),(k40,(k12,((@W.wideGood @h_view_39),k10))))))):=(fun x0=>(fun x1=>(@W.looks_pair k22 (@Prod (@List (@Option @PyProof.Rows.PlainShape)) (@Prod k27 (@Prod k22 k11))) (k19 x0 x1) (@pinGoodD (@PyProof.Rows.drecsOf @h_view_39)) ((k21 x0 x1),((k7 x0 x1),((k24 x0 x1),(k6 x0 x1)))) (k40,(k12,((@W.wideGood @h_view_39),k10))) ((fun x2=>(fun x3=>(congrFun (My.pf_1074 x2) x3))) x0 x1) (@My.pf_1085 x0 x1))))
def pf_1072:((x0:World)→(@Eq ((x1:OsState)→@Bool) (fun x1=>(k33 x0 x1)) (fun x1=>@Bool.true))):=by intros;kernel_rfl
def pf_1087:((x0:World)→((x1:OsState)→(@Eq (@Prod @Bool k3) ((k33 x0 x1),((k19 x0 x1),((k21 x0 x1),((k7 x0 x1),((k24 x0 x1),(k6 x0 x1)))))) k5))):=(fun x0=>(fun x1=>(@W.looks_pair @Bool k3 (k33 x0 x1) @Bool.true ((k19 x0 x1),((k21 x0 x1),((k7 x0 x1),((k24 x0 x1),(k6 x0 x1))))) ((@pinGoodD (@PyProof.Rows.drecsOf @h_view_39)),(k40,(k12,((@W.wideGood @h_view_39),k10)))) ((fun x2=>(fun x3=>(congrFun (My.pf_1072 x2) x3))) x0 x1) (@My.pf_1086 x0 x1))))
def pf_1070:((x0:World)→(@Eq ((x1:OsState)→@Bool) (fun x1=>(@Bool.and (@Bool.and (@Bool.and (@Bool.and (@Bool.and (@Bool.and (@Heap.keysOk (@Shared.heap (k0 x0 x1)) k4 (@List.map @DefRec @Str (fun(x2:@DefRec)=>(@DefRec.name x2)) (@PyProof.Rows.recsOf @h_view_39)) (@List.map (@Prod @Str @PyData) @Str (fun(x2:(@Prod @Str @PyData))=>(@Prod.fst @Str @PyData x2)) (@PyProof.Rows.litsOf @h_view_39)) (@List.map @ClsRec @Str (fun(x2:@ClsRec)=>(@ClsRec.name x2)) k42)) (k34 x0 x1)) (k38 x0 x1)) (k39 x0 x1)) (k32 x0 x1)) ((fun(x2:@Shared)=>(@Bool.and (@W.xlAt @h_view_39 k23 x2) (@W.recOk (@W.RowW.records k1) x2))) (k0 x0 x1))) (k9 x0 x1))) (fun x1=>@Bool.true))):=by intros;kernel_rfl
def pf_1088:((x0:World)→((x1:OsState)→(@Eq (@Prod @Bool (@Prod @Bool k3)) ((@Bool.and (@Bool.and (@Bool.and (@Bool.and (@Bool.and (@Bool.and (@Heap.keysOk (@Shared.heap (k0 x0 x1)) k4 (@List.map @DefRec @Str (fun(x2:@DefRec)=>(@DefRec.name x2)) (@PyProof.Rows.recsOf @h_view_39)) (@List.map (@Prod @Str @PyData) @Str (fun(x2:(@Prod @Str @PyData))=>(@Prod.fst @Str @PyData x2)) (@PyProof.Rows.litsOf @h_view_39)) (@List.map @ClsRec @Str (fun(x2:@ClsRec)=>(@ClsRec.name x2)) k42)) (k34 x0 x1)) (k38 x0 x1)) (k39 x0 x1)) (k32 x0 x1)) ((fun(x2:@Shared)=>(@Bool.and (@W.xlAt @h_view_39 k23 x2) (@W.recOk (@W.RowW.records k1) x2))) (k0 x0 x1))) (k9 x0 x1)),((k33 x0 x1),((k19 x0 x1),((k21 x0 x1),((k7 x0 x1),((k24 x0 x1),(k6 x0 x1))))))) (@Bool.true,k5)))):=(fun x0=>(fun x1=>(@W.looks_pair @Bool (@Prod @Bool k3) (@Bool.and (@Bool.and (@Bool.and (@Bool.and (@Bool.and (@Bool.and (@Heap.keysOk (@Shared.heap (k0 x0 x1)) k4 (@List.map @DefRec @Str (fun(x2:@DefRec)=>(@DefRec.name x2)) (@PyProof.Rows.recsOf @h_view_39)) (@List.map (@Prod @Str @PyData) @Str (fun(x2:(@Prod @Str @PyData))=>(@Prod.fst @Str @PyData x2)) (@PyProof.Rows.litsOf @h_view_39)) (@List.map @ClsRec @Str (fun(x2:@ClsRec)=>(@ClsRec.name x2)) k42)) (k34 x0 x1)) (k38 x0 x1)) (k39 x0 x1)) (k32 x0 x1)) ((fun(x2:@Shared)=>(@Bool.and (@W.xlAt @h_view_39 k23 x2) (@W.recOk (@W.RowW.records k1) x2))) (k0 x0 x1))) (k9 x0 x1)) @Bool.true ((k33 x0 x1),((k19 x0 x1),((k21 x0 x1),((k7 x0 x1),((k24 x0 x1),(k6 x0 x1)))))) k5 ((fun x2=>(fun x3=>(congrFun (My.pf_1070 x2) x3))) x0 x1) (@My.pf_1087 x0 x1))))
def pf_1068:((x0:World)→(@Eq ((x1:OsState)→(@Prod (@Option @Str) (@List (@Prod @Str @Value)))) (fun x1=>(@Heap.bltView (@Shared.heap (k0 x0 x1)))) (fun x1=>@bltViewBooted))):=by intros;kernel_rfl
def pf_1089:((x0:World)→((x1:OsState)→(@Eq k14 ((@Heap.bltView (@Shared.heap (k0 x0 x1))),((@Bool.and (@Bool.and (@Bool.and (@Bool.and (@Bool.and (@Bool.and (@Heap.keysOk (@Shared.heap (k0 x0 x1)) k4 (@List.map @DefRec @Str (fun(x2:@DefRec)=>(@DefRec.name x2)) (@PyProof.Rows.recsOf @h_view_39)) (@List.map (@Prod @Str @PyData) @Str (fun(x2:(@Prod @Str @PyData))=>(@Prod.fst @Str @PyData x2)) (@PyProof.Rows.litsOf @h_view_39)) (@List.map @ClsRec @Str (fun(x2:@ClsRec)=>(@ClsRec.name x2)) k42)) (k34 x0 x1)) (k38 x0 x1)) (k39 x0 x1)) (k32 x0 x1)) ((fun(x2:@Shared)=>(@Bool.and (@W.xlAt @h_view_39 k23 x2) (@W.recOk (@W.RowW.records k1) x2))) (k0 x0 x1))) (k9 x0 x1)),((k33 x0 x1),((k19 x0 x1),((k21 x0 x1),((k7 x0 x1),((k24 x0 x1),(k6 x0 x1)))))))) (@bltViewBooted,(@Bool.true,k5))))):=(fun x0=>(fun x1=>(@W.looks_pair (@Prod (@Option @Str) (@List (@Prod @Str @Value))) (@Prod @Bool (@Prod @Bool k3)) (@Heap.bltView (@Shared.heap (k0 x0 x1))) @bltViewBooted ((@Bool.and (@Bool.and (@Bool.and (@Bool.and (@Bool.and (@Bool.and (@Heap.keysOk (@Shared.heap (k0 x0 x1)) k4 (@List.map @DefRec @Str (fun(x2:@DefRec)=>(@DefRec.name x2)) (@PyProof.Rows.recsOf @h_view_39)) (@List.map (@Prod @Str @PyData) @Str (fun(x2:(@Prod @Str @PyData))=>(@Prod.fst @Str @PyData x2)) (@PyProof.Rows.litsOf @h_view_39)) (@List.map @ClsRec @Str (fun(x2:@ClsRec)=>(@ClsRec.name x2)) k42)) (k34 x0 x1)) (k38 x0 x1)) (k39 x0 x1)) (k32 x0 x1)) ((fun(x2:@Shared)=>(@Bool.and (@W.xlAt @h_view_39 k23 x2) (@W.recOk (@W.RowW.records k1) x2))) (k0 x0 x1))) (k9 x0 x1)),((k33 x0 x1),((k19 x0 x1),((k21 x0 x1),((k7 x0 x1),((k24 x0 x1),(k6 x0 x1))))))) (@Bool.true,k5) ((fun x2=>(fun x3=>(congrFun (My.pf_1068 x2) x3))) x0 x1) (@My.pf_1088 x0 x1))))
def pf_1066:((x0:World)→(@Eq ((x1:OsState)→@PyProof.Rows.Seen) (fun x1=>(@PyProof.Rows.seen (@List.map @DefRec @Str (fun(x2:@DefRec)=>(@DefRec.name x2)) (@PyProof.Rows.recsOf @h_view_39)) (@PyProof.Rows.ownsOf @h_view_39) [] (@Shared.mk (@Shared.heap (k0 x0 x1)) #[] (@Shared.drawn (k0 x0 x1)) (@Shared.toks (k0 x0 x1)) (@Shared.os (k0 x0 x1))))) (fun x1=>(@PyProof.Rows.expectedOf @h_view_39)))):=by intros;kernel_rfl
def pf_1090:((x0:World)→((x1:OsState)→(@Eq (@Prod @PyProof.Rows.Seen k14) (@W.openSeen @h_view_39 [(.ofString "has_figures_alone_writings"),(.ofString "has_figures_alone_texts"),(.ofString "COUNTS")] k17 (fun(x2:@Shared)=>(@Bool.and (@W.xlAt @h_view_39 k23 x2) (@W.recOk (@W.RowW.records k1) x2))) @Bool.true (k0 x0 x1)) k18))):=(fun x0=>(fun x1=>(@W.looks_pair @PyProof.Rows.Seen k14 (@PyProof.Rows.seen (@List.map @DefRec @Str (fun(x2:@DefRec)=>(@DefRec.name x2)) (@PyProof.Rows.recsOf @h_view_39)) (@PyProof.Rows.ownsOf @h_view_39) [] (@Shared.mk (@Shared.heap (k0 x0 x1)) #[] (@Shared.drawn (k0 x0 x1)) (@Shared.toks (k0 x0 x1)) (@Shared.os (k0 x0 x1)))) (@PyProof.Rows.expectedOf @h_view_39) ((@Heap.bltView (@Shared.heap (k0 x0 x1))),((@Bool.and (@Bool.and (@Bool.and (@Bool.and (@Bool.and (@Bool.and (@Heap.keysOk (@Shared.heap (k0 x0 x1)) k4 (@List.map @DefRec @Str (fun(x2:@DefRec)=>(@DefRec.name x2)) (@PyProof.Rows.recsOf @h_view_39)) (@List.map (@Prod @Str @PyData) @Str (fun(x2:(@Prod @Str @PyData))=>(@Prod.fst @Str @PyData x2)) (@PyProof.Rows.litsOf @h_view_39)) (@List.map @ClsRec @Str (fun(x2:@ClsRec)=>(@ClsRec.name x2)) k42)) (k34 x0 x1)) (k38 x0 x1)) (k39 x0 x1)) (k32 x0 x1)) ((fun(x2:@Shared)=>(@Bool.and (@W.xlAt @h_view_39 k23 x2) (@W.recOk (@W.RowW.records k1) x2))) (k0 x0 x1))) (k9 x0 x1)),((k33 x0 x1),((k19 x0 x1),((k21 x0 x1),((k7 x0 x1),((k24 x0 x1),(k6 x0 x1)))))))) (@bltViewBooted,(@Bool.true,k5)) ((fun x2=>(fun x3=>(congrFun (My.pf_1066 x2) x3))) x0 x1) (@My.pf_1089 x0 x1))))
def pf_1093:((x0:World)→((x1:OsState)→(@Eq (@Prod (@Prod @PyProof.Rows.Seen k14) (@W.Hook.α kh0)) ((@W.openSeen @h_view_39 [(.ofString "has_figures_alone_writings"),(.ofString "has_figures_alone_texts"),(.ofString "COUNTS")] k17 (fun(x2:@Shared)=>(@Bool.and (@W.xlAt @h_view_39 k23 x2) (@W.recOk (@W.RowW.records k1) x2))) @Bool.true (k0 x0 x1)),(@W.Hook.obs kh0 (k0 x0 x1))) (k18,(@W.Hook.val kh0 x0))))):=(fun x0=>(fun x1=>(@W.looks_pair (@Prod @PyProof.Rows.Seen k14) (@W.Hook.α kh0) (@W.openSeen @h_view_39 [(.ofString "has_figures_alone_writings"),(.ofString "has_figures_alone_texts"),(.ofString "COUNTS")] k17 (fun(x2:@Shared)=>(@Bool.and (@W.xlAt @h_view_39 k23 x2) (@W.recOk (@W.RowW.records k1) x2))) @Bool.true (k0 x0 x1)) k18 (@W.Hook.obs kh0 (k0 x0 x1)) (@W.Hook.val kh0 x0) (@My.pf_1090 x0 x1) ((fun x2=>(fun x3=>(congrFun (My.pf_1092 x2) x3))) x0 x1))))
def pf_1064:((x0:World)→(@Eq ((x1:OsState)→@Bool) (fun x1=>(k13 x0 x1)) (fun x1=>@Bool.true))):=by intros;kernel_rfl
def pf_1094:((x0:World)→((x1:OsState)→(@Eq (@Prod @Bool (@Prod (@Prod @PyProof.Rows.Seen k14) (@W.Hook.α kh0))) ((k13 x0 x1),((@W.openSeen @h_view_39 [(.ofString "has_figures_alone_writings"),(.ofString "has_figures_alone_texts"),(.ofString "COUNTS")] k17 (fun(x2:@Shared)=>(@Bool.and (@W.xlAt @h_view_39 k23 x2) (@W.recOk (@W.RowW.records k1) x2))) @Bool.true (k0 x0 x1)),(@W.Hook.obs kh0 (k0 x0 x1)))) (@Bool.true,(k18,(@W.Hook.val kh0 x0)))))):=(fun x0=>(fun x1=>(@W.looks_pair @Bool (@Prod (@Prod @PyProof.Rows.Seen k14) (@W.Hook.α kh0)) (k13 x0 x1) @Bool.true ((@W.openSeen @h_view_39 [(.ofString "has_figures_alone_writings"),(.ofString "has_figures_alone_texts"),(.ofString "COUNTS")] k17 (fun(x2:@Shared)=>(@Bool.and (@W.xlAt @h_view_39 k23 x2) (@W.recOk (@W.RowW.records k1) x2))) @Bool.true (k0 x0 x1)),(@W.Hook.obs kh0 (k0 x0 x1))) (k18,(@W.Hook.val kh0 x0)) ((fun x2=>(fun x3=>(congrFun (My.pf_1064 x2) x3))) x0 x1) (@My.pf_1093 x0 x1))))
def pf_1059:((x0:World)→(@Eq ((x1:OsState)→(@Option @Shared)) (fun x1=>(@W.topRun @treeTable (k1).1 x0 11 v_ 2 (@W.SharedT.abs (k35 x0 x1)) (@Thread.mk (@W.doneF @Flow.next) k8 (P_ 591 0 598 120) [(@W.topFrame (P_ 0 0 0 0))]))) (fun x1=>(@some @Shared (k0 x0 x1))))):=by intros;kernel_rfl
def pf_1057:((x0:World)→(@Eq ((x1:OsState)→(@Option k15)) (fun x1=>(@W.segRunT @treeTable (k1).1 x0 11 v_ 1 247 (k36 x0 x1) (@W.piecesOf @wA @yo k8 (P_ 531 0 540 21) [(@W.topFrame (P_ 0 0 0 0))]))) (fun x1=>(@some k15 (@Flow.next,((k35 x0 x1),(k8,(P_ 591 0 598 120)))))))):=by intros;kernel_rfl
def pf_1001:((x0:World)→(@Eq ((x1:OsState)→(@Option k15)) (fun x1=>(@W.segRunT @treeTable (k1).1 (@World.withFollow x0 "special-get-raises" @Bool.true) 11 v_ 1 389 (@W.SharedT.mk (@yn (@World.params (@World.withFollow x0 "special-get-raises" @Bool.true))) 838 k2 g_ d_ 1300 x1) k20)) (fun x1=>(@some k15 (@Flow.next,((@W.SharedT.mk (@ym (@World.params (@World.withFollow x0 "special-get-raises" @Bool.true))) 895 k2 g_ d_ 1400 x1),(k8,(P_ 531 0 540 21)))))))):=by intros;kernel_rfl
def pf_999:((x0:World)→(@Eq ((x1:OsState)→(@Option k15)) (fun x1=>(@W.segRunT @treeTable (k1).1 (@World.withFollow x0 "special-get-raises" @Bool.false) 11 v_ 1 389 (@W.SharedT.mk (@yn (@World.params (@World.withFollow x0 "special-get-raises" @Bool.false))) 838 k2 g_ d_ 1300 x1) k20)) (fun x1=>(@some k15 (@Flow.next,((@W.SharedT.mk (@ym (@World.params (@World.withFollow x0 "special-get-raises" @Bool.false))) 895 k2 g_ d_ 1400 x1),(k8,(P_ 531 0 540 21)))))))):=by intros;kernel_rfl
def pf_49:((x0:World)→(@Eq ((x1:OsState)→(@Option k25)) (fun x1=>(@W.segRun @treeTable (k1).1 x0 11 v_ 1 1 (k31 x0 x1) (@W.blockOf (@W.behindTheImports (k1).1) @yo k8 (P_ 0 0 0 0) [(@W.topFrame (P_ 0 0 0 0))]))) (fun x1=>(@some k25 (@Flow.next,((@W.SharedT.abs (k30 x0 x1)),(k8,(P_ 0 0 0 0)))))))):=by intros;kernel_rfl
def pf_47:((x0:World)→(@Eq ((x1:OsState)→(@Option (@Prod @Shared @Thread))) (fun x1=>(@W.topGo @treeTable (k1).1 x0 11 v_ 12 (k41 x0 x1) (@W.topStub (k1).1))) (fun x1=>(@some (@Prod @Shared @Thread) ((k31 x0 x1),k43))))):=by intros;kernel_rfl
def pf_382:((x0:World)→(@Eq ((x1:OsState)→(@Option k15)) (fun x1=>(@W.segRunT @treeTable (k1).1 x0 11 v_ 1 3663 (k30 x0 x1) (@W.piecesOf @n4 @yo k8 (P_ 0 0 0 0) [(@W.topFrame (P_ 0 0 0 0))]))) (fun x1=>(@some k15 (@Flow.next,((k29 x0 x1),(k8,(P_ 81 0 90 24)))))))):=by intros;kernel_rfl
def pf_940:((x0:World)→(@Eq ((x1:OsState)→(@Option k15)) (fun x1=>(@W.segRunT @treeTable (k1).1 x0 11 v_ 1 3372 (k29 x0 x1) (@W.piecesOf @uV @yo k8 (P_ 81 0 90 24) [(@W.topFrame (P_ 0 0 0 0))]))) (fun x1=>(@some k15 (@Flow.next,((k37 x0 x1),(k8,(P_ 487 0 487 8)))))))):=by intros;kernel_rfl
def pf_1060:((x0:World)→((x1:OsState)→(@Eq (@Option @Shared) (@W.topRun @treeTable (k1).1 x0 11 v_ k26 (k41 x0 x1) (@W.topStub (k1).1)) (@some @Shared (k0 x0 x1))))):=(fun x0=>(fun x1=>(@W.go_top @treeTable (k1).1 x0 11 v_ 12 (@Nat.add 1 (@Nat.add 3663 (@Nat.add 3372 (@Nat.add 389 (@Nat.add 247 2))))) (k41 x0 x1) (k31 x0 x1) (k0 x0 x1) (@W.topStub (k1).1) k43 (congrFun (My.pf_47 x0) x1) (@W.piece_block @treeTable (k1).1 x0 11 v_ @yo (P_ 0 0 0 0) 1 (@Nat.add 3663 (@Nat.add 3372 (@Nat.add 389 (@Nat.add 247 2)))) (k31 x0 x1) (@W.SharedT.abs (k30 x0 x1)) (k0 x0 x1) (@W.behindTheImports (k1).1) k8 (P_ 0 0 0 0) (P_ 0 0 0 0) (congrFun (My.pf_49 x0) x1) (@W.piece_app @treeTable (k1).1 x0 11 v_ @yo (P_ 0 0 0 0) 3663 (@Nat.add 3372 (@Nat.add 389 (@Nat.add 247 2))) (@W.SharedT.abs (k30 x0 x1)) (@W.SharedT.abs (k29 x0 x1)) (k0 x0 x1) @n4 (@HAppend.hAppend (@List @Stmt) (@List @Stmt) (@List @Stmt) (@instHAppendOfAppend (@List @Stmt) (@List.instAppend @Stmt)) @uV k28) k8 (P_ 0 0 0 0) (P_ 81 0 90 24) (My.sg_ (congrFun (My.pf_382 x0) x1)) (@W.piece_app @treeTable (k1).1 x0 11 v_ @yo (P_ 0 0 0 0) 3372 (@Nat.add 389 (@Nat.add 247 2)) (@W.SharedT.abs (k29 x0 x1)) (@W.SharedT.abs (k37 x0 x1)) (k0 x0 x1) @uV k28 k8 (P_ 81 0 90 24) (P_ 487 0 487 8) (My.sg_ (congrFun (My.pf_940 x0) x1)) (@W.piece_app @treeTable (k1).1 x0 11 v_ @yo (P_ 0 0 0 0) 389 (@Nat.add 247 2) (@W.SharedT.abs (k37 x0 x1)) (@W.SharedT.abs (k36 x0 x1)) (k0 x0 x1) @uU (@HAppend.hAppend (@List @Stmt) (@List @Stmt) (@List @Stmt) (@instHAppendOfAppend (@List @Stmt) (@List.instAppend @Stmt)) @wA []) k8 (P_ 487 0 487 8) (P_ 531 0 540 21) (@congrFun @OsState (fun x2=>(@Option k25)) (fun x2=>(@W.segRun @treeTable (k1).1 x0 11 v_ 1 389 (@W.SharedT.abs (S_ yn 838 1300 x0 x2)) k20)) (fun x2=>(@some k25 (@Flow.next,((@W.SharedT.abs (S_ ym 895 1400 x0 x2)),(k8,(P_ 531 0 540 21)))))) ((fun x2=>(@funext @OsState (fun x3=>(@Option k25)) (fun x3=>(@W.segRun @treeTable (k1).1 x2 11 v_ 1 389 (@W.SharedT.abs (@W.SharedT.mk (@yn (@World.params x2)) 838 k2 g_ d_ 1300 x3)) k20)) (fun x3=>(@some k25 (@Flow.next,((@W.SharedT.abs (@W.SharedT.mk (@ym (@World.params x2)) 895 k2 g_ d_ 1400 x3)),(k8,(P_ 531 0 540 21)))))) (fun x3=>(@W.segRun_of @treeTable (k1).1 x2 11 v_ 1 389 (@W.SharedT.mk (@yn (@World.params x2)) 838 k2 g_ d_ 1300 x3) (@W.SharedT.mk (@ym (@World.params x2)) 895 k2 g_ d_ 1400 x3) k20 @Flow.next k8 (P_ 531 0 540 21) (@congrFun @OsState (fun x4=>(@Option k15)) (fun x4=>(@W.segRunT @treeTable (k1).1 x2 11 v_ 1 389 (@W.SharedT.mk (@yn (@World.params x2)) 838 k2 g_ d_ 1300 x4) k20)) (fun x4=>(@some k15 (@Flow.next,((@W.SharedT.mk (@ym (@World.params x2)) 895 k2 g_ d_ 1400 x4),(k8,(P_ 531 0 540 21)))))) (@W.byRow2 "special-get-raises" (fun x4=>(@Eq ((x5:@OsState)→(@Option k15)) (fun x5=>(@W.segRunT @treeTable (k1).1 x4 11 v_ 1 389 (@W.SharedT.mk (@yn (@World.params x4)) 838 k2 g_ d_ 1300 x5) k20)) (fun x5=>(@some k15 (@Flow.next,((@W.SharedT.mk (@ym (@World.params x4)) 895 k2 g_ d_ 1400 x5),(k8,(P_ 531 0 540 21)))))))) @My.pf_999 @My.pf_1001 x2) x3))))) x0) x1) (@W.piece_app @treeTable (k1).1 x0 11 v_ @yo (P_ 0 0 0 0) 247 2 (@W.SharedT.abs (k36 x0 x1)) (@W.SharedT.abs (k35 x0 x1)) (k0 x0 x1) @wA [] k8 (P_ 531 0 540 21) (P_ 591 0 598 120) (My.sg_ (congrFun (My.pf_1057 x0) x1)) (congrFun (My.pf_1059 x0) x1)))))))))
def pf_1062:((x0:World)→(@Eq (@Prod @Bool (@Prod @Nat (@Option @Value))) ((@Bool.and (@Heap.isNs (@W.boot_heap x0.params) @mainGlobals) (@BEq.beq @Nat (@instBEqOfDecidableEq @Nat @instDecidableEqNat) (@Array.size @GenState g_) 0)),((@Array.size @Obj (@Heap.objs (@W.boot_heap x0.params))),(@Heap.nsMap (@W.boot_heap x0.params) @mainGlobals (.ofString "__annotations__")))) (@Bool.true,(11,v_)))):=by intros;kernel_rfl
def pf_43:((x0:@Shared)→(@Eq (@Option @Shared) (@fenceModules? (k1).1 x0) (@some @Shared x0))):=by intros;kernel_rfl
def pf_42:(@Eq @Program (@W.opening (k1).1) (@W.plainProg (@Scope.names (@Module.scope (@Program.main (k1).1))))):=by intros;kernel_rfl
def left:(@W.LeftO (k1).1 @h_view_39 [(.ofString "has_figures_alone_writings"),(.ofString "has_figures_alone_texts"),(.ofString "COUNTS")] (fun(x0:@Shared)=>(@Bool.and (@W.xlAt @h_view_39 k23 x0) (@W.recOk (@W.RowW.records k1) x0))) (@W.Hook.α kh0) (@W.Hook.obs kh0) (@W.Hook.val kh0) 15414 @Bool.true):=(@W.LeftO.of_pieces (k1).1 @h_view_39 [(.ofString "has_figures_alone_writings"),(.ofString "has_figures_alone_texts"),(.ofString "COUNTS")] (fun(x0:@Shared)=>(@Bool.and (@W.xlAt @h_view_39 k23 x0) (@W.recOk (@W.RowW.records k1) x0))) (@W.Hook.α kh0) (@W.Hook.obs kh0) (@W.Hook.val kh0) 15414 @Bool.true @W.boot_heap @yZ g_ g_ @W.boot_drawn d_ @W.boot_toks 1472 11 v_ k26 (@W.boot_open (k1).1 15414 @My.pf_42 (@of_decide_eq_true (@Eq @Bool (@Nat.ble 600 15414) @Bool.true) (@instDecidableEqBool (@Nat.ble 600 15414) @Bool.true) (@id (@Eq @Bool (@Decidable.decide (@Eq @Bool (@Nat.ble 600 15414) @Bool.true) (@instDecidableEqBool (@Nat.ble 600 15414) @Bool.true)) @Bool.true) (@Eq.refl @Bool @Bool.true))) @My.pf_43) @My.pf_1062 @My.pf_1060 (@of_decide_eq_true (@Eq @Bool (@Nat.ble k26 15414) @Bool.true) (@instDecidableEqBool (@Nat.ble k26 15414) @Bool.true) (@id (@Eq @Bool (@Decidable.decide (@Eq @Bool (@Nat.ble k26 15414) @Bool.true) (@instDecidableEqBool (@Nat.ble k26 15414) @Bool.true)) @Bool.true) (@Eq.refl @Bool @Bool.true))) (fun x0=>(@funext @OsState (fun x1=>(@Prod @Bool (@Prod (@Prod @PyProof.Rows.Seen k14) (@W.Hook.α kh0)))) (fun x1=>((k13 x0 x1),((@W.openSeen @h_view_39 [(.ofString "has_figures_alone_writings"),(.ofString "has_figures_alone_texts"),(.ofString "COUNTS")] k17 (fun(x2:@Shared)=>(@Bool.and (@W.xlAt @h_view_39 k23 x2) (@W.recOk (@W.RowW.records k1) x2))) @Bool.true (k0 x0 x1)),(@W.Hook.obs kh0 (k0 x0 x1))))) (fun x1=>(@Bool.true,(k18,(@W.Hook.val kh0 x0)))) (fun x1=>(@My.pf_1094 x0 x1)))))
end My
end
def My.myE:∀P,My.myAs=(My.h_heap_39 P).map (·.1):=fun _=>by kernel_rfl
set_option maxRecDepth 100000
set_option maxHeartbeats 4000000
namespace OD
open PySem PySem.Spec PyProof.Rows L2
abbrev St:=L2.St
noncomputable def Zx(X:Cx):Hp:=if X.stack.length=X.outer.length∨X.fn ""=false then(fun _=>none) else X.H₀
def mG{CX:CXT}{P:Program}{w:World}{K:A_}{mg:be}{base:Heap}{N:List Str}{qual:Str}{scope:Scope}{f:Addr}{cd:Value}{A:Around}{outer:List Env}{s:Shared}{H:Hp}{E:XK}:Zx (yg CX P w K mg base N qual scope f cd A outer s H E)=H:=if_neg (fun z=>z.elim (BN _) (fun z=>Bool.noConfusion z))
def wJ{X:Cx}(h:X.stack.length≠X.outer.length)(hf:X.fn ""=true:=by rfl):Zx X=X.H₀:=if_neg (fun z=>z.elim h (fun z=>by rw[hf]at z;cases z))
structure DtP where
 is:Hp→V→Prop
 mono:∀{g g':Hp}{v:V},(∀a o,g a=some o→g' a=some o)→is g v→is g' v
 ref:∀{g:Hp}{v:V},is g v→∃a,v=.ref a
inductive Dt where
 | non|bl (b:Bool)|int (i:Int)|str (x:Str)|tup (ds:List Dt)|lst (ds:List Dt)|scr (ns:List Int)|way (C:Addr) (f:Str) (n:Int)|exc (C:Addr)|opq (φ:DtP)
def excAt(a C:Addr):Heap→Prop:=fun h=>∃o,h.get? a=some o∧o.cls=.ref C
mutual
def Is(K:A_)(H:Hp):Dt→V→Prop
 | .non,v=>v=.non
 | .bl b,v=>v=.bl b
 | .int i,v=>v=.int i
 | .str x,v=>v=.str x
 | .tup ds,v=>∃a xs,v=.ref a∧H a=some (.tup xs)∧AllIs K H ds xs
 | .lst ds,v=>∃a xs,v=.ref a∧H a=some (.lst xs)∧AllIs K H ds xs
 | .scr ns,v=>∃a,v=.ref a∧SqL K H a (ns.map V.int)
 | .way C f n,v=>∃a dx,v=.ref a∧H a=some (.ins C dx [(f,.int n)])
 | .exc C,v=>∃a,v=.ref a∧H a=some (.ext (excAt a C))
 | .opq φ,v=>φ.is H v
def AllIs(K:A_)(H:Hp):List Dt→List V→Prop
 | [],xs=>xs=[]
 | d::ds,xs=>∃x r,xs=x::r∧Is K H d x∧AllIs K H ds r
end
variable{K:A_}{H H':Hp}
def is_non{v:V}:Is K H .non v↔v=.non:=by unfold Is;exact Iff.rfl
def is_bl{b:Bool}{v:V}:Is K H (.bl b) v↔v=.bl b:=by unfold Is;exact Iff.rfl
def is_int{i:Int}{v:V}:Is K H (.int i) v↔v=.int i:=by unfold Is;exact Iff.rfl
def is_str{x:Str}{v:V}:Is K H (.str x) v↔v=.str x:=by unfold Is;exact Iff.rfl
def is_tup{ds:List Dt}{v:V}:Is K H (.tup ds) v↔∃a xs,v=.ref a∧H a=some (.tup xs)∧AllIs K H ds xs:=by
 constructor
 ·intro h;unfold Is at h;exact h
 ·intro h;unfold Is;exact h
def is_lst{ds:List Dt}{v:V}:Is K H (.lst ds) v↔∃a xs,v=.ref a∧H a=some (.lst xs)∧AllIs K H ds xs:=by
 constructor
 ·intro h;unfold Is at h;exact h
 ·intro h;unfold Is;exact h
def is_scr{ns:List Int}{v:V}:Is K H (.scr ns) v↔∃a,v=.ref a∧SqL K H a (ns.map V.int):=by
 constructor
 ·intro h;unfold Is at h;exact h
 ·intro h;unfold Is;exact h
def is_way{C:Addr}{f:Str}{n:Int}{v:V}:Is K H (.way C f n) v↔∃a dx,v=.ref a∧H a=some (.ins C dx [(f,.int n)]):=by
 constructor
 ·intro h;unfold Is at h;exact h
 ·intro h;unfold Is;exact h
def is_exc{C:Addr}{v:V}:Is K H (.exc C) v↔∃a,v=.ref a∧H a=some (.ext (excAt a C)):=by
 constructor
 ·intro h;unfold Is at h;exact h
 ·intro h;unfold Is;exact h
def is_opq{φ:DtP}{v:V}:Is K H (.opq φ) v↔φ.is H v:=by
 constructor
 ·intro h;unfold Is at h;exact h
 ·intro h;unfold Is;exact h
def allIs_nil{xs:List V}:AllIs K H [] xs↔xs=[]:=by unfold AllIs;exact Iff.rfl
def allIs_cons{d:Dt}{ds:List Dt}{xs:List V}:AllIs K H (d::ds) xs↔∃x r,xs=x::r∧Is K H d x∧AllIs K H ds r:=by
 constructor
 ·intro h;unfold AllIs at h;exact h
 ·intro h;unfold AllIs;exact h
mutual
theorem Is.mono0(s:Same H H'):∀{d:Dt}{v:V},Is K H d v→Is K H' d v
 | .non,_,h=>is_non.mpr (is_non.mp h)
 | .bl _,_,h=>is_bl.mpr (is_bl.mp h)
 | .int _,_,h=>is_int.mpr (is_int.mp h)
 | .str _,_,h=>is_str.mpr (is_str.mp h)
 | .tup ds,_,h=>by
  obtain⟨a,xs,e,h1,h2⟩:=is_tup.mp h
  exact is_tup.mpr ⟨a,xs,e,s _ _ h1,AllIs.mono0 s h2⟩
 | .lst ds,_,h=>by
  obtain⟨a,xs,e,h1,h2⟩:=is_lst.mp h
  exact is_lst.mpr ⟨a,xs,e,s _ _ h1,AllIs.mono0 s h2⟩
 | .scr ns,_,h=>by
  obtain⟨a,e,h1⟩:=is_scr.mp h
  exact is_scr.mpr ⟨a,e,s.seq h1⟩
 | .way C f n,_,h=>by
  obtain⟨a,dx,e,h1⟩:=is_way.mp h
  exact is_way.mpr ⟨a,dx,e,s _ _ h1⟩
 | .exc C,_,h=>by
  obtain⟨a,e,h1⟩:=is_exc.mp h
  exact is_exc.mpr ⟨a,e,s _ _ h1⟩
 | .opq φ,_,h=>is_opq.mpr (φ.mono (fun a o q=>s a o q) (is_opq.mp h))
theorem AllIs.mono0(s:Same H H'):∀{ds:List Dt}{xs:List V},AllIs K H ds xs→AllIs K H' ds xs
 | [],_,h=>allIs_nil.mpr (allIs_nil.mp h)
 | d::ds,_,h=>by
  obtain⟨x,r,e,h1,h2⟩:=allIs_cons.mp h
  exact allIs_cons.mpr ⟨x,r,e,Is.mono0 s h1,AllIs.mono0 s h2⟩
end
theorem AllIs.length:∀{ds:List Dt}{xs:List V},AllIs K H ds xs→ds.length=xs.length
 | [],_,h=>by rw[allIs_nil.mp h];rfl
 | d::ds,_,h=>by
  obtain⟨x,r,rfl,_,h2⟩:=allIs_cons.mp h
  rw[Bm,Bm,AllIs.length h2]
theorem AllIs.get:∀{ds:List Dt}{xs:List V}{i:Nat}{d:Dt},AllIs K H ds xs→ds[i]? = some d→∃v,xs[i]? = some v∧Is K H d v
 | [],_,_,_,_,e=>by simp at e
 | d::ds,_,0,d',h,e=>by
  obtain⟨x,r,rfl,h1,h2⟩:=allIs_cons.mp h
  simp at e;subst e
  exact⟨x,rfl,h1⟩
 | d::ds,_,i+1,d',h,e=>by
  obtain⟨x,r,rfl,h1,h2⟩:=allIs_cons.mp h
  obtain⟨v,e1,e2⟩:=AllIs.get (i:=i) h2 (by simpa using e)
  exact⟨v,by simpa using e1,e2⟩
theorem AllIs.get':∀{ds:List Dt}{xs:List V}{i:Nat}{v:V},AllIs K H ds xs→xs[i]? = some v→∃d,ds[i]? = some d∧Is K H d v
 | [],_,_,_,h,e=>by rw[allIs_nil.mp h]at e;simp at e
 | d::ds,_,0,v,h,e=>by
  obtain⟨x,r,rfl,h1,h2⟩:=allIs_cons.mp h
  simp at e;subst e
  exact⟨d,rfl,h1⟩
 | d::ds,_,i+1,v,h,e=>by
  obtain⟨x,r,rfl,h1,h2⟩:=allIs_cons.mp h
  obtain⟨v,e1,e2⟩:=AllIs.get' (i:=i) h2 (by simpa using e)
  exact⟨v,by simpa using e1,e2⟩
theorem AllIs.append:∀{ds es:List Dt}{xs ys:List V},AllIs K H ds xs→AllIs K H es ys→AllIs K H (ds++es) (xs++ys)
 | [],_,_,_,h,h'=>by rw[allIs_nil.mp h];exact h'
 | d::ds,_,_,_,h,h'=>by
  obtain⟨x,r,rfl,h1,h2⟩:=allIs_cons.mp h
  exact allIs_cons.mpr ⟨x,_,rfl,h1,AllIs.append h2 h'⟩
theorem AllIs.drop:∀{ds:List Dt}{xs:List V}(n:Nat),AllIs K H ds xs→AllIs K H (ds.drop n) (xs.drop n)
 | _,_,0,h=>h
 | [],_,n+1,h=>by rw[allIs_nil.mp h];exact allIs_nil.mpr rfl
 | d::ds,_,n+1,h=>by
  obtain⟨x,r,rfl,h1,h2⟩:=allIs_cons.mp h
  exact AllIs.drop n h2
theorem AllIs.take:∀{ds:List Dt}{xs:List V}(n:Nat),AllIs K H ds xs→AllIs K H (ds.take n) (xs.take n)
 | _,_,0,_=>allIs_nil.mpr rfl
 | [],_,n+1,h=>by rw[allIs_nil.mp h];exact allIs_nil.mpr rfl
 | d::ds,_,n+1,h=>by
  obtain⟨x,r,rfl,h1,h2⟩:=allIs_cons.mp h
  exact allIs_cons.mpr ⟨x,_,rfl,h1,AllIs.take n h2⟩
theorem AllIs.ints:∀{ns:List Int},AllIs K H (ns.map Dt.int) (ns.map V.int)
 | []=>allIs_nil.mpr rfl
 | n::ns=>allIs_cons.mpr ⟨.int n,_,rfl,is_int.mpr rfl,AllIs.ints⟩
def AllIs.atI{ds:List Dt}{xs:List V}{i:Int}{d:Dt}(h:AllIs K H ds xs)(e:L2.atI ds i=some d):∃v,L2.atI xs i=some v∧Is K H d v:=by
 unfold L2.atI at e ⊢
 rw[←h.length]
 cases q:ixN ds.length i with
 | none=>rw[q]at e;cases e
 | some j=>
  rw[q]at e
  exact h.get e
def AllIs.one{d:Dt}{xs:List V}(h:AllIs K H [d] xs):∃v,xs=[v]∧Is K H d v:=by
 obtain⟨x,r,rfl,h1,h2⟩:=allIs_cons.mp h
 rw[allIs_nil.mp h2]
 exact⟨x,rfl,h1⟩
def AllIs.two{d e:Dt}{xs:List V}(h:AllIs K H [d,e] xs):∃v u,xs=[v,u]∧Is K H d v∧Is K H e u:=by
 obtain⟨x,r,rfl,h1,h2⟩:=allIs_cons.mp h
 obtain⟨u,rfl,h3⟩:=h2.one
 exact⟨x,u,rfl,h1,h3⟩
def zX{p:Addr}(h:H p=none)(o:HO):Same H (upd H p o):=fun b u q=>by rw[zt (zV q h)];exact q
structure Vw where
 g:Hp
 h:Hp
 sub:Same g h
structure Le(W W':Vw):Prop where
 g:Same W.g W'.g
 h:Same W.h W'.h
 n:∀a,W.h a≠none→W.g a=none→W'.g a=none
def Le.refl(W:Vw):Le W W:=⟨Same.refl _,Same.refl _,fun _ _ h=>h⟩
def Le.trans{W W1 W2:Vw}(a:Le W W1)(b:Le W1 W2):Le W W2:=
 ⟨a.g.trans b.g,a.h.trans b.h,fun c h1 h2=>b.n c (fun z=>h1 (a.h.free z)) (a.n c h1 h2)⟩
def Is.mono{W W':Vw}{d:Dt}{v:V}(h:Is K W.g d v)(s:Le W W'):Is K W'.g d v:=Is.mono0 s.g h
def AllIs.mono{W W':Vw}{d:List Dt}{v:List V}(h:AllIs K W.g d v)(s:Le W W'):AllIs K W'.g d v:=AllIs.mono0 s.g h
def Vw.new(W:Vw)(p:Addr)(o:HO):Vw:=⟨upd W.g p o,upd W.h p o,fun b u q=>by
 by_cases e:b=p
 ·subst e;rw[zr]at q ⊢; exact q
 ·rw[zt e]at q ⊢; exact W.sub _ _ q⟩
def xX{W:Vw}{p:Addr}(hp:W.h p=none)(o:HO):Le W (W.new p o):=
 ⟨zX (W.sub.free hp) o,zX hp o,fun a h1 h2=>by
  have:a≠p:=fun e=>h1 (e ▸ hp)
  show upd W.g p o a=none
  rw[zt this];exact h2⟩
def Vw.mine(W:Vw)(p:Addr)(o:HO)(hp:W.g p=none):Vw:=⟨W.g,upd W.h p o,fun b u q=>by
 have:b≠p:=fun e=>by rw[e,hp]at q;cases q
 rw[zt this];exact W.sub _ _ q⟩
def ud{W:Vw}{p:Addr}(hp:W.h p=none)(o:HO):Le W (W.mine p o (W.sub.free hp)):=
 ⟨Same.refl _,zX hp o,fun _ _ h=>h⟩
def Vw.frz(W:Vw)(p:Addr)(o:HO)(hp:W.h p=some o):Vw:=⟨upd W.g p o,W.h,fun b u q=>by
 by_cases e:b=p
 ·subst e;rw[zr]at q;rw[hp];exact q
 ·rw[zt e]at q;exact W.sub _ _ q⟩
structure ObP where
 is:Hp→Addr→HO→Prop
 mono:∀{g g':Hp}{a:Addr}{o:HO},Same g g'→is g a o→is g' a o
inductive Sl where|none|some (d:Dt)|own (ds:List Dt)|arg (a:Addr) (ds:List Dt)|obj (φ:ObP)
abbrev DS:=List Sl
def Obs(F:Hp)(W:Vw)(ρ:DS)(σ:St):Prop:=∀(i:Nat)(φ:ObP),ρ[i]? = some (.obj φ)→
 (∃a o,σ[i]? = some (some (.ref a))∧W.h a=some o∧(∀xs,o≠.lst xs)∧W.g a=none∧F a=none∧φ.is W.g a o)∧∀(j:Nat)(ψ:ObP),ρ[j]? = some (.obj ψ)→j=i
structure Rl(K:A_)(Z F:Hp)(W:Vw)(ρ:DS)(σ:St):Prop where
 len:ρ.length=σ.length
 at_:∀(i:Nat)(d:Dt),ρ[i]? = some (.some d)→∃v,σ[i]? = some (some v)∧Is K W.g d v
 ow:∀(i:Nat)(ds:List Dt),ρ[i]? = some (.own ds)→∃a xs,σ[i]? = some (some (.ref a))∧W.h a=some (.lst xs)∧W.g a=none∧F a=none∧AllIs K W.g ds xs
 ne:∀(i j:Nat)(ds es:List Dt),i≠j→ρ[i]? = some (.own ds)→ρ[j]? = some (.own es)→σ[i]?≠σ[j]?
 fr:Same F W.h
 z:Same Z F
 ar:∀(i:Nat)(a:Addr)(ds:List Dt),ρ[i]? = some (.arg a ds)→(∃xs,σ[i]? = some (some (.ref a))∧W.h a=some (.lst xs)∧W.g a=none∧F a=none∧AllIs K W.g ds xs)∧(∀(j:Nat)(es:List Dt),ρ[j]? = some (.own es)→σ[j]?≠some (some (.ref a)))∧∀(j:Nat)(b:Addr)(es:List Dt),ρ[j]? = some (.arg b es)→j=i
 ob:Obs F W ρ σ
variable{F:Hp}{W W':Vw}
def zm{α:Type}{l:List α}{i j:Nat}{x y:α}(q:(l.set i x)[j]? = some y):(i=j∧i<l.length∧x=y)∨(i≠j∧l[j]? = some y):=by
 by_cases hij:i=j
 ·subst hij
  by_cases hl:i<l.length
  ·rw[Bu hl]at q
   exact .inl ⟨rfl,hl,Option.some.inj q⟩
  ·rw[Bt (by rw[BC];omega)]at q
   cases q
 ·rw[Be hij]at q
  exact .inr ⟨hij,q⟩
def Obs.mono{ρ:DS}{σ:St}(r:Obs F W ρ σ)(s:Le W W'):Obs F W' ρ σ:=fun i φ e=>
 let⟨⟨a,o,h1,h2,h3,h4,h5,h6⟩,k⟩:=r i φ e; ⟨⟨a,o,h1,s.h _ _ h2,h3,s.n a (by rw[h2];intro z;cases z) h4,h5,φ.mono s.g h6⟩,k⟩
def Obs.set{ρ:DS}{σ:St}(r:Obs F W ρ σ)(i:Nat){y:Sl}(v:Option V)(hy:∀φ,y≠.obj φ):Obs F W (ρ.set i y) (σ.set i v):=fun j φ q=>by
 rcases zm q with ⟨_,_,e1⟩|⟨hij,q⟩
 ·exact absurd e1 (hy φ)
 obtain⟨⟨a,o,h1,h2⟩,k⟩:=r j φ q
 refine⟨⟨a,o,by rw[Be hij];exact h1,h2⟩,fun l ψ q'=>?_⟩
 rcases zm q' with ⟨_,_,e1⟩|⟨_,q'⟩
 ·exact absurd e1 (hy ψ)
 ·exact k l ψ q'
def Obs.slot{ρ:DS}{σ:St}(r:Obs F W ρ σ)(i:Nat){y:Sl}(hy:∀φ,y≠.obj φ):Obs F W (ρ.set i y) σ:=fun j φ q=>by
 rcases zm q with ⟨_,_,e1⟩|⟨hij,q⟩
 ·exact absurd e1 (hy φ)
 obtain⟨h,k⟩:=r j φ q
 refine⟨h,fun l ψ q'=>?_⟩
 rcases zm q' with ⟨_,_,e1⟩|⟨_,q'⟩
 ·exact absurd e1 (hy ψ)
 ·exact k l ψ q'
def Obs.mine{ρ:DS}{σ:St}(r:Obs F W ρ σ){a:Addr}{xs ys:List V}(ha:W.h a=some (.lst xs))(hg:W.g a=none):Obs F (W.mine a (.lst ys) hg) ρ σ:=fun j φ q=>
 let⟨⟨b,o,h1,h2,h3,h4⟩,k⟩:=r j φ q
 ⟨⟨b,o,h1,(zt (fun z=>h3 xs (by rw[z,ha]at h2;exact(Option.some.inj h2).symm))).trans h2,h3,h4⟩,k⟩
def Obs.frz{ρ:DS}{σ:St}(r:Obs F W ρ σ){a:Addr}{xs:List V}(ha:W.h a=some (.lst xs))(hg:W.g a=none):Obs F (W.frz a _ ha) ρ σ:=fun j φ q=>
 let⟨⟨b,o,h1,h2,h3,h4,h5,h6⟩,k⟩:=r j φ q
 ⟨⟨b,o,h1,h2,h3,(zt (fun z=>h3 xs (by rw[z,ha]at h2;exact(Option.some.inj h2).symm))).trans h4,h5,φ.mono (zX hg _) h6⟩,k⟩
def Rl.mono{ρ:DS}{σ:St}(r:Rl K Z F W ρ σ)(s:Le W W'):Rl K Z F W' ρ σ:=
 ⟨r.len,fun i d e=>let⟨v,h1,h2⟩:=r.at_ i d e; ⟨v,h1,h2.mono s⟩,
  fun i ds e=>let⟨a,xs,h1,h2,h3,h4,h5⟩:=r.ow i ds e; ⟨a,xs,h1,s.h _ _ h2,s.n a (by rw[h2];intro z;cases z) h3,h4,h5.mono s⟩,r.ne,r.fr.trans s.h,r.z,
  fun i a ds e=>let⟨⟨xs,h1,h2,h3,h4,h5⟩,k1,k2⟩:=r.ar i a ds e; ⟨⟨xs,h1,s.h _ _ h2,s.n a (by rw[h2];intro z;cases z) h3,h4,h5.mono s⟩,k1,k2⟩,r.ob.mono s⟩
def Rl.set{ρ:DS}{σ:St}(r:Rl K Z F W ρ σ){d:Dt}{v:V}(i:Nat)(h:Is K W.g d v):Rl K Z F W (ρ.set i (.some d)) (σ.set i (some v)):=by
 refine⟨by rw[BC,BC];exact r.len,fun j e q=>?_,fun j ds q=>?_,fun j k ds es hjk q1 q2=>?_,r.fr,r.z,fun j a ds q=>?_,r.ob.set i _ (fun φ z=>by cases z)⟩
 ·rcases zm q with ⟨rfl,hl,e1⟩|⟨hij,q⟩
  ·cases e1
   exact⟨v,by rw[Bu (by rw[←r.len];exact hl)],h⟩
  ·rw[Be hij]
   exact r.at_ j e q
 ·rcases zm q with ⟨_,_,e1⟩|⟨hij,q⟩
  ·cases e1
  ·rw[Be hij]
   exact r.ow j ds q
 ·rcases zm q1 with ⟨_,_,e1⟩|⟨hij,q1⟩
  ·cases e1
  rcases zm q2 with ⟨_,_,e1⟩|⟨hik,q2⟩
  ·cases e1
  rw[Be hij,Be hik]
  exact r.ne j k ds es hjk q1 q2
 ·rcases zm q with ⟨_,_,e1⟩|⟨hij,q⟩
  ·cases e1
  obtain⟨⟨xs,h1,h2⟩,k1,k2⟩:=r.ar j a ds q
  refine⟨⟨xs,by rw[Be hij];exact h1,h2⟩,fun k es q'=>?_,fun k c es q'=>?_⟩
  ·rcases zm q' with ⟨_,_,e1⟩|⟨hik,q'⟩
   ·cases e1
   rw[Be hik]
   exact k1 k es q'
  ·rcases zm q' with ⟨_,_,e1⟩|⟨hik,q'⟩
   ·cases e1
   exact k2 k c es q'
theorem Rl.own{ρ:DS}{σ:St}(r:Rl K Z F W ρ σ)(s:Le W W'){p:Addr}{xs:List V}{ds:List Dt}(i:Nat)(h0:W.h p=none)(h1:W'.h p=some (.lst xs))(h2:W'.g p=none)(h3:AllIs K W'.g ds xs):
  Rl K Z F W' (ρ.set i (.own ds)) (σ.set i (some (.ref p))):=by
 have r':=r.mono s
 have nep:∀(j:Nat)(es:List Dt),ρ[j]? = some (Sl.own es)→σ[j]?≠some (some (V.ref p)):=fun j es q z=>by
  obtain⟨a,ys,e1,e2,_⟩:=r.ow j es q
  rw[z]at e1
  cases e1
  rw[h0]at e2
  cases e2
 refine⟨by rw[BC,BC];exact r.len,fun j e q=>?_,fun j es q=>?_,fun j k es es' hjk q1 q2=>?_,r'.fr,r.z,fun j a fs q=>?_,r'.ob.set i _ (fun φ z=>by cases z)⟩
 ·rcases zm q with ⟨_,_,e1⟩|⟨hij,q⟩
  ·cases e1
  ·rw[Be hij]
   exact r'.at_ j e q
 ·rcases zm q with ⟨rfl,hl,e1⟩|⟨hij,q⟩
  ·cases e1
   exact⟨p,xs,by rw[Bu (by rw[←r.len];exact hl)],h1,h2,r.fr.free h0,h3⟩
  ·rw[Be hij]
   exact r'.ow j es q
 ·rcases zm q1 with ⟨rfl,hl,e1⟩|⟨hij,q1⟩
  ·rcases zm q2 with ⟨rfl,_,_⟩|⟨hik,q2⟩
   ·exact absurd rfl hjk
   ·rw[Bu (by rw[←r.len];exact hl),Be hik]
    exact fun z=>nep k es' q2 z.symm
  ·rcases zm q2 with ⟨rfl,hl,_⟩|⟨hik,q2⟩
   ·rw[Bu (by rw[←r.len];exact hl),Be hij]
    exact nep j es q1
   ·rw[Be hij,Be hik]
    exact r.ne j k es es' hjk q1 q2
 ·rcases zm q with ⟨_,_,e1⟩|⟨hij,q⟩
  ·cases e1
  obtain⟨⟨ys,g1,g2⟩,k1,k2⟩:=r'.ar j a fs q
  obtain⟨⟨_,_,g3,_⟩,_,_⟩:=r.ar j a fs q
  refine⟨⟨ys,by rw[Be hij];exact g1,g2⟩,fun k es q'=>?_,fun k c es q'=>?_⟩
  ·rcases zm q' with ⟨rfl,hl,e1⟩|⟨hik,q'⟩
   ·rw[Bu (by rw[←r.len];exact hl)]
    intro z
    cases z
    rw[h0]at g3
    cases g3
   ·rw[Be hik]
    exact k1 k es q'
  ·rcases zm q' with ⟨_,_,e1⟩|⟨hik,q'⟩
   ·cases e1
   exact k2 k c es q'
theorem Rl.put{ρ:DS}{σ:St}(r:Rl K Z F W ρ σ){i:Nat}{ds es:List Dt}{a:Addr}{ys:List V}(hi:ρ[i]? = some (.own ds))(ha:σ[i]? = some (some (.ref a)))(hg:W.g a=none)(hF:F a=none)(h3:AllIs K W.g es ys):
  Rl K Z F (W.mine a (.lst ys) hg) (ρ.set i (.own es)) σ:=by
 have hl:i<ρ.length:=by
  rcases BQ i ρ.length with h|h
  ·exact h
  ·rw[Bt h]at hi;cases hi
 have other:∀j fs,j≠i→ρ[j]? = some (.own fs)→σ[j]?≠some (some (.ref a)):=fun j fs hj q z=>r.ne j i fs ds hj q hi (z.trans ha.symm)
 refine⟨by rw[BC];exact r.len,fun j e q=>?_,fun j fs q=>?_,fun j k fs fs' hjk q1 q2=>?_,fun p o q=>?_,r.z,fun j c fs q=>?_,?_⟩
 ·rcases zm q with ⟨_,_,e1⟩|⟨hij,q⟩
  ·cases e1
  ·exact r.at_ j e q
 ·rcases zm q with ⟨rfl,_,e1⟩|⟨hij,q⟩
  ·cases e1
   exact⟨a,ys,ha,zr,hg,hF,h3⟩
  ·obtain⟨b,xs,e1,e2,e3,e4,e5⟩:=r.ow j fs q
   have hb:b≠a:=fun z=>other j fs (fun z=>hij z.symm) q (z ▸ e1)
   exact⟨b,xs,e1,(zt hb).trans e2,e3,e4,e5⟩
 ·have k1:∃gs,ρ[j]? = some (.own gs):=by
   rcases zm q1 with ⟨rfl,_,_⟩|⟨_,q⟩
   ·exact⟨_,hi⟩
   ·exact⟨_,q⟩
  have k2:∃gs,ρ[k]? = some (.own gs):=by
   rcases zm q2 with ⟨rfl,_,_⟩|⟨_,q⟩
   ·exact⟨_,hi⟩
   ·exact⟨_,q⟩
  obtain⟨_,k1⟩:=k1
  obtain⟨_,k2⟩:=k2
  exact r.ne j k _ _ hjk k1 k2
 ·have e:p≠a:=fun e=>by rw[e,hF]at q;cases q
  exact(zt (H:=W.h) (o:=.lst ys) e).trans (r.fr p o q)
 ·rcases zm q with ⟨_,_,e1⟩|⟨hij,q⟩
  ·cases e1
  obtain⟨⟨ys',g1,g2,g3,g4,g5⟩,k1,k2⟩:=r.ar j c fs q
  have hc:c≠a:=fun z=>k1 i ds hi (by rw[z];exact ha)
  refine⟨⟨ys',g1,(zt hc).trans g2,g3,g4,g5⟩,fun k es' q'=>?_,fun k c' es' q'=>?_⟩
  ·rcases zm q' with ⟨rfl,_,_⟩|⟨_,q'⟩
   ·exact k1 i ds hi
   ·exact k1 k es' q'
  ·rcases zm q' with ⟨_,_,e1⟩|⟨hik,q'⟩
   ·cases e1
   exact k2 k c' es' q'
 ·obtain⟨a',xs,e1,e2,_⟩:=r.ow i ds hi
  rw[ha]at e1
  cases e1
  exact(r.ob.mine e2 hg).slot i (fun φ z=>by cases z)
theorem Rl.frz{ρ:DS}{σ:St}(r:Rl K Z F W ρ σ){i:Nat}{ds:List Dt}{a:Addr}{xs:List V}(hi:ρ[i]? = some (.own ds))(ha:σ[i]? = some (some (.ref a)))(hh:W.h a=some (.lst xs))(hg:W.g a=none)(h3:AllIs K W.g ds xs):
  Rl K Z F (W.frz a _ hh) (ρ.set i (.some (.lst ds))) σ:=by
 have sg:Same W.g (upd W.g a (.lst xs)):=zX hg _
 have other:∀j fs,j≠i→ρ[j]? = some (.own fs)→σ[j]?≠some (some (.ref a)):=fun j fs hj q z=>r.ne j i fs ds hj q hi (z.trans ha.symm)
 refine⟨by rw[BC];exact r.len,fun j e q=>?_,fun j fs q=>?_,fun j k fs fs' hjk q1 q2=>?_,r.fr,r.z,fun j c fs q=>?_,(r.ob.frz hh hg).slot i (fun φ z=>by cases z)⟩
 ·rcases zm q with ⟨rfl,_,e1⟩|⟨hij,q⟩
  ·cases e1
   exact⟨_,ha,is_lst.mpr ⟨a,xs,rfl,zr,AllIs.mono0 sg h3⟩⟩
  ·obtain⟨v,e1,e2⟩:=r.at_ j e q
   exact⟨v,e1,Is.mono0 sg e2⟩
 ·rcases zm q with ⟨_,_,e1⟩|⟨hij,q⟩
  ·cases e1
  ·obtain⟨b,ys,e1,e2,e3,e4,e5⟩:=r.ow j fs q
   have hb:b≠a:=fun z=>other j fs (fun z=>hij z.symm) q (z ▸ e1)
   exact⟨b,ys,e1,e2,(zt hb).trans e3,e4,AllIs.mono0 sg e5⟩
 ·rcases zm q1 with ⟨_,_,e1⟩|⟨_,q1⟩
  ·cases e1
  rcases zm q2 with ⟨_,_,e1⟩|⟨_,q2⟩
  ·cases e1
  exact r.ne j k _ _ hjk q1 q2
 ·rcases zm q with ⟨_,_,e1⟩|⟨hij,q⟩
  ·cases e1
  obtain⟨⟨ys',g1,g2,g3,g4,g5⟩,k1,k2⟩:=r.ar j c fs q
  have hc:c≠a:=fun z=>k1 i ds hi (by rw[z];exact ha)
  refine⟨⟨ys',g1,g2,(zt hc).trans g3,g4,AllIs.mono0 sg g5⟩,fun k es' q'=>?_,fun k c' es' q'=>?_⟩
  ·rcases zm q' with ⟨_,_,e1⟩|⟨_,q'⟩
   ·cases e1
   ·exact k1 k es' q'
  ·rcases zm q' with ⟨_,_,e1⟩|⟨hik,q'⟩
   ·cases e1
   exact k2 k c' es' q'
def z_(n:Nat)(ds:List Dt):DS:=ds.map Sl.some++List.replicate (n-ds.length) Sl.none
def Rl.start{N:List Str}{ds:List Dt}{vs:List V}(h:AllIs K W.g ds vs)(hz:Same Z W.h):Rl K Z W.h W (z_ N.length ds) (L2.start N vs):=by
 have hl:=h.length
 have cls:∀(i:Nat)(y:Sl),(z_ N.length ds)[i]? = some y→(∃d,ds[i]? = some d∧y=.some d)∨y=.none:=fun i y e=>by
  unfold z_ at e
  by_cases hi:i<ds.length
  ·rw[BH (by rw[A'];exact hi),Bn]at e
   cases q:ds[i]? with
   | none=>rw[q]at e;cases e
   | some d'=>
    rw[q]at e
    exact .inl ⟨d',rfl,(Option.some.inj e).symm⟩
  ·rw[BD (by rw[A'];omega),List.getElem?_replicate]at e
   split at e
   ·exact .inr (Option.some.inj e).symm
   ·cases e
 refine⟨by unfold L2.start z_;rw[List.length_append,List.length_append,List.length_map,List.length_map,List.length_replicate,List.length_replicate,hl],fun i d e=>?_,fun i es e=>?_,fun i j es fs _ e _=>?_,Same.refl _,hz,fun i a es e=>?_,fun i φ e=>?_⟩
 ·rcases cls i _ e with ⟨d',q,e1⟩|e1
  ·cases e1
   obtain⟨v,h1,h2⟩:=h.get q
   refine⟨v,?_,h2⟩
   have hi:i<ds.length:=by
    rcases BQ i ds.length with h|h
    ·exact h
    ·rw[Bt h]at q;cases q
   unfold L2.start
   rw[BH (by rw[A',←hl];exact hi),Bn,h1]
   rfl
  ·cases e1
 ·rcases cls i _ e with ⟨d',q,e1⟩|e1
  ·cases e1
  ·cases e1
 ·rcases cls i _ e with ⟨d',q,e1⟩|e1
  ·cases e1
  ·cases e1
 ·rcases cls i _ e with ⟨d',q,e1⟩|e1
  ·cases e1
  ·cases e1
 ·rcases cls i _ e with ⟨d',q,e1⟩|e1
  ·cases e1
  ·cases e1
abbrev DTE:=DS→(Dt→Prop)→Prop
abbrev DTT:=DS→(Bool→Prop)→Prop
abbrev DTA:=DS→(List Dt→Prop)→Prop
def LiE(K:A_)(Z:Hp)(te:TE)(t:DTE):Prop:=
 ∀{F:Hp}(ρ:DS)(σ:St)(H:Vw)(Q:Dt→Prop),Rl K Z F H ρ σ→t ρ Q→∀R:VK,(∀d v H',Le H H'→Is K H'.g d v→Q d→R v H'.h)→te σ H.h R
def LiT(K:A_)(Z:Hp)(te:TT)(t:DTT):Prop:=
 ∀{F:Hp}(ρ:DS)(σ:St)(H:Vw)(Q:Bool→Prop),Rl K Z F H ρ σ→t ρ Q→∀R:Bool→Hp→Prop,(∀d H',Le H H'→Q d→R d H'.h)→te σ H.h R
def LiA(K:A_)(Z:Hp)(te:TA)(t:DTA):Prop:=
 ∀{F:Hp}(ρ:DS)(σ:St)(H:Vw)(Q:List Dt→Prop),Rl K Z F H ρ σ→t ρ Q→∀R:List V→Hp→Prop,(∀d v H',Le H H'→AllIs K H'.g d v→Q d→R v H'.h)→te σ H.h R
def DE(X:Cx)(e:Expr)(t:DTE):Prop:=∃te,PE X e te∧LiE X.K (Zx X) te t
def DT(X:Cx)(e:Expr)(t:DTT):Prop:=∃te,PT X e te∧LiT X.K (Zx X) te t
def DW(X:Cx)(e:Expr)(t:DTT):Prop:=∃te,PW X e te∧LiT X.K (Zx X) te t
def DA(X:Cx)(es:List Expr)(t:DTA):Prop:=∃te,PA X es te∧LiA X.K (Zx X) te t
def DW.dt{X:Cx}{e:Expr}{t:DTT}(h:DW X e t):DT X e t:=let⟨te,h1,h2⟩:=h; ⟨te,h1.pt,h2⟩
def OC(i:Nat):DTE:=fun ρ Q=>∃d,ρ[i]? = some (.some d)∧Q d
def dC(d:Dt):DTE:=fun _ Q=>Q d
section
variable{X:Cx}{a b c:Expr}{ta tb:DTE}{pos:Pos}
def dv(i:Nat){x:Str}{pos:Pos}(hN:X.N[i]? = some x:=by rfl)(hv:Vis X.env.scope x:=by walk_at "v")(hd:ug x:=by decide)
  (hcd:we x:=by decide):DE X (.Name x pos) (OC i):=
 ⟨iX i,yj hN hv hd hcd,fun ρ σ H Q r h R k=>by
  obtain⟨d,e,q⟩:=h
  obtain⟨v,h1,h2⟩:=r.at_ i d e
  exact⟨v,h1,k d v H (Le.refl H) h2 q⟩⟩
def lic{v:V}{d:Dt}(h:∀H:Vw,Is K H.g d v):LiE K Z (tC v) (dC d):=fun ρ σ H Q r q R k=>k d v H (Le.refl H) (h H) q
def zg{i j pos}:DE X (.Constant (.int i) j pos) (dC (.int i)):=⟨_,gi,lic fun _=>is_int.mpr rfl⟩
def vE{b j pos}:DE X (.Constant (.bool b) j pos) (dC (.bl b)):=⟨_,Pz,lic fun _=>is_bl.mpr rfl⟩
def QF{j pos}:DE X (.Constant .none j pos) (dC .non):=⟨_,UZ,lic fun _=>is_non.mpr rfl⟩
def zi{x j pos}:DE X (.Constant (.str x) j pos) (dC (.str x)):=⟨_,UW,lic fun _=>is_str.mpr rfl⟩
def DOp(X:Cx)(f:Value→Value→Sem Value)(g:Dt→Dt→(Dt→Prop)→Prop):Prop:=
 ∃r,OpR X f r∧∀(H:Vw)(x y:V)(d e:Dt)(Q:Dt→Prop),Is X.K H.g d x→Is X.K H.g e y→g d e Q→∀R:VK,(∀d v H',Le H H'→Is X.K H'.g d v→Q d→R v H'.h)→r x y H.h R
def dOp(g:Dt→Dt→(Dt→Prop)→Prop)(ta tb:DTE):DTE:=fun ρ Q=>ta ρ fun d=>tb ρ fun e=>g d e Q
theorem WP{te tf:TE}{r:R2}{g:Dt→Dt→(Dt→Prop)→Prop}(ha:LiE K Z te ta)(hb:LiE K Z tf tb)
  (hg:∀(H:Vw)(x y:V)(d e:Dt)(Q:Dt→Prop),Is K H.g d x→Is K H.g e y→g d e Q→∀R:VK,(∀d v H',Le H H'→Is K H'.g d v→Q d→R v H'.h)→r x y H.h R):LiE K Z (tOp r te tf) (dOp g ta tb):=
 fun ρ σ H Q rl h R k=>ha ρ σ H _ rl h _ fun d v H1 s1 i1 q1=>hb ρ σ H1 _ (rl.mono s1) q1 _ fun e u H2 s2 i2 q2=>
  hg H2 v u d e Q (i1.mono s2) i2 q2 R fun d' v' H3 s3 i3 q3=>k d' v' H3 ((s1.trans s2).trans s3) i3 q3
def zp{op:Operator}{g:Dt→Dt→(Dt→Prop)→Prop}(ho:DOp X (binaryOp op) g)(ha:DE X a ta)(hb:DE X b tb):DE X (.BinOp a op b pos) (dOp g ta tb):=by
 obtain⟨r,h1,h2⟩:=ho
 obtain⟨te,p1,l1⟩:=ha
 obtain⟨tf,p2,l2⟩:=hb
 exact⟨_,gf h1 p1 p2,WP l1 l2 h2⟩
def u6{op:CmpOp}{g:Dt→Dt→(Dt→Prop)→Prop}(ho:DOp X (compareOp op) g)(ha:DE X a ta)(hb:DE X b tb)(hm:behindInMarks op b=false):DE X (.Compare a [op] [b] pos) (dOp g ta tb):=by
 obtain⟨r,h1,h2⟩:=ho
 obtain⟨te,p1,l1⟩:=ha
 obtain⟨tf,p2,l2⟩:=hb
 exact⟨_,bV h1 p1 p2 hm,WP l1 l2 h2⟩
def mm(t:DTE):DTT:=fun ρ Q=>t ρ fun d=>∃k,d=.bl k∧Q k
def lJ{te:TE}{t:DTE}(h:LiE K Z te t):LiT K Z (VP te) (mm t):=fun ρ σ H Q r q R k=>
 h ρ σ H _ r q _ fun d v H1 s1 i1 ⟨b,e,qb⟩=>by
  subst e
  exact⟨b,is_bl.mp i1,k b H1 s1 qb⟩
def zu{op:CmpOp}{g:Dt→Dt→(Dt→Prop)→Prop}(ho:DOp X (compareOp op) g)(ha:DE X a ta)(hb:DE X b tb)(hm:behindInMarks op b=false):DT X (.Compare a [op] [b] pos) (mm (dOp g ta tb)):=by
 obtain⟨r,h1,h2⟩:=ho
 obtain⟨te,p1,l1⟩:=ha
 obtain⟨tf,p2,l2⟩:=hb
 exact⟨_,bL h1 p1 p2 hm,lJ (WP l1 l2 h2)⟩
def zW{e:Expr}{t:DTE}(h:DE X e t)(he:∀whole,isTrue e X.env whole=(do let v ←whole;standAt e.pos;holding [v] (truthy v)):=by intro _;rfl):DT X e (mm t):=by
 obtain⟨te,p,l⟩:=h
 exact⟨_,UL p he,lJ l⟩
variable{tA tB:DTT}{yG:List Expr}
def Ng(t u:DTT):DTT:=fun ρ Q=>t ρ fun c=>if c=true then u ρ Q else Q false
def dOr(t u:DTT):DTT:=fun ρ Q=>t ρ fun c=>if c=true then Q true else u ρ Q
def MS(t:DTT):DTT:=fun ρ Q=>t ρ fun c=>Q (!c)
def yM(ha:DT X a tA):DW X (.BoolOp .And [a] pos) tA:=let⟨_,p,l⟩:=ha; ⟨_,bJ p,l⟩
def rO(ha:DT X a tA):DW X (.BoolOp .Or [a] pos) tA:=let⟨_,p,l⟩:=ha; ⟨_,UJ p,l⟩
def y6(ha:DT X a tA)(hb:DW X (.BoolOp .And (b::yG) pos) tB):DW X (.BoolOp .And (a::b::yG) pos) (Ng tA tB):=by
 obtain⟨te,p1,l1⟩:=ha
 obtain⟨tf,p2,l2⟩:=hb
 refine⟨_,UK p1 p2,fun ρ σ H Q r h R k=>l1 ρ σ H _ r h _ fun c H1 s1 q1=>?_⟩
 cases c with
 | true=>exact l2 ρ σ H1 Q (r.mono s1) q1 R fun d H2 s2 q2=>k d H2 (s1.trans s2) q2
 | false=>exact k _ H1 s1 q1
def rP(ha:DT X a tA)(hb:DW X (.BoolOp .Or (b::yG) pos) tB):DW X (.BoolOp .Or (a::b::yG) pos) (dOr tA tB):=by
 obtain⟨te,p1,l1⟩:=ha
 obtain⟨tf,p2,l2⟩:=hb
 refine⟨_,Pw p1 p2,fun ρ σ H Q r h R k=>l1 ρ σ H _ r h _ fun c H1 s1 q1=>?_⟩
 cases c with
 | false=>exact l2 ρ σ H1 Q (r.mono s1) q1 R fun d H2 s2 q2=>k d H2 (s1.trans s2) q2
 | true=>exact k _ H1 s1 q1
def wB(ha:DT X a tA):DT X (.UnaryOp .Not a pos) (MS tA):=by
 obtain⟨te,p1,l1⟩:=ha
 exact⟨_,UM p1,fun ρ σ H Q r h R k=>l1 ρ σ H _ r h _ fun c H1 s1 q1=>k _ H1 s1 q1⟩
def Nf(ta tb:DTE):DTE:=fun ρ Q=>ta ρ fun d=>∃c,d=.bl c∧if c=true then tb ρ Q else Q (.bl false)
def OL(ta:DTE):DTE:=fun ρ Q=>ta ρ fun d=>∃c,d=.bl c∧Q (.bl (!c))
def oK{op}{t:DTE}(h:DE X a t):DE X (.BoolOp op [a] pos) t:=let⟨_,p,l⟩:=h; ⟨_,UX p,l⟩
def u7(ha:DE X a ta)(hb:DE X (.BoolOp .And (b::yG) pos) tb):DE X (.BoolOp .And (a::b::yG) pos) (Nf ta tb):=by
 obtain⟨te,p1,l1⟩:=ha
 obtain⟨tf,p2,l2⟩:=hb
 refine⟨_,Tc p1 p2,fun ρ σ H Q r h R k=>l1 ρ σ H _ r h _ fun d v H1 s1 i1 zz=>?_⟩
 obtain⟨c,e,q1⟩:=zz
 subst e
 refine⟨c,is_bl.mp i1,?_⟩
 cases c with
 | true=>exact l2 ρ σ H1 Q (r.mono s1) q1 R fun d v H2 s2 i2 q2=>k d v H2 (s1.trans s2) i2 q2
 | false=>exact k _ _ H1 s1 (is_bl.mpr rfl) q1
def cH(ha:DE X a ta):DE X (.UnaryOp .Not a pos) (OL ta):=by
 obtain⟨te,p1,l1⟩:=ha
 refine⟨_,UY p1,fun ρ σ H Q r h R k=>l1 ρ σ H _ r h _ fun d v H1 s1 i1 zz=>?_⟩
 obtain⟨c,e,q1⟩:=zz
 subst e
 exact⟨c,is_bl.mp i1,k _ _ H1 s1 (is_bl.mpr rfl) q1⟩
def dIf(t:DTT)(ta tb:DTE):DTE:=fun ρ Q=>t ρ fun c=>if c=true then ta ρ Q else tb ρ Q
def mj{c:Expr}(hc:DT X c tA)(ha:DE X a ta)(hb:DE X b tb):DE X (.IfExp c a b pos) (dIf tA ta tb):=by
 obtain⟨tt,p0,l0⟩:=hc
 obtain⟨te,p1,l1⟩:=ha
 obtain⟨tf,p2,l2⟩:=hb
 refine⟨_,gj p0 p1 p2,fun ρ σ H Q r h R k=>l0 ρ σ H _ r h _ fun c H1 s1 q1=>?_⟩
 cases c with
 | true=>exact l1 ρ σ H1 Q (r.mono s1) q1 R fun d v H2 s2 i2 q2=>k d v H2 (s1.trans s2) i2 q2
 | false=>exact l2 ρ σ H1 Q (r.mono s1) q1 R fun d v H2 s2 i2 q2=>k d v H2 (s1.trans s2) i2 q2
end
section
variable{X:Cx}{a b c:Expr}{ta tb:DTE}{pos:Pos}
def gI(g:Int→Int→Dt):Dt→Dt→(Dt→Prop)→Prop:=fun d e Q=>∃i j,d=.int i∧e=.int j∧Q (g i j)
def gIC(C:Int→Int→Prop)(g:Int→Int→Dt):Dt→Dt→(Dt→Prop)→Prop:=fun d e Q=>∃i j,d=.int i∧e=.int j∧C i j∧Q (g i j)
def cB{f:Value→Value→Sem Value}{g:Int→Int→Int}(h:OpR X f (rI0 fun i j=>.int (g i j))):DOp X f (gI fun i j=>.int (g i j)):=by
 refine⟨_,h,fun H x y d e Q i1 i2 q R k=>?_⟩
 obtain⟨i,j,rfl,rfl,q⟩:=q
 exact⟨i,j,is_int.mp i1,is_int.mp i2,k _ _ H (Le.refl H) (is_int.mpr rfl) q⟩
def lV{f:Value→Value→Sem Value}{g:Int→Int→Bool}(h:OpR X f (rI0 fun i j=>.bl (g i j))):DOp X f (gI fun i j=>.bl (g i j)):=by
 refine⟨_,h,fun H x y d e Q i1 i2 q R k=>?_⟩
 obtain⟨i,j,rfl,rfl,q⟩:=q
 exact⟨i,j,is_int.mp i1,is_int.mp i2,k _ _ H (Le.refl H) (is_bl.mpr rfl) q⟩
def oG{f:Value→Value→Sem Value}{C:Int→Int→Prop}{g:Int→Int→Int}(h:OpR X f (rI C fun i j=>.int (g i j))):DOp X f (gIC C fun i j=>.int (g i j)):=by
 refine⟨_,h,fun H x y d e Q i1 i2 q R k=>?_⟩
 obtain⟨i,j,rfl,rfl,hc,q⟩:=q
 exact⟨i,j,is_int.mp i1,is_int.mp i2,hc,k _ _ H (Le.refl H) (is_int.mpr rfl) q⟩
def b_:OpR X (binaryOp .Mult) (rI IntMulOk fun i j=>.int (i*j)):=opI fun _ _ _ _ _ _ _ hc q=>mul_int q hc
def yY:DOp X (binaryOp .Add) (gI fun i j=>.int (i+j)):=cB Tk
def yC:DOp X (binaryOp .Sub) (gI fun i j=>.int (i-j)):=cB Th
def tu:DOp X (binaryOp .Mult) (gIC IntMulOk fun i j=>.int (i*j)):=oG b_
def uR:DOp X (binaryOp .FloorDiv) (gIC bo fun i j=>.int (i.fdiv j)):=oG gp
def bn(_ j:Int):Prop:=j≠0
def xB:DOp X (binaryOp .Mod) (gIC bn fun i j=>.int (i.fmod j)):=oG (C:=bn) ac
def Ug{c n:Int}(h:(n != 0&&decide (n.natAbs<1073741824))=true):bo c n:=by
 rw[Bb,bne_iff_ne,decide_eq_true_iff]at h
 exact h
def ph{c n:Int}(h:(n != 0)=true):bn c n:=bne_iff_ne.mp h
def Ue{c n:Int}(h:(decide (0≤n)&&(decide (n≤1000000)&&decide (c.natAbs<18446744073709551616)))=true):Q8 c n:=by
 rw[Bb,Bb,decide_eq_true_iff,decide_eq_true_iff,decide_eq_true_iff]at h
 exact h
def Oi{c n:Int}(h:decide (n.natAbs<9223372036854775808)=true):IntMulOk c n:=by
 rw[decide_eq_true_iff]at h
 exact .of_right (intBits_le_64 (by omega) (by omega))
def Qf{c n:Int}(h:decide (n.natAbs<9223372036854775808)=true):IntMulOk n c:=by
 rw[decide_eq_true_iff]at h
 exact .of_left (intBits_le_64 (by omega) (by omega))
def ky:DOp X (binaryOp .Pow) (gIC Q8 fun i j=>.int (i^j.toNat)):=oG Tj
def rp:DOp X (compareOp .Lt) (gI fun i j=>.bl (decide (i<j))):=lV PF
def rq:DOp X (compareOp .Gt) (gI fun i j=>.bl (decide (j<i))):=lV PH
def gA:DOp X (compareOp .GtE) (gI fun i j=>.bl (decide (j≤i))):=lV PK
def ON(ta:DTE):DTE:=fun ρ Q=>ta ρ fun d=>∃i,d=.int i∧Q (.int (-i))
def y7(ha:DE X a ta):DE X (.UnaryOp .USub a pos) (ON ta):=by
 obtain⟨te,p1,l1⟩:=ha
 refine⟨_,Py Uv p1,fun ρ σ H Q r h R k=>l1 ρ σ H _ r h _ fun d v H1 s1 i1 zz=>?_⟩
 obtain⟨i,e,q1⟩:=zz
 subst e
 exact⟨i,is_int.mp i1,k _ _ H1 s1 (is_int.mpr rfl) q1⟩
def y8:DOp X (binaryOp .Add) (fun d e Q=>∃ds es,d=.lst ds∧e=.lst es∧ds.length+es.length≤100000∧Q (.lst (ds++es))):=by
 refine⟨_,gq,fun H x y d e Q i1 i2 q R k=>?_⟩
 obtain⟨ds,es,rfl,rfl,hl,q⟩:=q
 obtain⟨l,xs,rfl,h1,a1⟩:=is_lst.mp i1
 obtain⟨m,ys,rfl,h2,a2⟩:=is_lst.mp i2
 refine⟨l,m,xs,ys,rfl,rfl,H.sub _ _ h1,H.sub _ _ h2,by rw[←a1.length,←a2.length];exact Br hl (by decide),fun p hp=>?_⟩
 have s:=xX hp (.lst (xs++ys))
 exact k _ _ _ s (is_lst.mpr ⟨p,_,rfl,zr,(a1.mono s).append (a2.mono s)⟩) q
def MT:DTA:=fun _ Q=>Q []
def O9(te:DTE)(t:DTA):DTA:=fun ρ Q=>te ρ fun d=>t ρ fun ds=>Q (d::ds)
variable{es:List Expr}{t:DTA}
def ze:DA X [] MT:=⟨_,zS,fun ρ σ H Q r h R k=>k [] [] H (Le.refl H) (allIs_nil.mpr rfl) h⟩
def zb(ha:DE X a ta)(hr:DA X es t)(hs:J' X.env a es:=by rfl):DA X (a::es) (O9 ta t):=by
 obtain⟨te,p1,l1⟩:=ha
 obtain⟨tf,p2,l2⟩:=hr
 exact⟨_,zB p1 p2 hs,fun ρ σ H Q r h R k=>l1 ρ σ H _ r h _ fun d v H1 s1 i1 q1=>l2 ρ σ H1 _ (r.mono s1) q1 _ fun ds vs H2 s2 i2 q2=>
  k (d::ds) (v::vs) H2 (s1.trans s2) (allIs_cons.mpr ⟨v,vs,rfl,i1.mono s2,i2⟩) q2⟩
def ML(t:DTA):DTE:=fun ρ Q=>t ρ fun ds=>Nat.ble ds.length 1000=true∧Q (.tup ds)
def OP(t:DTA):DTE:=fun ρ Q=>t ρ fun ds=>Nat.ble ds.length 1000=true∧Q (.lst ds)
def zO{x1}(h:DA X es t):DE X (.Tuple es x1 pos) (ML t):=by
 obtain⟨te,p1,l1⟩:=h
 refine⟨_,pZ p1,fun ρ σ H Q r h R k=>l1 ρ σ H _ r h _ fun ds vs H1 s1 i1 ⟨hl,q1⟩=>⟨?_,fun p hp=>?_⟩⟩
 ·rw[←i1.length];exact Br (Bf hl) (by decide)
 ·have s:=xX hp (.tup vs)
  exact k _ _ _ (s1.trans s) (is_tup.mpr ⟨p,vs,rfl,zr,i1.mono s⟩) q1
def zG(h:DA X es t):DE X (.List es pos) (OP t):=by
 obtain⟨te,p1,l1⟩:=h
 refine⟨_,gg p1,fun ρ σ H Q r h R k=>l1 ρ σ H _ r h _ fun ds vs H1 s1 i1 ⟨hl,q1⟩=>⟨?_,fun p hp=>?_⟩⟩
 ·rw[←i1.length];exact Br (Bf hl) (by decide)
 ·have s:=xX hp (.lst vs)
  exact k _ _ _ (s1.trans s) (is_lst.mpr ⟨p,vs,rfl,zr,i1.mono s⟩) q1
def nh:Dt→Option (List Dt)
 | .tup ds=>some ds
 | .lst ds=>some ds
 | .scr ns=>some (ns.map .int)
 | _=>none
def pL{H:Vw}{d:Dt}{v:V}{ds:List Dt}(h:Is K H.g d v)(e:nh d=some ds):∃a xs,v=.ref a∧(SqL K H.h a xs∨SqT K H.h a xs)∧AllIs K H.g ds xs:=by
 cases d with
 | tup es=>
  obtain rfl:es=ds:=Option.some.inj e
  obtain⟨a,xs,rfl,h1,h2⟩:=is_tup.mp h
  exact⟨a,xs,rfl,.inr (.of (H.sub _ _ h1)),h2⟩
 | lst es=>
  obtain rfl:es=ds:=Option.some.inj e
  obtain⟨a,xs,rfl,h1,h2⟩:=is_lst.mp h
  exact⟨a,xs,rfl,.inl (.of (H.sub _ _ h1)),h2⟩
 | scr ns=>
  obtain rfl:ns.map Dt.int=ds:=Option.some.inj e
  obtain⟨a,rfl,h1⟩:=is_scr.mp h
  exact⟨a,_,rfl,.inl (H.sub.seq h1),AllIs.ints⟩
 | _=>cases e
def dIx(ta tb:DTE):DTE:=fun ρ Q=>ta ρ fun d=>tb ρ fun e=>∃ds i d',nh d=some ds∧e=.int i∧atI ds i=some d'∧Q d'
def zC(ha:DE X a ta)(hb:DE X b tb)(hs:sI b):DE X (.Subscript a b pos) (dIx ta tb):=by
 obtain⟨te,p1,l1⟩:=ha
 obtain⟨tf,p2,l2⟩:=hb
 refine⟨_,gh dR p1 p2 hs,fun ρ σ H Q r h R k=>l1 ρ σ H _ r h _ fun d v H1 s1 i1 q1=>l2 ρ σ H1 _ (r.mono s1) q1 _ fun e u H2 s2 i2 q2=>?_⟩
 obtain⟨ds,i,d',e1,e2,e3,q⟩:=q2
 subst e2
 obtain⟨p,xs,e4,h1,h2⟩:=pL (i1.mono s2) e1
 obtain⟨w,e5,h3⟩:=h2.atI e3
 rcases h1 with h1|h1
 ·exact .inl ⟨p,xs,i,w,e4,is_int.mp i2,h1,e5,k d' w H2 (s1.trans s2) h3 q⟩
 ·exact .inr (.inl ⟨p,xs,i,w,e4,is_int.mp i2,h1,e5,k d' w H2 (s1.trans s2) h3 q⟩)
def OU(t:DTE):DTE:=fun ρ Q=>t ρ fun d=>∃ds,nh d=some ds∧Q (.int ds.length)
def yq{p:Pos}(hg:Gl X "len")(hm:X.mg "len"=none)(ha:DE X a ta)(hs:starEach [a] X.env=(false,eval a X.env)::starEach [] X.env:=by rfl)(hpl:K' X.env pos []:=by rfl):
  DE X (.Call (.Name "len" p) [a] [] pos) (OU ta):=by
 obtain⟨te,p1,l1⟩:=ha
 refine⟨_,yx wE hg hm PySem.boot_len (zB p1 zS hs) (by decide) (by decide) hs hpl,fun ρ σ H Q r h R k=>l1 ρ σ H _ r h _ fun d v H1 s1 i1 zz=>?_⟩
 obtain⟨ds,e,q⟩:=zz
 obtain⟨a,xs,rfl,h1,h2⟩:=pL i1 e
 exact⟨a,xs,rfl,h1,by rw[←h2.length];exact k _ _ H1 s1 (is_int.mpr rfl) q⟩
def Vr(xs:List Dt)(lo hi:Option Int):List Dt:=(xs.drop (HT.sIx xs.length 0 lo)).take (HT.sIx xs.length xs.length hi-HT.sIx xs.length 0 lo)
def AllIs.cut{G:Hp}{ds:List Dt}{xs:List V}(h:AllIs K G ds xs)(lo hi:Option Int):AllIs K G (Vr ds lo hi) (lZ xs lo hi):=by
 unfold Vr lZ
 rw[←h.length]
 exact(h.drop _).take _
abbrev DTO:=DS→(Option Int→Prop)→Prop
def DO(X:Cx)(e:Option Expr)(t:DTO):Prop:=∃te,PO X e te∧∀{F:Hp}(ρ:DS)(σ:St)(H:Vw)(Q:Option Int→Prop),Rl X.K (Zx X) F H ρ σ→t ρ Q→∀R:Option Int→Hp→Prop,(∀o H',Le H H'→Q o→R o H'.h)→te σ H.h R
def Vp:DTO:=fun _ Q=>Q none
def OK(t:DTE):DTO:=fun ρ Q=>t ρ fun d=>∃i,d=.int i∧Q (some i)
def oI:DO X none Vp:=⟨_,bP,fun ρ σ H Q r h R k=>k none H (Le.refl H) h⟩
def oH(ha:DE X a ta):DO X (some a) (OK ta):=by
 obtain⟨te,p1,l1⟩:=ha
 refine⟨_,bO p1,fun ρ σ H Q r h R k=>l1 ρ σ H _ r h _ fun d v H1 s1 i1 zz=>?_⟩
 obtain⟨i,e,q⟩:=zz
 subst e
 exact⟨i,is_int.mp i1,k _ H1 s1 q⟩
def yK:Dt→Option (List Dt)
 | .lst ds=>some ds
 | .scr ns=>some (ns.map .int)
 | _=>none
def ox{H:Vw}{d:Dt}{v:V}{ds:List Dt}(h:Is K H.g d v)(e:yK d=some ds):∃a xs,v=.ref a∧SqL K H.h a xs∧AllIs K H.g ds xs:=by
 cases d with
 | lst es=>
  obtain rfl:es=ds:=Option.some.inj e
  obtain⟨a,xs,rfl,h1,h2⟩:=is_lst.mp h
  exact⟨a,xs,rfl,.of (H.sub _ _ h1),h2⟩
 | scr ns=>
  obtain rfl:ns.map Dt.int=ds:=Option.some.inj e
  obtain⟨a,rfl,h1⟩:=is_scr.mp h
  exact⟨a,_,rfl,H.sub.seq h1,AllIs.ints⟩
 | _=>cases e
def dSl(te:DTE)(tl th:DTO):DTE:=fun ρ Q=>te ρ fun d=>tl ρ fun l=>th ρ fun u=>∃ds,yK d=some ds∧Q (.lst (Vr ds l u))
def cG{lo hi:Option Expr}{tl th:DTO}{p2:Pos}(ha:DE X a ta)(hl:DO X lo tl)(hu:DO X hi th):DE X (.Subscript a (.Slice lo hi none p2) pos) (dSl ta tl th):=by
 obtain⟨te,p1,l1⟩:=ha
 obtain⟨tf,p2,l2⟩:=hl
 obtain⟨tg,p3,l3⟩:=hu
 refine⟨_,nE bB p1 p2 p3,fun ρ σ H Q r h R k=>l1 ρ σ H _ r h _ fun d v H1 s1 i1 q1=>l2 ρ σ H1 _ (r.mono s1) q1 _ fun l H2 s2 q2=>l3 ρ σ H2 _ (r.mono (s1.trans s2)) q2 _ fun u H3 s3 zz=>?_⟩
 obtain⟨ds,e,q⟩:=zz
 obtain⟨a,xs,rfl,h1,h2⟩:=ox (i1.mono (s2.trans s3)) e
 refine⟨a,xs,rfl,h1,fun p hp=>?_⟩
 have s:=xX hp (.lst (lZ xs l u))
 exact k _ _ _ (((s1.trans s2).trans s3).trans s) (is_lst.mpr ⟨p,_,rfl,zr,(h2.cut l u).mono s⟩) q
end
def LiF(K:A_)(Z:Hp)(te:TE)(t:DTE):Prop:=
 ∀{F:Hp}(ρ:DS)(σ:St)(H:Vw)(Q:Dt→Prop),Rl K Z F H ρ σ→t ρ Q→∀R:VK,
  (∀es p xs H',Le H H'→H.h p=none→H'.h p=some (.lst xs)→H'.g p=none→AllIs K H'.g es xs→Q (.lst es)→R (.ref p) H'.h)→te σ H.h R
def DF(X:Cx)(e:Expr)(t:DTE):Prop:=∃te,PE X e te∧LiF X.K (Zx X) te t
def rE{H H':Vw}{p:Addr}{o:HO}(s:Le H H')(h0:H.h p=none)(h1:H'.h p=some o)(h2:H'.g p=none):Le H (H'.frz p o h1):=
 ⟨s.g.trans (zX h2 o),s.h,fun a z1 z2=>by
  have:a≠p:=fun e=>z1 (e ▸ h0)
  show upd H'.g p o a=none
  rw[zt this];exact s.n a z1 z2⟩
section
variable{X:Cx}{a b e:Expr}{ta tb:DTE}{t:DTA}{pos p0 p1 p2:Pos}{es:List Expr}
def DF.de{t:DTE}(h:DF X e t):DE X e t:=by
 obtain⟨te,p,l⟩:=h
 exact⟨te,p,fun ρ σ H Q r h R k=>l ρ σ H Q r h R fun es q xs H' s h0 h1 h2 i z=>k (.lst es) (.ref q) (H'.frz q _ h1) (rE s h0 h1 h2) (is_lst.mpr ⟨q,xs,rfl,zr,AllIs.mono0 (zX h2 _) i⟩) z⟩
def w9(h:DA X es t):DF X (.List es pos) (OP t):=by
 obtain⟨te,p1,l1⟩:=h
 refine⟨_,gg p1,fun ρ σ H Q r h R k=>l1 ρ σ H _ r h _ fun ds vs H1 s1 i1 ⟨hl,q1⟩=>⟨?_,fun p hp=>?_⟩⟩
 ·rw[←i1.length];exact Br (Bf hl) (by decide)
 ·exact k ds p vs (H1.mine p (.lst vs) (H1.sub.free hp)) (s1.trans (ud hp _)) (s1.h.free hp) zr (H1.sub.free hp) i1 q1
def MH:Dt→Dt→(Dt→Prop)→Prop:=fun d e Q=>∃ds es,d=.lst ds∧e=.lst es∧ds.length+es.length≤100000∧Q (.lst (ds++es))
def u5(ha:DE X a ta)(hb:DE X b tb):DF X (.BinOp a .Add b pos) (dOp MH ta tb):=by
 obtain⟨te,p1,l1⟩:=ha
 obtain⟨tf,p2,l2⟩:=hb
 refine⟨_,gf gq p1 p2,fun ρ σ H Q r h R k=>l1 ρ σ H _ r h _ fun d v H1 s1 i1 q1=>l2 ρ σ H1 _ (r.mono s1) q1 _ fun e u H2 s2 i2 q2=>?_⟩
 obtain⟨ds,es,rfl,rfl,hl,q⟩:=q2
 obtain⟨l,xs,rfl,h1,a1⟩:=is_lst.mp (i1.mono s2)
 obtain⟨m,ys,rfl,h2,a2⟩:=is_lst.mp i2
 refine⟨l,m,xs,ys,rfl,rfl,H2.sub _ _ h1,H2.sub _ _ h2,by rw[←a1.length,←a2.length];exact Br hl (by decide),fun p hp=>?_⟩
 exact k (ds++es) p (xs++ys) (H2.mine p _ (H2.sub.free hp)) ((s1.trans s2).trans (ud hp _)) ((s1.trans s2).h.free hp) zr (H2.sub.free hp) (a1.append a2) q
theorem AllIs.rep{G:Hp}{ds:List Dt}{xs:List V}(h:AllIs K G ds xs):∀k:Nat,AllIs K G (List.replicate k ds).flatten (List.replicate k xs).flatten
 | 0=>allIs_nil.mpr rfl
 | k+1=>by
  rw[BP,BP,BS,BS]
  exact h.append (h.rep k)
def MF:Dt→Dt→(Dt→Prop)→Prop:=fun d e Q=>∃ds k,d=.lst ds∧e=.int k∧-16000000≤k∧k≤16000000∧ds.length*k.toNat≤16000000∧Q (.lst (List.replicate k.toNat ds).flatten)
def QE(ha:DE X a ta)(hb:DE X b tb):DF X (.BinOp a .Mult b pos) (dOp MF ta tb):=by
 obtain⟨te,p1,l1⟩:=ha
 obtain⟨tf,p2,l2⟩:=hb
 refine⟨_,gf Ti p1 p2,fun ρ σ H Q r h R k=>l1 ρ σ H _ r h _ fun d v H1 s1 i1 q1=>l2 ρ σ H1 _ (r.mono s1) q1 _ fun e u H2 s2 i2 q2=>?_⟩
 obtain⟨ds,n,rfl,rfl,hn1,hn2,hl,q⟩:=q2
 obtain⟨l,xs,rfl,h1,a1⟩:=is_lst.mp (i1.mono s2)
 refine⟨l,n,xs,rfl,is_int.mp i2,H2.sub _ _ h1,by omega,by omega,by rw[←a1.length];exact Br hl (by decide),fun p hp=>?_⟩
 exact k _ p _ (H2.mine p _ (H2.sub.free hp)) ((s1.trans s2).trans (ud hp _)) ((s1.trans s2).h.free hp) zr (H2.sub.free hp) (a1.rep _) q
def OQ(ta:DTE):DTE:=fun ρ Q=>ta ρ fun d=>∃ds,nh d=some ds∧Q (.lst ds)
def oJ(hg:Gl X "list")(hm:X.mg "list"=none)(ha:DE X a ta)(hs:starEach [a] X.env=(false,eval a X.env)::starEach [] X.env:=by rfl)(hpl:K' X.env pos []:=by rfl):
  DF X (.Call (.Name "list" p0) [a] [] pos) (OQ ta):=by
 obtain⟨te,p1,l1⟩:=ha
 refine⟨_,uL oP hg hm PyProof.Rows.boot_list (zB p1 zS hs) (by decide) (by decide) hs hpl,fun ρ σ H Q r h R k=>l1 ρ σ H _ r h _ fun d v H1 s1 i1 zz=>?_⟩
 obtain⟨ds,e,q⟩:=zz
 obtain⟨a,xs,rfl,h1,h2⟩:=pL i1 e
 exact⟨a,xs,rfl,h1,fun p hp=>k _ p _ (H1.mine p _ (H1.sub.free hp)) (s1.trans (ud hp _)) (s1.h.free hp) zr (H1.sub.free hp) h2 q⟩
variable{i:Nat}{x:Str}
def OS(i:Nat):DTE:=fun ρ Q=>∃ds,ρ[i]? = some (.own ds)∧Q (.int ds.length)
def uo(i:Nat)(hg:Gl X "len")(hm:X.mg "len"=none)(hN:X.N[i]? = some x:=by rfl)(hv:Vis X.env.scope x:=by walk_at "v")(hd:ug x:=by decide)
  (hcd:we x:=by decide) (hs:starEach [.Name x p1] X.env=(false,eval (.Name x p1) X.env)::starEach [] X.env:=by rfl) (hpl:K' X.env pos []:=by rfl):
  DE X (.Call (.Name "len" p0) [.Name x p1] [] pos) (OS i):=by
 refine⟨_,yx wE hg hm PySem.boot_len (zB (yj hN hv hd hcd) zS hs) (by decide) (by decide) hs hpl,fun ρ σ H Q r h R k=>?_⟩
 obtain⟨ds,e,q⟩:=h
 obtain⟨a,xs,e1,e2,e3,e4,e5⟩:=r.ow i ds e
 exact⟨.ref a,e1,a,xs,rfl,.inl (.of e2),by rw[←e5.length];exact k _ _ H (Le.refl H) (is_int.mpr rfl) q⟩
def OW(i:Nat)(tb:DTE):DTE:=fun ρ Q=>∃ds,ρ[i]? = some (.own ds)∧tb ρ fun e=>∃k d,e=.int k∧atI ds k=some d∧Q d
def cK(i:Nat)(hb:DE X b tb)(hs:sI b)(hN:X.N[i]? = some x:=by rfl)(hv:Vis X.env.scope x:=by walk_at "v")(hd:ug x:=by decide)
  (hcd:we x:=by decide):DE X (.Subscript (.Name x p1) b pos) (OW i tb):=by
 obtain⟨tf,p2,l2⟩:=hb
 refine⟨_,gh ix_list (yj hN hv hd hcd) p2 hs,fun ρ σ H Q r h R k=>?_⟩
 obtain⟨ds,e,h⟩:=h
 obtain⟨a,xs,e1,e2,e3,e4,e5⟩:=r.ow i ds e
 refine⟨.ref a,e1,l2 ρ σ H _ r h _ fun e u H2 s2 i2 zz=>?_⟩
 obtain⟨n,d,en,ed,q⟩:=zz
 subst en
 obtain⟨v,ev,iv⟩:=e5.atI ed
 exact⟨a,xs,n,v,rfl,is_int.mp i2,.of (s2.h _ _ e2),ev,k d v H2 s2 (iv.mono s2) q⟩
def Ub(i:Nat):DTT:=fun ρ Q=>∃ds,ρ[i]? = some (.own ds)∧Q (!ds.isEmpty)
def tH{G:Hp}{ds:List Dt}{xs:List V}(h:AllIs K G ds xs):(!xs.isEmpty)=!ds.isEmpty:=by
 cases ds with
 | nil=>rw[allIs_nil.mp h];rfl
 | cons d ds=>obtain⟨x,r,rfl,_⟩:=allIs_cons.mp h;rfl
def W8(i:Nat)(hN:X.N[i]? = some x:=by rfl)(hv:Vis X.env.scope x:=by walk_at "v")(hd:ug x:=by decide)
  (hcd:we x:=by decide) (he:∀whole,isTrue (.Name x p1) X.env whole=(do let v ←whole;standAt (Expr.Name x p1).pos;holding [v] (truthy v)):=by intro _;rfl):DT X (.Name x p1) (Ub i):=by
 refine⟨_,nw (yj hN hv hd hcd) he,fun ρ σ H Q r h R k=>?_⟩
 obtain⟨ds,e,q⟩:=h
 obtain⟨a,xs,e1,e2,e3,e4,e5⟩:=r.ow i ds e
 exact⟨.ref a,e1,!ds.isEmpty,.inl ⟨xs,.of e2,(tH e5).symm⟩,k _ H (Le.refl H) q⟩
def MM(ta:DTE):DTT:=fun ρ Q=>ta ρ fun d=>∃ds,yK d=some ds∧Q (!ds.isEmpty)
def cm(ha:DE X a ta)(he:∀whole,isTrue a X.env whole=(do let v ←whole;standAt a.pos;holding [v] (truthy v)):=by intro _;rfl):DT X a (MM ta):=by
 obtain⟨te,p1,l1⟩:=ha
 refine⟨_,nw p1 he,fun ρ σ H Q r h R k=>l1 ρ σ H _ r h _ fun d v H1 s1 i1 zz=>?_⟩
 obtain⟨ds,e,q⟩:=zz
 obtain⟨a,xs,rfl,h1,h2⟩:=ox i1 e
 exact⟨!ds.isEmpty,.inl ⟨xs,h1,(tH h2).symm⟩,k _ H1 s1 q⟩
def fz:Sl→Sl
 | .own ds=>.some (.lst ds)
 | .arg _ ds=>.some (.lst ds)
 | .obj _=>.none
 | s=>s
open Classical in
def Rl.bor{ρ:DS}{σ:St}(r:Rl K Z F W ρ σ):∃W':Vw,W'.h=W.h∧Same W.g W'.g∧Rl K Z F W' (ρ.map fz) σ∧∀a o,W'.g a=some o→W.g a=some o∨∃xs,o=.lst xs:=by
 let ow:Addr→Prop:=fun a=>∃(i:Nat)(ds:List Dt),(ρ[i]? = some (Sl.own ds)∧σ[i]? = some (some (V.ref a)))∨ρ[i]? = some (Sl.arg a ds)
 have own_at:∀a,ow a→W.g a=none:=fun a ⟨i,ds,h⟩=>by
  rcases h with ⟨e,ea⟩|e
  ·obtain⟨b,xs,e1,_,e3,_⟩:=r.ow i ds e
   rw[ea]at e1
   cases e1
   exact e3
  ·exact(r.ar i a ds e).1.choose_spec.2.2.1
 let g:Hp:=fun a=>if ow a then W.h a else W.g a
 have gs:Same W.g g:=fun b o q=>by
  show(if ow b then W.h b else W.g b)=some o
  by_cases hb:ow b
  ·rw[own_at b hb]at q;cases q
  ·rw[if_neg hb];exact q
 have sub:Same g W.h:=fun b o q=>by
  have q':(if ow b then W.h b else W.g b)=some o:=q
  by_cases hb:ow b
  ·rw[if_pos hb]at q';exact q'
  ·rw[if_neg hb]at q';exact W.sub _ _ q'
 have cls:∀(i:Nat)(y:Sl),(ρ.map fz)[i]? = some y→(∃d,ρ[i]? = some (.some d)∧y=.some d)∨(∃ds,(ρ[i]? = some (.own ds)∨∃a,ρ[i]? = some (.arg a ds))∧y=.some (.lst ds))∨y=.none:=fun i y e=>by
  rw[Bn]at e
  cases q:ρ[i]? with
  | none=>rw[q]at e;cases e
  | some z=>
   rw[q]at e
   have e':=(Option.some.inj e).symm
   cases z with
   | none=>exact .inr (.inr e')
   | some d=>exact .inl ⟨d,rfl,e'⟩
   | own ds=>exact .inr (.inl ⟨ds,.inl rfl,e'⟩)
   | arg a ds=>exact .inr (.inl ⟨ds,.inr ⟨a,rfl⟩,e'⟩)
   | obj φ=>exact .inr (.inr e')
 have gl:∀a o,g a=some o→W.g a=some o∨∃xs,o=HO.lst xs:=fun a o q=>by
  have q':(if ow a then W.h a else W.g a)=some o:=q
  by_cases hb:ow a
  ·rw[if_pos hb]at q'
   obtain⟨i,ds,h⟩:=hb
   rcases h with ⟨e,ea⟩|e
   ·obtain⟨b,xs,e1,e2,_⟩:=r.ow i ds e
    rw[ea]at e1
    cases e1
    rw[e2]at q'
    exact .inr ⟨xs,(Option.some.inj q').symm⟩
   ·obtain⟨⟨xs,_,e2,_⟩,_,_⟩:=r.ar i a ds e
    rw[e2]at q'
    exact .inr ⟨xs,(Option.some.inj q').symm⟩
  ·rw[if_neg hb]at q'
   exact .inl q'
 refine⟨⟨g,W.h,sub⟩,rfl,gs,⟨by rw[A'];exact r.len,fun i d e=>?_,fun i ds e=>?_,fun i j ds es _ e _=>?_,r.fr,r.z,fun i a ds e=>?_,fun i φ e=>?_⟩,gl⟩
 ·rcases cls i _ e with ⟨d',q,e1⟩|⟨ds,q,e1⟩|e1
  ·cases e1
   obtain⟨v,h1,h2⟩:=r.at_ i d q
   exact⟨v,h1,Is.mono0 gs h2⟩
  ·cases e1
   rcases q with q|⟨b,q⟩
   ·obtain⟨b,xs,e1,e2,e3,e4,e5⟩:=r.ow i ds q
    have hb:ow b:=⟨i,ds,.inl ⟨q,e1⟩⟩
    exact⟨_,e1,is_lst.mpr ⟨b,xs,rfl,(if_pos hb).trans e2,AllIs.mono0 gs e5⟩⟩
   ·obtain⟨⟨xs,e1,e2,e3,e4,e5⟩,_,_⟩:=r.ar i b ds q
    have hb:ow b:=⟨i,ds,.inr q⟩
    exact⟨_,e1,is_lst.mpr ⟨b,xs,rfl,(if_pos hb).trans e2,AllIs.mono0 gs e5⟩⟩
  ·cases e1
 ·rcases cls i _ e with ⟨d',q,e1⟩|⟨ds,q,e1⟩|e1<;>cases e1
 ·rcases cls i _ e with ⟨d',q,e1⟩|⟨ds,q,e1⟩|e1<;>cases e1
 ·rcases cls i _ e with ⟨d',q,e1⟩|⟨ds,q,e1⟩|e1<;>cases e1
 ·rcases cls i _ e with ⟨d',q,e1⟩|⟨ds,q,e1⟩|e1<;>cases e1
def rT{H W' H1:Vw}(e:W'.h=H.h)(s1:Le W' H1)(sg:Same H.g W'.g):∃H2:Vw,H2.h=H1.h∧H2.g=H.g∧Le H H2:=
 ⟨⟨H.g,H1.h,(sg.trans s1.g).trans H1.sub⟩,rfl,rfl,Same.refl _,e ▸ s1.h,fun _ _ h=>h⟩
def O_(t:DTT):DTT:=fun ρ Q=>t (ρ.map fz) Q
def cr{t:DTT}(h:DT X e t):DT X e (O_ t):=by
 obtain⟨te,p,l⟩:=h
 refine⟨te,p,fun ρ σ H Q r hq R k=>?_⟩
 obtain⟨W',e,sg,r',_⟩:=r.bor
 have:=l (ρ.map fz) σ W' Q r' hq R fun b H1 s1 q1=>by
  obtain⟨H2,e2,_,s2⟩:=rT e s1 sg
  rw[←e2]
  exact k b H2 s2 q1
 rw[e]at this
 exact this
def qL:Dt→Bool
 | .non=>true|.bl _=>true|.int _=>true|.str _=>true|_=>false
def pM{G G':Hp}{d:Dt}{v:V}(h:qL d=true)(i:Is K G d v):Is K G' d v:=by
 cases d with
 | non=>exact is_non.mpr (is_non.mp i)
 | bl b=>exact is_bl.mpr (is_bl.mp i)
 | int b=>exact is_int.mpr (is_int.mp i)
 | str b=>exact is_str.mpr (is_str.mp i)
 | _=>cases h
def M6(t:DTE):DTE:=fun ρ Q=>t (ρ.map fz) fun d=>qL d=true∧Q d
def QK{t:DTE}(h:DE X e t):DE X e (M6 t):=by
 obtain⟨te,p,l⟩:=h
 refine⟨te,p,fun ρ σ H Q r hq R k=>?_⟩
 obtain⟨W',e,sg,r',_⟩:=r.bor
 have:=l (ρ.map fz) σ W' _ r' hq R fun d v H1 s1 i1 ⟨hs,q1⟩=>by
  obtain⟨H2,e2,_,s2⟩:=rT e s1 sg
  rw[←e2]
  exact k d v H2 s2 (pM hs i1) q1
 rw[e]at this
 exact this
end
abbrev DSp:=List Dt→(Dt→Prop)→Prop
def zw(K:A_)(S:DSp):Sp:=fun vs H Q _=>∃(W:Vw)(ds:List Dt)(Qd:Dt→Prop),W.h=H∧AllIs K W.g ds vs∧S ds Qd∧∀d v W',Le W W'→Is K W'.g d v→Qd d→Q v W'.h
def xl(K:A_)(S:DSp):Sp:=fun vs H Q _=>∃(W:Vw)(ds:List Dt)(Qd:Dt→Prop),W.h=H∧AllIs K W.g ds vs∧S ds Qd∧
 ∀es p xs W',Le W W'→W.h p=none→W'.h p=some (.lst xs)→W'.g p=none→AllIs K W'.g es xs→Qd (.lst es)→Q (.ref p) W'.h
structure DOk(P:Program)(w:World)(K:A_)(mg:be)(base:Heap)(n:Nat)(x:Str)(S:DSp):Prop where
 ex:∃f fd ps,mg x=some (.ref f)∧PySem.W.keepIn K (.ref f)=true∧Binds K fd ps []∧FnOk P w K mg base CX0 n f fd ps (zw K S)
structure FOk(P:Program)(w:World)(K:A_)(mg:be)(base:Heap)(n:Nat)(x:Str)(S:DSp):Prop where
 ex:∃f fd ps,mg x=some (.ref f)∧PySem.W.keepIn K (.ref f)=true∧Binds K fd ps []∧FnOk P w K mg base CX0 n f fd ps (xl K S)
structure MOk(P:Program)(w:World)(K:A_)(mg:be)(base:Heap)(n:Nat)(C:Addr)(m:Str)(S:DSp):Prop where
 cl:Cls K C
 ex:∃f fd ps,VI K C m f∧Binds K fd ps []∧FnOk P w K mg base CX0 n f fd ps (zw K S)
structure FMOk(P:Program)(w:World)(K:A_)(mg:be)(base:Heap)(n:Nat)(C:Addr)(m:Str)(S:DSp):Prop where
 cl:Cls K C
 ex:∃f fd ps,VI K C m f∧Binds K fd ps []∧FnOk P w K mg base CX0 n f fd ps (xl K S)
section
variable{X:Cx}{a b c e o:Expr}{ta tb:DTE}{pos p apos:Pos}{es:List Expr}{t:DTA}{n:Nat}{x m:Str}{S:DSp}
def cR(S:DSp)(t:DTA):DTE:=fun ρ Q=>t ρ fun ds=>S ds Q
def zl(G:DOk X.prog X.w X.K X.mg X.base n x S)(hr:Room n X.A)(hg:Gl X x)(ha:DA X (e::es) t)(hdb:ug x:=by decide)
  (he:J' X.env e es:=by rfl) (hpl:K' X.env pos es:=by rfl):DE X (.Call (.Name x p) (e::es) [] pos) (cR S t):=by
 obtain⟨f,fd,ps,hm,hk,hb,F⟩:=G.ex
 obtain⟨te,p1,l1⟩:=ha
 refine⟨_,vj F hr hg hm hk hb .nil qQ p1 hdb he hpl,fun ρ σ H Q r h R k=>l1 ρ σ H _ r h _ fun ds vs H1 s1 i1 q1=>?_⟩
 rw[Bv]
 exact⟨H1,ds,Q,rfl,i1,q1,fun d v H2 s2 i2 q2=>k d v H2 (s1.trans s2) i2 q2⟩
def sF(G:FOk X.prog X.w X.K X.mg X.base n x S)(hr:Room n X.A)(hg:Gl X x)(ha:DA X (e::es) t)(hdb:ug x:=by decide)
  (he:J' X.env e es:=by rfl) (hpl:K' X.env pos es:=by rfl):DF X (.Call (.Name x p) (e::es) [] pos) (cR S t):=by
 obtain⟨f,fd,ps,hm,hk,hb,F⟩:=G.ex
 obtain⟨te,p1,l1⟩:=ha
 refine⟨_,vj F hr hg hm hk hb .nil qQ p1 hdb he hpl,fun ρ σ H Q r h R k=>l1 ρ σ H _ r h _ fun ds vs H1 s1 i1 q1=>?_⟩
 rw[Bv]
 exact⟨H1,ds,Q,rfl,i1,q1,fun es p xs H2 s2 h0 h1 h2 i2 q2=>k es p xs H2 (s1.trans s2) (s1.h.free h0) h1 h2 i2 q2⟩
def iY(X:Cx)(n:Nat)(m:Str)(ta:TE)(t:TA):TE:=fun σ H Q=>ta σ H fun x H1=>∃a dx fs C f fd ps sp,x=.ref a∧H1 a=some (.ins C dx fs)∧fs.lookup m=none∧Cls X.K C∧VI X.K C m f∧Binds X.K fd ps []∧
 FnOk X.prog X.w X.K X.mg X.base CX0 n f fd ps sp∧t σ H1 fun vs H2=>sp (x::vs) H2 Q E0
theorem nG{pl:Sem Bool}{te:TE}{tt:TA}(he:PE X o te)(hr:Room n X.A)(ha:PA X (e::es) tt)
  (hst:J' X.env e es:=by rfl) (hpl:K' X.env pos es:=by rfl)
  (ht:eval (.Call (.Attribute o m apos) (e::es) [] pos) X.env=(do
   let ov ←eval o X.env
   standAt apos.atName
   let(f,first) ←holding [ov] (getMethod ov m pl)
   callWith pos f first (backTo pos (starEach (e::es) X.env)) (backToKw pos (keywordEach [] X.env))):=by rfl):
  PE X (.Call (.Attribute o m apos) (e::es) [] pos) (iY X n m te tt):=by
 intro Aa s σ H Q I h
 refine PySem.W.methodCall_KW (pl:=pl) (thn (he Aa s σ H _ I h) fun u s1 zz=>?_) ht
 obtain⟨x,H1,I1,rx,a,dx,fs,C,f,fd,ps,sp,ex,ea,l,c,hm,hb,F,q⟩:=zz
 subst ex
 obtain rfl:u=Value.ref a:=rx
 refine rL I1 ea c hm l ?_
 refine PySem.W.callWith_K (first:=[.ref a]) (h₀:=X.base) I.ok.mod.kin hm.kp (thn (ha pos Aa s1 σ H1 _ I1 q) fun us s2 ⟨vs,H2,I2,r,q2⟩=>⟨I2.kIn,?_⟩) hst hpl
 exact m8 (us:=.ref a::us) (vs:=.ref a::vs) (dvs:=[]) (E:=E0) F hr hb .nil qQ I2 (.cons rfl r) (by rw[Bv];exact q2)
theorem jC{pl:Sem Bool}{te:TE}(he:PE X o te)(hr:Room n X.A)
  (ht:eval (.Call (.Attribute o m apos) [] [] pos) X.env=(do
   let ov ←eval o X.env
   standAt apos.atName
   let(f,first) ←holding [ov] (getMethod ov m pl)
   callWith pos f first (backTo pos (starEach [] X.env)) (backToKw pos (keywordEach [] X.env))):=by rfl):
  PE X (.Call (.Attribute o m apos) [] [] pos) (iY X n m te UA):=by
 intro Aa s σ H Q I h
 refine PySem.W.methodCall_KW (pl:=pl) (thn (he Aa s σ H _ I h) fun u s1 zz=>?_) ht
 obtain⟨x,H1,I1,rx,a,dx,fs,C,f,fd,ps,sp,ex,ea,l,c,hm,hb,F,q⟩:=zz
 subst ex
 obtain rfl:u=Value.ref a:=rx
 refine rL I1 ea c hm l ?_
 exact PySem.W.callWith_K0 (first:=[.ref a]) I1.kIn hm.kp (m8 (us:=[.ref a]) (vs:=[.ref a]) (dvs:=[]) (E:=E0) F hr hb .nil qQ I1 (.cons rfl .nil) q)
def OO(X:Cx)(n:Nat)(m:Str)(ta:DTE)(t:DTA):DTE:=fun ρ Q=>ta ρ fun d=>∃C f k S,d=.way C f k∧(m==f)=false∧MOk X.prog X.w X.K X.mg X.base n C m S∧t ρ fun ds=>S (d::ds) Q
theorem xj{pl:Sem Bool}(hr:Room n X.A)(he:DE X o ta)(ha:DA X (e::es) t)
  (hst:J' X.env e es:=by rfl) (hpl:K' X.env pos es:=by rfl)
  (ht:eval (.Call (.Attribute o m apos) (e::es) [] pos) X.env=(do
   let ov ←eval o X.env
   standAt apos.atName
   let(f,first) ←holding [ov] (getMethod ov m pl)
   callWith pos f first (backTo pos (starEach (e::es) X.env)) (backToKw pos (keywordEach [] X.env))):=by rfl):
  DE X (.Call (.Attribute o m apos) (e::es) [] pos) (OO X n m ta t):=by
 obtain⟨te,p0,l0⟩:=he
 obtain⟨tt,p1,l1⟩:=ha
 refine⟨_,nG (pl:=pl) p0 hr p1 hst hpl ht,fun ρ σ H Q r h R k=>l0 ρ σ H _ r h _ fun d v H1 s1 i1 zz=>?_⟩
 obtain⟨C,f,z,S,ed,hne,M,q1⟩:=zz
 subst ed
 obtain⟨a,dx,rfl,ha⟩:=is_way.mp i1
 obtain⟨g,fd,ps,hm,hb,F⟩:=M.ex
 refine⟨a,dx,_,C,g,fd,ps,_,rfl,H1.sub _ _ ha,by simp[List.lookup,hne],M.cl,hm,hb,F,l1 ρ σ H1 _ (r.mono s1) q1 _ fun ds vs H2 s2 i2 q2=>?_⟩
 exact⟨H2,_,Q,rfl,allIs_cons.mpr ⟨_,_,rfl,i1.mono s2,i2⟩,q2,fun d v H3 s3 i3 q3=>k d v H3 ((s1.trans s2).trans s3) i3 q3⟩
def QT(X:Cx)(n:Nat)(m:Str)(ta:DTE):DTE:=fun ρ Q=>ta ρ fun d=>∃C f k S,d=.way C f k∧(m==f)=false∧MOk X.prog X.w X.K X.mg X.base n C m S∧S [d] Q
theorem um{pl:Sem Bool}(hr:Room n X.A)(he:DE X o ta)
  (ht:eval (.Call (.Attribute o m apos) [] [] pos) X.env=(do
   let ov ←eval o X.env
   standAt apos.atName
   let(f,first) ←holding [ov] (getMethod ov m pl)
   callWith pos f first (backTo pos (starEach [] X.env)) (backToKw pos (keywordEach [] X.env))):=by rfl):
  DE X (.Call (.Attribute o m apos) [] [] pos) (QT X n m ta):=by
 obtain⟨te,p0,l0⟩:=he
 refine⟨_,jC (pl:=pl) p0 hr ht,fun ρ σ H Q r h R k=>l0 ρ σ H _ r h _ fun d v H1 s1 i1 zz=>?_⟩
 obtain⟨C,f,z,S,ed,hne,M,q1⟩:=zz
 subst ed
 obtain⟨a,dx,rfl,ha⟩:=is_way.mp i1
 obtain⟨g,fd,ps,hm,hb,F⟩:=M.ex
 refine⟨a,dx,_,C,g,fd,ps,_,rfl,H1.sub _ _ ha,by simp[List.lookup,hne],M.cl,hm,hb,F,?_⟩
 exact⟨H1,_,Q,rfl,allIs_cons.mpr ⟨_,_,rfl,i1,allIs_nil.mpr rfl⟩,q1,fun d v H3 s3 i3 q3=>k d v H3 (s1.trans s3) i3 q3⟩
def QS(X:Cx)(n:Nat)(m:Str)(ta:DTE)(t:DTA):DTE:=fun ρ Q=>ta ρ fun d=>∃C f k S,d=.way C f k∧(m==f)=false∧FMOk X.prog X.w X.K X.mg X.base n C m S∧t ρ fun ds=>S (d::ds) Q
theorem Vi{pl:Sem Bool}(hr:Room n X.A)(he:DE X o ta)(ha:DA X (e::es) t)
  (hst:J' X.env e es:=by rfl) (hpl:K' X.env pos es:=by rfl)
  (ht:eval (.Call (.Attribute o m apos) (e::es) [] pos) X.env=(do
   let ov ←eval o X.env
   standAt apos.atName
   let(f,first) ←holding [ov] (getMethod ov m pl)
   callWith pos f first (backTo pos (starEach (e::es) X.env)) (backToKw pos (keywordEach [] X.env))):=by rfl):
  DF X (.Call (.Attribute o m apos) (e::es) [] pos) (QS X n m ta t):=by
 obtain⟨te,p0,l0⟩:=he
 obtain⟨tt,p1,l1⟩:=ha
 refine⟨_,nG (pl:=pl) p0 hr p1 hst hpl ht,fun ρ σ H Q r h R k=>l0 ρ σ H _ r h _ fun d v H1 s1 i1 zz=>?_⟩
 obtain⟨C,f,z,S,ed,hne,M,q1⟩:=zz
 subst ed
 obtain⟨a,dx,rfl,ha⟩:=is_way.mp i1
 obtain⟨g,fd,ps,hm,hb,F⟩:=M.ex
 refine⟨a,dx,_,C,g,fd,ps,_,rfl,H1.sub _ _ ha,by simp[List.lookup,hne],M.cl,hm,hb,F,l1 ρ σ H1 _ (r.mono s1) q1 _ fun ds vs H2 s2 i2 q2=>?_⟩
 have s:=s1.trans s2
 exact⟨H2,_,Q,rfl,allIs_cons.mpr ⟨_,_,rfl,i1.mono s2,i2⟩,q2,fun es p xs H3 s3 h0 h1 h2 i3 q3=>k es p xs H3 (s.trans s3) (s.h.free h0) h1 h2 i3 q3⟩
def M4(K:A_)(f:Str)(ta:DTE):DTE:=fun ρ Q=>ta ρ fun d=>∃C g k,d=.way C g k∧(f==g)=true∧Cls K C∧NoAttr K C f∧Q (.int k)
def zZ{f:Str}(ha:DE X a ta)(hb:attributeBase a f X.env (eval a X.env)=eval a X.env:=by rfl):DE X (.Attribute a f pos) (M4 X.K f ta):=by
 obtain⟨te,p1,l1⟩:=ha
 refine⟨_,Tb p1 hb,fun ρ σ H Q r h R k=>l1 ρ σ H _ r h _ fun d v H1 s1 i1 zz=>?_⟩
 obtain⟨C,g,z,ed,hfg,hc,hn,q1⟩:=zz
 subst ed
 obtain⟨p,dx,rfl,hp⟩:=is_way.mp i1
 exact⟨p,C,dx,_,.int z,rfl,H1.sub _ _ hp,hc,hn,by simp[List.lookup,hfg],k _ _ H1 s1 (is_int.mpr rfl) q1⟩
structure VJ(K:A_):Prop where
 ib:PySem.W.kitOne K (.type "int") (.type "bool")=some false
 it:PySem.W.kitOne K (.type "int") (.type "tuple")=some false
 il:PySem.W.kitOne K (.type "int") (.type "list")=some false
 bi:PySem.W.kitOne K (.type "bool") (.type "int")=some true
 bt:PySem.W.kitOne K (.type "bool") (.type "tuple")=some false
 bl:PySem.W.kitOne K (.type "bool") (.type "list")=some false
 ti:PySem.W.kitOne K (.type "tuple") (.type "int")=some false
 tb:PySem.W.kitOne K (.type "tuple") (.type "bool")=some false
 tl:PySem.W.kitOne K (.type "tuple") (.type "list")=some false
 li:PySem.W.kitOne K (.type "list") (.type "int")=some false
 lb:PySem.W.kitOne K (.type "list") (.type "bool")=some false
 lt:PySem.W.kitOne K (.type "list") (.type "tuple")=some false
def ue{K:A_}{t:Value}:PySem.W.kitOne K t t=some true:=by
 unfold PySem.W.kitOne
 rw[if_pos (beq_self_eq_true t)]
def Qj{K:A_}{t c:String}{b:Bool}(h1:(Value.type t==Value.type c)=false)(h2:PySem.W.kitMeta c=true)(h3:(fastBuiltinMro t).map (·.contains (Value.type c))=some b):PySem.W.kitOne K (.type t) (.type c)=some b:=by
 unfold PySem.W.kitOne PySem.W.kitCls
 rw[if_neg (by rw[h1];decide)]
 show(if PySem.W.kitMeta c=true then PySem.W.subIn K (.type t) (.type c) else none)=some b
 rw[if_pos h2]
 exact h3
def Ms(K:A_):VJ K:=by
 constructor<;>exact Qj (by decide +kernel) (by decide +kernel) (by decide +kernel)
inductive TyN where|int|bool|tuple|list
def TyN.str:TyN→String
 | .int=>"int" | .bool=>"bool" | .tuple=>"tuple" | .list=>"list"
def Om:Dt→TyN→Option Bool
 | .int _,.int=>some true|.int _,.bool=>some false|.int _,.tuple=>some false|.int _,.list=>some false
 | .bl _,.int=>some true|.bl _,.bool=>some true|.bl _,.tuple=>some false|.bl _,.list=>some false
 | .tup _,.int=>some false|.tup _,.bool=>some false|.tup _,.tuple=>some true|.tup _,.list=>some false
 | .lst _,.int=>some false|.lst _,.bool=>some false|.lst _,.tuple=>some false|.lst _,.list=>some true
 | _,_=>none
def Qq{H:Vw}{d:Dt}{v:V}{T:TyN}{b:Bool}(kt:VJ K)(h:Is K H.g d v)(e:Om d T=some b):∃tv,vY K H.h v tv∧PySem.W.kitOne K tv (.type T.str)=some b:=by
 cases d with
 | int i=>
  obtain rfl:=is_int.mp h
  refine⟨_,.int i,?_⟩
  cases T<;>(obtain rfl:=Option.some.inj e;first|exact ue|exact kt.ib|exact kt.it|exact kt.il)
 | bl i=>
  obtain rfl:=is_bl.mp h
  refine⟨_,.bl i,?_⟩
  cases T<;>(obtain rfl:=Option.some.inj e;first|exact ue|exact kt.bi|exact kt.bt|exact kt.bl)
 | tup ds=>
  obtain⟨a,xs,rfl,h1,_⟩:=is_tup.mp h
  refine⟨_,.tup (H.sub _ _ h1),?_⟩
  cases T<;>(obtain rfl:=Option.some.inj e;first|exact ue|exact kt.ti|exact kt.tb|exact kt.tl)
 | lst ds=>
  obtain⟨a,xs,rfl,h1,_⟩:=is_lst.mp h
  refine⟨_,.lst (H.sub _ _ h1),?_⟩
  cases T<;>(obtain rfl:=Option.some.inj e;first|exact ue|exact kt.li|exact kt.lb|exact kt.lt)
 | _=>cases T<;>cases e
def cV:wH X (.builtin "isinstance") (fun xs H Q=>∃v T tv b,xs=[v,.ty T]∧vY X.K H v tv∧PySem.W.kitOne X.K tv (.type T)=some b∧Q (.bl b) H):=by
 intro Aa s σ H xs us Q I r h
 obtain⟨v,T,tv,b,rfl,hty,hk,q⟩:=h
 cases r with
 | cons r1 r2=>
  cases r2 with
  | cons r3 r4=>
   cases r4
   cases r3
   exact qX I r1 hty hk fun tk=>⟨.bl b,H,I.tok _,rfl,q⟩
def MX(T:TyN)(ta:DTE):DTE:=fun ρ Q=>ta ρ fun d=>∃b,Om d T=some b∧Q (.bl b)
theorem lY{T:TyN}{y:Str}{p':Pos}(kt:VJ X.K)(hm:X.mg "isinstance"=none)(hmc:X.mg y=none)(hv:bootBuiltins y=some (.type T.str))(ha:DE X a ta)
  (hg:Gl X "isinstance":=by rfl) (hgc:Gl X y:=by rfl) (hny:y≠"__name__":=by decide) (hdy:ug y:=by decide)
  (hs:starEach [a,.Name y p'] X.env=(false,eval a X.env)::starEach [.Name y p'] X.env:=by rfl) (hs2:starEach [.Name y p'] X.env=(false,eval (.Name y p') X.env)::starEach [] X.env:=by rfl)
  (hpl:K' X.env pos [.Name y p']:=by rfl):
  DE X (.Call (.Name "isinstance" p) [a,.Name y p'] [] pos) (MX T ta):=by
 obtain⟨te,p1,l1⟩:=ha
 have pc:PE X (.Name y p') (tC (.ty T.str)):=bW hgc hmc hv rfl hny hdy
 refine⟨_,yx cV hg hm boot_isinstance (zB p1 (zB pc zS hs2) hs) (by decide) (by decide) hs hpl,fun ρ σ H Q r h R k=>l1 ρ σ H _ r h _ fun d v H1 s1 i1 zz=>?_⟩
 obtain⟨b,e,q⟩:=zz
 obtain⟨tv,h1,h2⟩:=Qq kt i1 e
 exact⟨v,T.str,tv,b,rfl,h1,h2,k _ _ H1 s1 (is_bl.mpr rfl) q⟩
end
structure DEnds where
 nx:DS→Prop
 rt:Dt→Prop
 bk:DS→Prop:=fun _=>False
 ct:DS→Prop:=fun _=>False
abbrev DTS:=DEnds→DS→Prop
structure At(K:A_)(Z:Hp)(W0:Vw)(G:Hp)(W:Vw)(ρ:DS)(σ:St):Prop where
 le:Le W0 W
 gs:Same G W.g
 rl:Rl K Z W0.h W ρ σ
inductive Fr where|d|l|t (a b:Bool)
def NewL(K:A_)(F:Hp)(W:Vw)(d:Dt)(v:V):Prop:=∃es p xs,d=.lst es∧v=.ref p∧F p=none∧W.h p=some (.lst xs)∧W.g p=none∧AllIs K W.g es xs
def Prt(K:A_)(F:Hp)(W:Vw)(b:Bool)(d:Dt)(v:V):Prop:=match b with
 | false=>Is K W.g d v
 | true=>NewL K F W d v∨qL d=true∧Is K W.g d v
def Tld(K:A_)(F:Hp)(W:Vw):Fr→Dt→V→Prop
 | .d,d,v=>Is K W.g d v
 | .l,d,v=>NewL K F W d v
 | .t a b,d,v=>∃d1 d2 q u1 u2,d=.tup [d1,d2]∧v=.ref q∧W.g q=some (.tup [u1,u2])∧Prt K F W a d1 u1∧Prt K F W b d2 u2∧(∀es fs,a=true→b=true→d1=.lst es→d2=.lst fs→u1≠u2)
structure Sim(K:A_)(Z:Hp)(fr:Fr)(W0:Vw)(G:Hp)(D:DEnds)(D':Ends):Prop where
 nx:∀ρ σ W',At K Z W0 G W' ρ σ→D.nx ρ→D'.nx σ W'.h
 tl:∀d v W',Le W0 W'→Tld K W0.h W' fr d v→D.rt d→D'.rt v W'.h
 bk:∀ρ σ W',At K Z W0 G W' ρ σ→D.bk ρ→D'.bk σ W'.h
 ct:∀ρ σ W',At K Z W0 G W' ρ σ→D.ct ρ→D'.ct σ W'.h
def NewL.le{F G:Hp}{W:Vw}{d:Dt}{v:V}(h:NewL K F W d v)(z:∀p,F p=none→G p=none):NewL K G W d v:=
 let⟨es,p,xs,h1,h2,h3,h4⟩:=h; ⟨es,p,xs,h1,h2,z p h3,h4⟩
def Sim.rf{Z:Hp}{fr:Fr}{W0:Vw}{G:Hp}{D:DEnds}{D':Ends}(s:Sim K Z fr W0 G D D')(hf:fr=.d∨fr=.l)(es:List Dt)(p:Addr)(xs:List V)(W':Vw)(le:Le W0 W')(h0:W0.h p=none)(h1:W'.h p=some (.lst xs))(h2:W'.g p=none)(h3:AllIs K W'.g es xs)(q:D.rt (.lst es)):D'.rt (.ref p) W'.h:=by
 rcases hf with rfl|rfl
 ·exact s.tl (.lst es) (.ref p) (W'.frz p _ h1) (rE le h0 h1 h2) (is_lst.mpr ⟨p,xs,rfl,zr,AllIs.mono0 (zX h2 _) h3⟩) q
 ·exact s.tl (.lst es) (.ref p) W' le ⟨es,p,xs,rfl,rfl,h0,h1,h2,h3⟩ q
section
variable{W0:Vw}{G G':Hp}{ρ:DS}{σ:St}
def At.step(a:At K Z W0 G W ρ σ)(s:Le W W'):At K Z W0 G W' ρ σ:=⟨a.le.trans s,a.gs.trans s.g,a.rl.mono s⟩
def At.set(a:At K Z W0 G W ρ σ){d:Dt}{v:V}(i:Nat)(h:Is K W.g d v):At K Z W0 G W (ρ.set i (.some d)) (σ.set i (some v)):=⟨a.le,a.gs,a.rl.set i h⟩
def At.weak(a:At K Z W0 G W ρ σ)(s:Same G' G):At K Z W0 G' W ρ σ:=⟨a.le,s.trans a.gs,a.rl⟩
theorem At.own(a:At K Z W0 G W ρ σ)(s:Le W W'){p:Addr}{xs:List V}{ds:List Dt}(i:Nat)(h0:W.h p=none)(h1:W'.h p=some (.lst xs))(h2:W'.g p=none)(h3:AllIs K W'.g ds xs):
  At K Z W0 G W' (ρ.set i (.own ds)) (σ.set i (some (.ref p))):=⟨a.le.trans s,a.gs.trans s.g,a.rl.own s i h0 h1 h2 h3⟩
theorem At.put(at_:At K Z W0 G W ρ σ){i:Nat}{ds es:List Dt}{a:Addr}{ys:List V}(hi:ρ[i]? = some (.own ds))(ha:σ[i]? = some (some (.ref a)))(hg:W.g a=none)(hF:W0.h a=none)(h3:AllIs K W.g es ys):
  At K Z W0 G (W.mine a (.lst ys) hg) (ρ.set i (.own es)) σ:=
 ⟨⟨at_.le.g,fun b o q=>by
   have:b≠a:=fun e=>by rw[e,hF]at q;cases q
   show upd W.h a _ b=some o
   rw[zt this];exact at_.le.h _ _ q,at_.le.n⟩,at_.gs,at_.rl.put hi ha hg hF h3⟩
theorem At.frz(at_:At K Z W0 G W ρ σ){i:Nat}{ds:List Dt}{a:Addr}{xs:List V}(hi:ρ[i]? = some (.own ds))(ha:σ[i]? = some (some (.ref a)))(hh:W.h a=some (.lst xs))(hg:W.g a=none)(hF:W0.h a=none)(h3:AllIs K W.g ds xs):
  At K Z W0 G (W.frz a _ hh) (ρ.set i (.some (.lst ds))) σ:=
 ⟨rE at_.le hF hh hg,at_.gs.trans (zX hg _),at_.rl.frz hi ha hh hg h3⟩
end
def LiS(K:A_)(Z:Hp)(fr:Fr)(ts:TS)(t:DTS):Prop:=∀(W0:Vw)(G:Hp)(ρ:DS)(σ:St)(W:Vw)(D:DEnds)(D':Ends),At K Z W0 G W ρ σ→Sim K Z fr W0 G D D'→t D ρ→ts D' σ W.h
def DSt(X:Cx)(fr:Fr)(st:Stmt)(t:DTS):Prop:=∃ts,PS X st ts∧LiS X.K (Zx X) fr ts t
def DSs(X:Cx)(fr:Fr)(sts:List Stmt)(t:DTS):Prop:=∃ts,PSs X sts ts∧LiS X.K (Zx X) fr ts t
def OM:DTS:=fun D ρ=>D.nx ρ
def OF(t u:DTS):DTS:=fun D ρ=>t { D with nx:=u D } ρ
def OI(te:DTE):DTS:=fun D ρ=>te ρ D.rt
def OH(i:Nat):DTS:=fun D ρ=>∃ds,ρ[i]? = some (.own ds)∧D.rt (.lst ds)
def MQ(i:Nat)(te:DTE):DTS:=fun D ρ=>te ρ fun d=>D.nx (ρ.set i (.some d))
def Uc(i:Nat)(te:DTE):DTS:=fun D ρ=>te ρ fun d=>∃ds,d=.lst ds∧D.nx (ρ.set i (.own ds))
def MY(c:DTT)(t u:DTS):DTS:=fun D ρ=>c ρ fun b=>if b=true then t D ρ else u D ρ
def O8(te:DTE):DTS:=fun D ρ=>te ρ fun _=>D.nx ρ
def QR:DTS:=fun _ _=>False
def MK(i j:Nat)(te:DTE):DTS:=fun D ρ=>te ρ fun d=>∃a b,d=.tup [a,b]∧D.nx ((ρ.set i (.some a)).set j (.some b))
def O4(j:Nat)(te:DTE)(tb:DTS):DTS:=fun D ρ=>te ρ fun d=>∃(ds:List Dt)(Pv:Nat→DS→Prop),yK d=some ds∧Pv 0 ρ∧
 (∀i e ρ',ds[i]? = some e→Pv i ρ'→tb { D with nx:=Pv (i+1),ct:=Pv (i+1),bk:=D.nx } (ρ'.set j (.some e)))∧∀ρ',Pv ds.length ρ'→D.nx ρ'
def O3(j:Nat)(te:DTE)(tb:DTS):DTS:=fun D ρ=>te ρ fun d=>∃(n:Int)(Pv:Nat→DS→Prop),d=.int n∧-(2^62)≤n∧n<2^62∧Pv 0 ρ∧
 (∀(i:Nat) ρ',i<n.toNat→Pv i ρ'→tb { D with nx:=Pv (i+1),ct:=Pv (i+1),bk:=D.nx } (ρ'.set j (.some (.int i))))∧∀ρ',Pv n.toNat ρ'→D.nx ρ'
def QV(j:Nat)(ta:DTA)(tb:DTS):DTS:=fun D ρ=>ta ρ fun ds=>∃(m n:Int)(Pv:Nat→DS→Prop),ds=[.int m,.int n]∧-(2^62)≤m∧m<2^62∧-(2^62)≤n∧n<2^62∧Pv 0 ρ∧
 (∀(i:Nat) ρ',i<(n-m).toNat→Pv i ρ'→tb { D with nx:=Pv (i+1),ct:=Pv (i+1),bk:=D.nx } (ρ'.set j (.some (.int (m+i)))))∧∀ρ',Pv (n-m).toNat ρ'→D.nx ρ'
def cM(c:DTT)(tb:DTS):DTS:=fun D ρ=>∃Pv:Nat→DS→Prop,(∃m,Pv m ρ)∧∀m ρ',Pv m ρ'→
 c ρ' fun b=>if b=true then tb { D with nx:=fun ρ2=>∃m',m'<m∧Pv m' ρ2,ct:=fun ρ2=>∃m',m'<m∧Pv m' ρ2,bk:=D.nx } ρ' else D.nx ρ'
section
variable{X:Cx}{fr:Fr}{st:Stmt}{yG:List Stmt}{t u:DTS}{e:Expr}{te:DTE}{pos p0 p1 p2:Pos}
def zk:DSs X fr [] OM:=⟨_,bM,fun W0 G ρ σ W D D' a s h=>s.nx ρ σ W a h⟩
def zd(h1:DSt X fr st t)(h2:DSs X fr yG u):DSs X fr (st::yG) (OF t u):=by
 obtain⟨ts,p1,l1⟩:=h1
 obtain⟨us,p2,l2⟩:=h2
 exact⟨_,nA p1 p2,fun W0 G ρ σ W D D' a s h=>l1 W0 G ρ σ W { D with nx:=u D } { D' with nx:=us D' } a ⟨fun ρ' σ' W' a' q=>l2 W0 G ρ' σ' W' D D' a' s q,s.tl,s.bk,s.ct⟩ h⟩
def zf(h:DSt X fr st t):DSs X fr [st] t:=let⟨_,p,l⟩:=h; ⟨_,wu p,l⟩
def M0(i:Nat)(t:DTS):DTS:=fun D ρ=>∃ds,ρ[i]? = some (.own ds)∧t D (ρ.set i (.some (.lst ds)))
def xK(i:Nat)(h:DSs X fr yG t):DSs X fr yG (M0 i t):=by
 obtain⟨ts,p,l⟩:=h
 refine⟨ts,p,fun W0 G ρ σ W D D' a s h=>?_⟩
 obtain⟨ds,e,q⟩:=h
 obtain⟨b,xs,e1,e2,e3,e4,e5⟩:=a.rl.ow i ds e
 exact l W0 G _ σ (W.frz b _ e2) D D' (a.frz e e1 e2 e3 e4 e5) s q
def zj(h:DE X e te):DSt X .d (.Return (some e) pos) (OI te):=by
 obtain⟨tt,p,l⟩:=h
 exact⟨_,uJ p,fun W0 G ρ σ W D D' a s h=>l ρ σ W _ a.rl h _ fun d v W1 s1 i1 q1=>s.tl d v W1 (a.le.trans s1) i1 q1⟩
def yU(h:DF X e te)(hf:fr=.d∨fr=.l:=by first|exact .inl rfl|exact .inr rfl):DSt X fr (.Return (some e) pos) (OI te):=by
 obtain⟨tt,p,l⟩:=h
 exact⟨_,uJ p,fun W0 G ρ σ W D D' a s h=>l ρ σ W _ a.rl h _ fun es q xs W1 s1 h0 h1 h2 i1 q1=>s.rf hf es q xs W1 (a.le.trans s1) (a.le.h.free h0) h1 h2 i1 q1⟩
def wC(i:Nat){x:Str}(hN:X.N[i]? = some x:=by rfl)(hv:Vis X.env.scope x:=by walk_at "v")(hd:ug x:=by decide)
  (hcd:we x:=by decide) (hf:fr=.d∨fr=.l:=by first|exact .inl rfl|exact .inr rfl):DSt X fr (.Return (some (.Name x p0)) pos) (OH i):=by
 refine⟨_,uJ (yj hN hv hd hcd),fun W0 G ρ σ W D D' a s h=>?_⟩
 obtain⟨ds,e,q⟩:=h
 obtain⟨b,xs,e1,e2,e3,e4,e5⟩:=a.rl.ow i ds e
 exact⟨.ref b,e1,s.rf hf ds b xs W a.le e4 e2 e3 e5 q⟩
def vp(h:DE X e te)(hs:swapsWith e none pos.line X.env=pure false:=by rfl):DSt X fr (.Expr e pos) (O8 te):=by
 obtain⟨tt,p,l⟩:=h
 exact⟨_,ww p hs,fun W0 G ρ σ W D D' a s h=>l ρ σ W _ a.rl h _ fun d v W1 s1 i1 q1=>s.nx ρ σ W1 (a.step s1) q1⟩
def zq{i:Nat}{x:Str}{pos':Pos}(hN:X.N.Nodup)(hi:X.N[i]? = some x)(hx:Loc X.env.scope x)(h:DE X e te)(hs:swapsWith e (some (.Name x pos')) pos.line X.env=pure false:=by rfl)(hf:X.fn x=true∨X.env.scope.names.lookup x=some .local:=by walk_at "f"):
  DSt X fr (.Assign [.Name x pos'] e pos) (MQ i te):=by
 obtain⟨tt,p,l⟩:=h
 exact⟨_,h_ hN hi hx p hs hf,fun W0 G ρ σ W D D' a s h=>l ρ σ W _ a.rl h _ fun d v W1 s1 i1 q1=>s.nx _ _ W1 ((a.step s1).set i i1) q1⟩
def z8{i:Nat}{x:Str}{pos':Pos}(hN:X.N.Nodup)(hi:X.N[i]? = some x)(hx:Loc X.env.scope x)(h:DF X e te)(hs:swapsWith e (some (.Name x pos')) pos.line X.env=pure false:=by rfl)(hf:X.fn x=true∨X.env.scope.names.lookup x=some .local:=by walk_at "f"):
  DSt X fr (.Assign [.Name x pos'] e pos) (Uc i te):=by
 obtain⟨tt,p,l⟩:=h
 refine⟨_,h_ hN hi hx p hs hf,fun W0 G ρ σ W D D' a s h=>l ρ σ W _ a.rl h _ fun es q xs W1 s1 h0 h1 h2 i1 zz=>?_⟩
 obtain⟨ds,ed,q1⟩:=zz
 cases ed
 exact s.nx _ _ W1 (a.own s1 i h0 h1 h2 i1) q1
def zA{c:Expr}{a b:List Stmt}{tc:DTT}(hc:DT X c tc)(ha:DSs X fr a t)(hb:DSs X fr b u):DSt X fr (.If c a b pos) (MY tc t u):=by
 obtain⟨t0,p0,l0⟩:=hc
 obtain⟨t1,p1,l1⟩:=ha
 obtain⟨t2,p2,l2⟩:=hb
 refine⟨_,Px p0 p1 p2,fun W0 G ρ σ W D D' a s h=>l0 ρ σ W _ a.rl h _ fun k W1 s1 q1=>?_⟩
 cases k with
 | true=>exact l1 W0 G ρ σ W1 D D' (a.step s1) s q1
 | false=>exact l2 W0 G ρ σ W1 D D' (a.step s1) s q1
def yb:DSt X fr st QR:=⟨_,gd,fun _ _ _ _ _ _ _ _ _ h=>h.elim⟩
theorem Qx{i j:Nat}{x y:Str}{px py pt:Pos}{kt:Nat}(hc:X.calm=true)(hN:X.N.Nodup)(hi:X.N[i]? = some x)(hj:X.N[j]? = some y)(hx:Loc X.env.scope x)(hy:Loc X.env.scope y)(h:DE X e te)
  (hf:X.fn x=true∨X.env.scope.names.lookup x=some .local:=by walk_at "f") (hf2:X.fn y=true∨X.env.scope.names.lookup y=some .local:=by walk_at "f")
  (hs:swapsWithSole [.Tuple [.Name x px,.Name y py] kt pt] e pos.line X.env=pure false:=by rfl) (hw:swappedStores [.Tuple [.Name x px,.Name y py] kt pt] e X.env=pure none:=by rfl):
  DSt X fr (.Assign [.Tuple [.Name x px,.Name y py] kt pt] e pos) (MK i j te):=by
 obtain⟨tt,p,l⟩:=h
 refine⟨_,UP p (pY hc (yW (z4 hN hi hx hf) (yW (z4 hN hj hy hf2) sv))) hs hw,fun W0 G ρ σ W D D' at_ s h=>l ρ σ W _ at_.rl h _ fun d v W1 s1 i1 zz=>?_⟩
 obtain⟨a,b,ed,q1⟩:=zz
 subst ed
 obtain⟨q,xs,rfl,hq,ha⟩:=is_tup.mp i1
 obtain⟨v1,v2,rfl,h1,h2⟩:=ha.two
 refine⟨q,_,rfl,.of (W1.sub _ _ hq),rfl,v1,[v2],rfl,v2,[],rfl,rfl,?_⟩
 exact s.nx _ _ W1 (((at_.step s1).set i h1).set j h2) q1
def InL(K:A_)(Z:Hp)(W0 W1:Vw)(Pv:DS→Prop)(σ:St)(H:Hp):Prop:=∃(ρ:DS)(W:Vw),W.h=H∧At K Z W0 W1.g W ρ σ∧Pv ρ
theorem yD{K:A_}{W0 W1:Vw}{G:Hp}{D:DEnds}{D':Ends}{Pv:DS→Prop}(s:Sim K Z fr W0 G D D')(hg:Same G W1.g):
  Sim K Z fr W0 W1.g { D with nx:=Pv,ct:=Pv,bk:=D.nx } { D' with nx:=InL K Z W0 W1 Pv,ct:=InL K Z W0 W1 Pv,bk:=D'.nx }:=
 ⟨fun ρ3 σ3 W3 a3 q3=>⟨ρ3,W3,rfl,a3,q3⟩,s.tl,fun ρ3 σ3 W3 a3 q3=>s.nx ρ3 σ3 W3 (a3.weak hg) q3,fun ρ3 σ3 W3 a3 q3=>⟨ρ3,W3,rfl,a3,q3⟩⟩
def At.now{K:A_}{W0:Vw}{G:Hp}{W:Vw}{ρ:DS}{σ:St}(a:At K Z W0 G W ρ σ):At K Z W0 W.g W ρ σ:=⟨a.le,Same.refl _,a.rl⟩
theorem lU{j:Nat}{x:Str}{iter:Expr}{body:List Stmt}{tb:DTS}{px:Pos}(hc:X.calm=true)(hN:X.N.Nodup)(hi:X.N[j]? = some x)(hx:Loc X.env.scope x)(hp:PassesOwn (model X.prog X.w) X.A X.env X.xe)
  (h:DE X iter te) (hb:DSs X fr body tb) (hs:∀x,foldedSetIterable iter X.env x=pure x:=by intro _;rfl)
  (hf:X.fn x=true∨X.env.scope.names.lookup x=some .local:=by walk_at "f"):DSt X fr (.For (.Name x px) iter body [] pos) (O4 j te tb):=by
 obtain⟨tt,p,l⟩:=h
 obtain⟨tbs,p2,l2⟩:=hb
 refine⟨_,wR hp hc (su p) (z4 hN hi hx hf) p2 hs,fun W0 G ρ σ W D D' at_ s h=>l ρ σ W _ at_.rl h _ fun d v W1 s1 i1 zz=>?_⟩
 obtain⟨ds,Pv,el,h0,ht,hd⟩:=zz
 have hg:Same G W1.g:=at_.gs.trans s1.g
 have hq:∃a xs,v=.ref a∧(∀W2:Vw,Same W1.g W2.g→SqL X.K W2.h a xs)∧AllIs X.K W1.g ds xs:=by
  cases d with
  | lst es=>
   obtain rfl:es=ds:=Option.some.inj el
   obtain⟨a,xs,rfl,h1,h2⟩:=is_lst.mp i1
   exact⟨a,xs,rfl,fun W2 s2=>.of (W2.sub _ _ (s2 _ _ h1)),h2⟩
  | scr ns=>
   obtain rfl:ns.map Dt.int=ds:=Option.some.inj el
   obtain⟨a,rfl,h1⟩:=is_scr.mp i1
   exact⟨a,_,rfl,fun W2 s2=>W2.sub.seq (s2.seq h1),AllIs.ints⟩
  | _=>cases el
 obtain⟨a,xs,rfl,hq,ha⟩:=hq
 refine⟨a,rfl,⟨xs,hq W1 (Same.refl _)⟩,n8 (K:=X.K) (a:=a) (xs:=xs) (fun i=>InL X.K (Zx X) W0 W1 (Pv i)) ⟨ρ,W1,rfl,(at_.step s1).now,h0⟩ (fun i σ' H' _ ⟨_,W2,e2,a2,_⟩=>e2 ▸ hq W2 a2.gs) ?_ ?_⟩
 ·rintro i x σ' _ hi ⟨ρ',W2,rfl,a2,hp2⟩
  obtain⟨e,he,ie⟩:=ha.get' hi
  exact l2 W0 W1.g _ _ W2 { D with nx:=Pv (i+1),ct:=Pv (i+1),bk:=D.nx } _ (a2.set j (Is.mono0 a2.gs ie)) (yD s hg) (ht i e ρ' he hp2)
 ·rintro σ' _ ⟨ρ',W2,rfl,a2,hp2⟩
  exact s.nx ρ' σ' W2 (a2.weak hg) (hd ρ' (by rw[ha.length];exact hp2))
theorem Va{j:Nat}{x:Str}{a:Expr}{body:List Stmt}{tb:DTS}{px p0 pos1:Pos}(hc:X.calm=true)(hN:X.N.Nodup)(hi:X.N[j]? = some x)(hx:Loc X.env.scope x)(hp:PassesOwn (model X.prog X.w) X.A X.env X.xe)
  (hg:Gl X "range") (hm:X.mg "range"=none) (h:DE X a te) (hb:DSs X fr body tb) (hs:∀x,foldedSetIterable (.Call (.Name "range" p0) [a] [] pos1) X.env x=pure x:=by intro _;rfl)
  (hst:starEach [a] X.env=[(false,eval a X.env)]:=by rfl) (hst2:starEach [a] X.env=(false,eval a X.env)::starEach [] X.env:=by rfl)
  (hf:X.fn x=true∨X.env.scope.names.lookup x=some .local:=by walk_at "f"):DSt X fr (.For (.Name x px) (.Call (.Name "range" p0) [a] [] pos1) body [] pos) (O3 j te tb):=by
 obtain⟨tt,p,l⟩:=h
 obtain⟨tbs,p2,l2⟩:=hb
 refine⟨_,wR hp hc (qO hg hm (zB p zS hst2) hst) (z4 hN hi hx hf) p2 hs,fun W0 G ρ σ W D D' at_ s h=>l ρ σ W _ at_.rl h _ fun d v W1 s1 i1 zz=>?_⟩
 obtain⟨n,Pv,ed,n1,n2,h0,ht,hd⟩:=zz
 subst ed
 have hg:Same G W1.g:=at_.gs.trans s1.g
 refine⟨n,by rw[is_int.mp i1],n1,n2,q8 (lo:=0) (n:=n.toNat) (fun i=>InL X.K (Zx X) W0 W1 (Pv i)) ⟨ρ,W1,rfl,(at_.step s1).now,h0⟩ ?_ ?_⟩
 ·rintro i σ' _ hi ⟨ρ',W2,rfl,a2,hp2⟩
  have ez:(0:Int)+(i:Int)=(i:Int):=Int.zero_add _
  rw[ez]
  exact l2 W0 W1.g _ _ W2 { D with nx:=Pv (i+1),ct:=Pv (i+1),bk:=D.nx } _ (a2.set j (is_int.mpr rfl)) (yD s hg) (ht i ρ' hi hp2)
 ·rintro σ' _ ⟨ρ',W2,rfl,a2,hp2⟩
  exact s.nx ρ' σ' W2 (a2.weak hg) (hd ρ' hp2)
def x9{c:Expr}{body:List Stmt}{tc:DTT}{tb:DTS}(hp:PassesOwn (model X.prog X.w) X.A X.env X.xe)(hc:DT X c tc)(hb:DSs X fr body tb):DSt X fr (.While c body [] pos) (cM tc tb):=by
 obtain⟨t0,p0,l0⟩:=hc
 obtain⟨tbs,p2,l2⟩:=hb
 refine⟨_,hW hp p0 p2,fun W0 G ρ σ W D D' at_ s h=>?_⟩
 obtain⟨Pv,⟨m0,h0⟩,ht⟩:=h
 refine⟨fun m=>InL X.K (Zx X) W0 W (Pv m),⟨m0,ρ,W,rfl,at_.now,h0⟩,?_⟩
 rintro m σ' _ ⟨ρ',W2,rfl,a2,hp2⟩
 refine l0 ρ' σ' W2 _ a2.rl (ht m ρ' hp2) _ fun b W3 s3 q3=>?_
 have a3:=a2.step s3
 cases b with
 | true=>
  refine⟨InL X.K (Zx X) W0 W (fun ρ2=>∃m',m'<m∧Pv m' ρ2),fun σ4 H4 ⟨ρ4,W4,e4,a4,m',hm,p4⟩=>⟨m',hm,ρ4,W4,e4,a4,p4⟩,?_⟩
  exact l2 W0 W.g _ _ W3 { D with nx:=fun ρ2=>∃m',m'<m∧Pv m' ρ2,ct:=fun ρ2=>∃m',m'<m∧Pv m' ρ2,bk:=D.nx } _ a3 (yD s at_.gs) q3
 | false=>exact s.nx ρ' σ' W3 (a3.weak at_.gs) q3
variable{i:Nat}{x:Str}
def M7(i:Nat)(te:DTE):DTS:=fun D ρ=>∃ds,ρ[i]? = some (.own ds)∧te ρ fun d=>ds.length≤100000∧D.nx (ρ.set i (.own (ds++[d])))
def w8(i:Nat)(h:DE X e te)(hN:X.N[i]? = some x:=by rfl)(hv:Vis X.env.scope x:=by walk_at "v")(hd:ug x:=by decide)
  (hcd:we x:=by decide) (hst:starEach [e] X.env=(false,eval e X.env)::starEach [] X.env:=by rfl) (hpl:K' X.env p2 []:=by rfl)
  (hfew:((backTo p2 (starEach [e] X.env)).all (fun x=>!x.1)&&(backToKw p2 (keywordEach [] X.env)).all (fun x=>x.1.isSome)
   && decide ([e].length+([]:List Keyword).length+(if([]:List Keyword).isEmpty then 0 else 1)<30))=true:=by rfl)
  (hbase:attributeBase (.Name x p0) "append" X.env (eval (.Name x p0) X.env)=eval (.Name x p0) X.env:=by rfl) (hline:(p1.endLine==p2.line)=true:=by rfl)
  (hs:swapsWith (.Call (.Attribute (.Name x p0) "append" p1) [e] [] p2) none pos.line X.env=pure false:=by rfl):
  DSt X fr (.Expr (.Call (.Attribute (.Name x p0) "append" p1) [e] [] p2) pos) (M7 i te):=by
 obtain⟨tt,p,l⟩:=h
 refine⟨_,ww (sY PySem.F.plainAttrs_list PySem.F.slot_list_append PySem.F.type_list_append vk (yj hN hv hd hcd) (zB p zS hst) hbase hfew hline hst hpl) hs,fun W0 G ρ σ W D D' at_ s h=>?_⟩
 obtain⟨ds,ei,h⟩:=h
 obtain⟨b,xs,e1,e2,e3,e4,e5⟩:=at_.rl.ow i ds ei
 refine⟨.ref b,e1,.inl ⟨rfl,xs,.of e2⟩,l ρ σ W _ at_.rl h _ fun d v W1 s1 i1 zz=>?_⟩
 obtain⟨hl,q1⟩:=zz
 have a1:=at_.step s1
 have hg1:W1.g b=none:=s1.n b (by rw[e2];intro z;cases z) e3
 refine⟨b,xs,v,rfl,rfl,s1.h _ _ e2,by rw[←e5.length];exact BV hl (by decide),?_⟩
 exact s.nx _ _ _ (a1.put ei e1 hg1 e4 ((e5.mono s1).append (allIs_cons.mpr ⟨v,[],rfl,i1,allIs_nil.mpr rfl⟩))) q1
def AllIs.dropLast{G:Hp}{ds:List Dt}{xs:List V}(h:AllIs K G ds xs):AllIs K G ds.dropLast xs.dropLast:=by
 rw[List.dropLast_eq_take,List.dropLast_eq_take,h.length]
 exact h.take _
theorem AllIs.reverse{G:Hp}:∀{ds:List Dt}{xs:List V},AllIs K G ds xs→AllIs K G ds.reverse xs.reverse
 | [],_,h=>by rw[allIs_nil.mp h];exact allIs_nil.mpr rfl
 | d::ds,_,h=>by
  obtain⟨x,r,rfl,h1,h2⟩:=allIs_cons.mp h
  rw[BR,BR]
  exact(AllIs.reverse h2).append (allIs_cons.mpr ⟨x,[],rfl,h1,allIs_nil.mpr rfl⟩)
theorem AllIs.set{G:Hp}:∀{ds:List Dt}{xs:List V}{d:Dt}{v:V}(j:Nat),AllIs K G ds xs→Is K G d v→AllIs K G (ds.set j d) (xs.set j v)
 | [],_,_,_,_,h,_=>by rw[allIs_nil.mp h];exact allIs_nil.mpr rfl
 | d::ds,_,_,_,0,h,i=>by
  obtain⟨x,r,rfl,h1,h2⟩:=allIs_cons.mp h
  exact allIs_cons.mpr ⟨_,_,rfl,i,h2⟩
 | d::ds,_,_,_,j+1,h,i=>by
  obtain⟨x,r,rfl,h1,h2⟩:=allIs_cons.mp h
  exact allIs_cons.mpr ⟨_,_,rfl,h1,AllIs.set j h2 i⟩
def OJ(i:Nat):DTS:=fun D ρ=>∃ds,ρ[i]? = some (.own ds)∧ds.isEmpty=false∧D.nx (ρ.set i (.own ds.dropLast))
def Qy(i:Nat)(hN:X.N[i]? = some x:=by rfl)(hv:Vis X.env.scope x:=by walk_at "v")(hd:ug x:=by decide)
  (hcd:we x:=by decide)
  (hbase:attributeBase (.Name x p0) "pop" X.env (eval (.Name x p0) X.env)=eval (.Name x p0) X.env:=by rfl) (hline:(p1.endLine==p2.line)=true:=by rfl)
  (hs:swapsWith (.Call (.Attribute (.Name x p0) "pop" p1) [] [] p2) none pos.line X.env=pure false:=by rfl):
  DSt X fr (.Expr (.Call (.Attribute (.Name x p0) "pop" p1) [] [] p2) pos) (OJ i):=by
 refine⟨_,ww (gm PySem.F.plainAttrs_list PySem.F.slot_list_pop PySem.F.type_list_pop Qg (yj hN hv hd hcd) hbase hline) hs,fun W0 G ρ σ W D D' at_ s h=>?_⟩
 obtain⟨ds,ei,hne,q1⟩:=h
 obtain⟨b,xs,e1,e2,e3,e4,e5⟩:=at_.rl.ow i ds ei
 have hx:xs≠[]:=fun z=>by
  have:=e5.length
  rw[z]at this
  rw[List.length_eq_zero_iff.mp this]at hne
  cases hne
 have hlt:xs.length-1<xs.length:=by
  have:=List.length_pos_iff.mpr hx
  omega
 exact⟨.ref b,e1,.inl ⟨rfl,xs,.of e2⟩,b,xs,xs[xs.length-1],rfl,rfl,e2,Bh hlt,s.nx _ _ _ (at_.put ei e1 e3 e4 e5.dropLast) q1⟩
def MR(i:Nat):DTS:=fun D ρ=>∃ds,ρ[i]? = some (.own ds)∧D.nx (ρ.set i (.own ds.reverse))
def cw(i:Nat)(hN:X.N[i]? = some x:=by rfl)(hv:Vis X.env.scope x:=by walk_at "v")(hd:ug x:=by decide)
  (hcd:we x:=by decide)
  (hbase:attributeBase (.Name x p0) "reverse" X.env (eval (.Name x p0) X.env)=eval (.Name x p0) X.env:=by rfl) (hline:(p1.endLine==p2.line)=true:=by rfl)
  (hs:swapsWith (.Call (.Attribute (.Name x p0) "reverse" p1) [] [] p2) none pos.line X.env=pure false:=by rfl):
  DSt X fr (.Expr (.Call (.Attribute (.Name x p0) "reverse" p1) [] [] p2) pos) (MR i):=by
 refine⟨_,ww (gm PySem.F.plainAttrs_list PySem.F.slot_list_reverse PySem.F.type_list_reverse lF (yj hN hv hd hcd) hbase hline) hs,fun W0 G ρ σ W D D' at_ s h=>?_⟩
 obtain⟨ds,ei,q1⟩:=h
 obtain⟨b,xs,e1,e2,e3,e4,e5⟩:=at_.rl.ow i ds ei
 exact⟨.ref b,e1,.inl ⟨rfl,xs,.of e2⟩,b,xs,rfl,rfl,e2,s.nx _ _ _ (at_.put ei e1 e3 e4 e5.reverse) q1⟩
end
section
variable{P:Program}{w:World}{K:A_}{mg:be}{base:Heap}
def y0{W:Vw}{N:List Str}{ds:List Dt}{vs:List V}(ia:AllIs K W.g ds vs)(hz:Z=W.h):At K Z W W.g W (z_ N.length ds) (start N vs):=⟨Le.refl W,Same.refl _,Rl.start ia (hz ▸ Same.refl _)⟩
theorem okD{x qual:Str}{st:Stmt}{f:Addr}{fd:FuncData}{N ps:List Str}{k:Nat}{S:DSp}(F:Fun K x qual st f fd)(sc:zh N ps (defScope st))(len:∀ds Q,S ds Q→ds.length=ps.length)
  (hbody:∀(cdv:Value)(A:Around)(outer:List Env)(s:Shared)(H:Hp)(E:XK),Room k (A.deeper (envOfC qual (defScope st) s.heap.objs.size f cdv))→∀(ds:List Dt)(Q:Dt→Prop),S ds Q→
   ∃t,DSs (yg CX0 P w K mg base N qual (defScope st) f cdv A outer s H E).nox .d (defBody st) t∧t { nx:=fun _=>Q .non,rt:=Q } (z_ N.length ds)):FnOk P w K mg base CX0 (k+1) f fd ps (zw K S):=by
 refine F.ok sc (fun vs H Q E h=>?_) (fun cdv A outer s H vs Q E hr h=>?_)
 ·obtain⟨W,ds,Qd,_,ia,hS,_⟩:=h
  rw[←ia.length]
  exact len ds Qd hS
 obtain⟨W,ds,Qd,rfl,ia,hS,kk⟩:=h
 obtain⟨t,⟨ts,p,l⟩,ht⟩:=hbody cdv A outer s W.h E hr ds Qd hS
 refine⟨ts,p,l W W.g (z_ N.length ds) (start N vs) W { nx:=fun _=>Qd .non,rt:=Qd } _ (y0 ia (wJ (BN _))) ⟨fun ρ σ W' a q=>kk .non .non W' a.le (is_non.mpr rfl) q,fun d v W' s' i' q=>kk d v W' s' i' q,fun _ _ _ _ q=>q.elim,fun _ _ _ _ q=>q.elim⟩ ht⟩
theorem okF{x qual:Str}{st:Stmt}{f:Addr}{fd:FuncData}{N ps:List Str}{k:Nat}{S:DSp}(F:Fun K x qual st f fd)(sc:zh N ps (defScope st))(len:∀ds Q,S ds Q→ds.length=ps.length)
  (hbody:∀(cdv:Value)(A:Around)(outer:List Env)(s:Shared)(H:Hp)(E:XK),Room k (A.deeper (envOfC qual (defScope st) s.heap.objs.size f cdv))→∀(ds:List Dt)(Q:Dt→Prop),S ds Q→
   ∃t,DSs (yg CX0 P w K mg base N qual (defScope st) f cdv A outer s H E).nox .l (defBody st) t∧t { nx:=fun _=>False,rt:=Q } (z_ N.length ds)):FnOk P w K mg base CX0 (k+1) f fd ps (xl K S):=by
 refine F.ok sc (fun vs H Q E h=>?_) (fun cdv A outer s H vs Q E hr h=>?_)
 ·obtain⟨W,ds,Qd,_,ia,hS,_⟩:=h
  rw[←ia.length]
  exact len ds Qd hS
 obtain⟨W,ds,Qd,rfl,ia,hS,kk⟩:=h
 obtain⟨t,⟨ts,p,l⟩,ht⟩:=hbody cdv A outer s W.h E hr ds Qd hS
 exact⟨ts,p,l W W.g (z_ N.length ds) (start N vs) W { nx:=fun _=>False,rt:=Qd } _ (y0 ia (wJ (BN _))) ⟨fun ρ σ W' a q=>q.elim,fun d v W' s' ⟨es,p,xs,e1,e2,e3,e4,e5,e6⟩ q=>by subst e1;subst e2;exact kk es p xs W' s' e3 e4 e5 e6 q,fun _ _ _ _ q=>q.elim,fun _ _ _ _ q=>q.elim⟩ ht⟩
def DOk.mk'{x qual:Str}{st:Stmt}{f:Addr}{fd:FuncData}{ps:List Str}{n:Nat}{S:DSp}(F:Fun K x qual st f fd)(hm:mg x=some (.ref f))(hb:Binds K fd ps [])(h:FnOk P w K mg base CX0 n f fd ps (zw K S)):DOk P w K mg base n x S:=
 ⟨f,fd,ps,hm,F.kp,hb,h⟩
def FOk.mk'{x qual:Str}{st:Stmt}{f:Addr}{fd:FuncData}{ps:List Str}{n:Nat}{S:DSp}(F:Fun K x qual st f fd)(hm:mg x=some (.ref f))(hb:Binds K fd ps [])(h:FnOk P w K mg base CX0 n f fd ps (xl K S)):FOk P w K mg base n x S:=
 ⟨f,fd,ps,hm,F.kp,hb,h⟩
def MOk.mono{C:Addr}{x:Str}{m n:Nat}{S:DSp}(h:MOk P w K mg base m C x S)(hl:m≤n):MOk P w K mg base n C x S:=
 ⟨h.cl,let⟨f,fd,ps,h1,h3,h4⟩:=h.ex; ⟨f,fd,ps,h1,h3,h4.mono hl⟩⟩
def FMOk.mono{C:Addr}{x:Str}{m n:Nat}{S:DSp}(h:FMOk P w K mg base m C x S)(hl:m≤n):FMOk P w K mg base n C x S:=
 ⟨h.cl,let⟨f,fd,ps,h1,h3,h4⟩:=h.ex; ⟨f,fd,ps,h1,h3,h4.mono hl⟩⟩
def MOk.imp{C:Addr}{x:Str}{n:Nat}{S S':DSp}(h:MOk P w K mg base n C x S)(hi:∀ds Q,S' ds Q→S ds Q):MOk P w K mg base n C x S':=
 ⟨h.cl,let⟨f,fd,ps,h1,h3,h4⟩:=h.ex; ⟨f,fd,ps,h1,h3,h4.imp fun vs H Q E ⟨W,ds,Qd,a,b,c,d⟩=>⟨W,ds,Qd,a,b,hi _ _ c,d⟩⟩⟩
def FMOk.imp{C:Addr}{x:Str}{n:Nat}{S S':DSp}(h:FMOk P w K mg base n C x S)(hi:∀ds Q,S' ds Q→S ds Q):FMOk P w K mg base n C x S':=
 ⟨h.cl,let⟨f,fd,ps,h1,h3,h4⟩:=h.ex; ⟨f,fd,ps,h1,h3,h4.imp fun vs H Q E ⟨W,ds,Qd,a,b,c,d⟩=>⟨W,ds,Qd,a,b,hi _ _ c,d⟩⟩⟩
end
end OD
namespace OD
open PySem PySem.Spec PyProof.Rows L2
mutual
def eqD:Dt→Dt→Bool
 | .non,.non=>true
 | .bl a,.bl b=>a==b
 | .bl a,.int b=>(if a then(1:Int) else 0)==b
 | .int a,.bl b=>a==(if b then(1:Int) else 0)
 | .int a,.int b=>a==b
 | .str a,.str b=>a==b
 | .tup ds,.tup es=>eqDs ds es
 | .lst ds,.lst es=>eqDs ds es
 | _,_=>false
def eqDs:List Dt→List Dt→Bool
 | [],[]=>true
 | d::ds,e::es=>eqD d e&&eqDs ds es
 | _,_=>false
end
def okE:Nat→Dt→Bool
 | _,.non=>true
 | _,.bl _=>true
 | _,.int _=>true
 | _,.str _=>true
 | n+1,.tup ds=>ds.all (okE n)
 | n+1,.lst ds=>ds.all (okE n)
 | _,_=>false
def vo(a b:Int):eqD (.int a) (.int b)=(a==b):=by unfold eqD;rfl
def cj(a b:Bool):eqD (.bl a) (.bl b)=(a==b):=by unfold eqD;rfl
def oF(a b:Str):eqD (.str a) (.str b)=(a==b):=by unfold eqD;rfl
def sD(ds es:List Dt):eqD (.tup ds) (.tup es)=eqDs ds es:=by rw[eqD]
def sE(ds es:List Dt):eqD (.lst ds) (.lst es)=eqDs ds es:=by rw[eqD]
def rN:eqDs [] []=true:=by unfold eqDs;rfl
def uY(d e:Dt)(ds es:List Dt):eqDs (d::ds) (e::es)=(eqD d e&&eqDs ds es):=by rw[eqDs]
def qC(e:Dt)(es:List Dt):eqDs [] (e::es)=false:=by unfold eqDs;rfl
def qD(e:Dt)(es:List Dt):eqDs (e::es) []=false:=by unfold eqDs;rfl
theorem xE:∀ds es:List Dt,(((List.range (min ds.length es.length)).all fun j=>eqD (ds.getD j .non) (es.getD j .non))&&(ds.length==es.length))=eqDs ds es
 | [],[]=>by rw[rN];rfl
 | [],e::es=>by
  rw[qC]
  have h:((([]:List Dt).length==(e::es).length))=false:=by simp
  rw[h,Bool.and_false]
 | d::ds,[]=>by
  rw[qD]
  have h:(((d::ds).length==([]:List Dt).length))=false:=by simp
  rw[h,Bool.and_false]
 | d::ds,e::es=>by
  have ih:=xE ds es
  rw[uY,←ih]
  have hm:min (d::ds).length (e::es).length=min ds.length es.length+1:=by
   rw[Bm,Bm];omega
  rw[hm,List.range_succ_eq_map,List.all_cons,List.all_map,Bool.and_assoc]
  have hl:((d::ds).length==(e::es).length)=(ds.length==es.length):=by
   rw[Bm,Bm]
   rw[BW,beq_iff_eq,beq_iff_eq]
   omega
  rw[hl]
  rfl
def pd{ds es:List Dt}(h:ds.length≠es.length):eqDs ds es=false:=by
 rw[←xE ds es]
 have h:(ds.length==es.length)=false:=beq_eq_false_iff_ne.mpr h
 rw[h,Bool.and_false]
def n_{ds es:List Dt}(h:ds.length=es.length):((List.range ds.length).all fun j=>eqD (ds.getD j .non) (es.getD j .non))=eqDs ds es:=by
 rw[←xE ds es]
 have h':(ds.length==es.length)=true:=beq_iff_eq.mpr h
 rw[h',Bool.and_true,←h,Nat.min_self]
theorem uX:∀{ds:List Dt},(∀d∈ds,eqD d d=true)→eqDs ds ds=true
 | [],_=>rN
 | d::ds,h=>by
  rw[uY,h d Bi,uX fun e he=>h e (Bd _ he)]
  rfl
def ma:∀(n:Nat){d:Dt},okE n d=true→eqD d d=true:=by
 intro n
 induction n with
 | zero=>
  intro d h
  cases d with
  | non=>unfold eqD;rfl
  | bl b=>rw[cj];exact beq_self_eq_true _
  | int b=>rw[vo];exact beq_self_eq_true _
  | str b=>rw[oF];exact beq_self_eq_true _
  | _=>simp[okE]at h
 | succ n ih=>
  intro d h
  cases d with
  | non=>unfold eqD;rfl
  | bl b=>rw[cj];exact beq_self_eq_true _
  | int b=>rw[vo];exact beq_self_eq_true _
  | str b=>rw[oF];exact beq_self_eq_true _
  | tup ds=>
   rw[sD]
   have h':∀d∈ds,okE n d=true:=by simpa[okE] using h
   exact uX fun d hd=>ih (h' d hd)
  | lst ds=>
   rw[sE]
   have h':∀d∈ds,okE n d=true:=by simpa[okE] using h
   exact uX fun d hd=>ih (h' d hd)
  | _=>simp[okE]at h
example:eqD (.int ((2:Nat):Int)) (.int 2)=true:=by rfl
section
variable{X:Cx}{Aa:am}{σ:St}{K:A_}{H:Hp}{s:Shared}
theorem lR:∀{ds es:List Dt}{xs:List V},(∀d e v,d∈ds→e∈es→Is K H d v→Is K H e v→eqD d e=true)→AllIs K H ds xs→AllIs K H es xs→eqDs ds es=true
 | [],es,xs,ih,i1,i2=>by
  obtain rfl:=allIs_nil.mp i1
  cases es with
  | nil=>exact rN
  | cons e es=>obtain⟨_,_,z,_⟩:=allIs_cons.mp i2;cases z
 | d::ds,es,xs,ih,i1,i2=>by
  obtain⟨x,r,rfl,j1,j2⟩:=allIs_cons.mp i1
  cases es with
  | nil=>cases allIs_nil.mp i2
  | cons e es=>
   obtain⟨y,r',z,k1,k2⟩:=allIs_cons.mp i2
   cases z
   rw[uY,ih d e x Bi Bi j1 k1,lR (fun d' e' v' hd he=>ih d' e' v' (Bd _ hd) (Bd _ he)) j2 k2]
   rfl
def wZ:Dt→Bool
 | .non=>true
 | .bl _=>true
 | .int _=>true
 | .str _=>true
 | _=>false
def vD:Dt→V
 | .bl b=>.bl b
 | .int i=>.int i
 | .str x=>.str x
 | _=>.non
def z5{d:Dt}{v:V}(h:wZ d=true)(i:Is K H d v):v=vD d:=by
 cases d<;>first|exact is_non.mp i|exact is_bl.mp i|exact is_int.mp i|exact is_str.mp i|cases h
def uW{d:Dt}(h:wZ d=true):wY (vD d)=true:=by cases d<;>first|rfl|cases h
def uh{d:Dt}{a:Addr}(h:wZ d=true)(e:vD d=.ref a):False:=by cases d<;>first|cases e|cases h
def n9{v:V}(h:wY v=true):eqV v v=true:=by cases v<;>first|rfl|exact beq_self_eq_true _|cases h
def ui{d e:Dt}(h1:wZ d=true)(h2:wZ e=true):eqD d e=eqV (vD d) (vD e):=by cases d<;>first|exact absurd h1 Ba|(cases e<;>first|exact absurd h2 Ba|rfl)
def w6{d:Dt}{es:List Dt}(h:wZ d=true):eqD d (.tup es)=false∧eqD (.tup es) d=false∧eqD d (.lst es)=false∧eqD (.lst es) d=false:=by
 cases d<;>first|exact⟨rfl,rfl,rfl,rfl⟩|cases h
def xn{n:Nat}{d:Dt}(h:okE n d=true):wZ d=true∨∃m ds,n=m+1∧(d=.tup ds∨d=.lst ds)∧∀d∈ds,okE m d=true:=by
 cases d with
 | non=>exact .inl rfl
 | bl b=>exact .inl rfl
 | int b=>exact .inl rfl
 | str b=>exact .inl rfl
 | tup ds=>
  cases n with
  | zero=>simp[okE]at h
  | succ m=>exact .inr ⟨m,ds,rfl,.inl rfl,by simpa[okE] using h⟩
 | lst ds=>
  cases n with
  | zero=>simp[okE]at h
  | succ m=>exact .inr ⟨m,ds,rfl,.inr rfl,by simpa[okE] using h⟩
 | _=>cases n<;>simp[okE]at h
def kI:∀(n:Nat){d e:Dt}{v:V},okE n d=true→okE n e=true→Is K H d v→Is K H e v→eqD d e=true:=by
 intro n
 induction n with
 | zero=>
  intro d e v h1 h2 i1 i2
  rcases xn h1 with f1|⟨m,ds,z,_⟩
  ·rcases xn h2 with f2|⟨m,ds,z,_⟩
   ·rw[ui f1 f2,←z5 f1 i1,←z5 f2 i2]
    exact n9 (by rw[z5 f1 i1];exact uW f1)
   ·cases z
  ·cases z
 | succ n ih=>
  intro d e v h1 h2 i1 i2
  rcases xn h1 with f1|⟨m,ds,z,hk,hd⟩
  ·rcases xn h2 with f2|⟨m,es,z,hk,he⟩
   ·rw[ui f1 f2,←z5 f1 i1,←z5 f2 i2]
    exact n9 (by rw[z5 f1 i1];exact uW f1)
   ·obtain rfl:=z5 f1 i1
    rcases hk with rfl|rfl
    ·obtain⟨_,_,e,_⟩:=is_tup.mp i2;exact(uh f1 e).elim
    ·obtain⟨_,_,e,_⟩:=is_lst.mp i2;exact(uh f1 e).elim
  ·cases z
   rcases xn h2 with f2|⟨m,es,z,hk2,he⟩
   ·obtain rfl:=z5 f2 i2
    rcases hk with rfl|rfl
    ·obtain⟨_,_,e,_⟩:=is_tup.mp i1;exact(uh f2 e).elim
    ·obtain⟨_,_,e,_⟩:=is_lst.mp i1;exact(uh f2 e).elim
   ·cases z
    rcases hk with rfl|rfl
    ·obtain⟨a,xs,rfl,hx,ha⟩:=is_tup.mp i1
     rcases hk2 with rfl|rfl
     ·obtain⟨b,ys,eb,hy,hb⟩:=is_tup.mp i2
      cases eb
      rw[hx]at hy
      cases hy
      rw[sD]
      exact lR (fun d e v q1 q2=>ih (hd d q1) (he e q2)) ha hb
     ·obtain⟨b,ys,eb,hy,hb⟩:=is_lst.mp i2
      cases eb
      rw[hx]at hy
      cases hy
    ·obtain⟨a,xs,rfl,hx,ha⟩:=is_lst.mp i1
     rcases hk2 with rfl|rfl
     ·obtain⟨b,ys,eb,hy,hb⟩:=is_tup.mp i2
      cases eb
      rw[hx]at hy
      cases hy
     ·obtain⟨b,ys,eb,hy,hb⟩:=is_lst.mp i2
      cases eb
      rw[hx]at hy
      cases hy
      rw[sE]
      exact lR (fun d e v q1 q2=>ih (hd d q1) (he e q2)) ha hb
section
variable{A:Around}
open SeqAt
theorem vm{d:Dt}{v:Value}{b:Addr}{its:Array Value}(f:wZ d=true)(q:RelV (vD d) v)(t:s.heap.IsTuple b its)(hA:A.units<cLine):
  (EqAt A s v (.ref b) false∧EqAt A s (.ref b) v false)∧(RcAt A s v (.ref b) false∧RcNeAt A s v (.ref b) true)∧RcAt A s (.ref b) v false∧RcNeAt A s (.ref b) v true:=by
 cases d with
 | non=>cases q;exact⟨⟨.none_tuple t hA,.tuple_none t hA⟩,⟨.none_tuple t hA,.none_tuple t hA⟩,.tuple_none t hA,.tuple_none t hA⟩
 | bl a=>cases q;exact⟨⟨.bool_tuple a t hA,.tuple_bool a t hA⟩,⟨.bool_tuple a t hA,.bool_tuple a t hA⟩,.tuple_bool a t hA,.tuple_bool a t hA⟩
 | int a=>obtain⟨u,rfl⟩:=q;exact⟨⟨.int_tuple a u t hA,.tuple_int a u t hA⟩,⟨.int_tuple a u t hA,.int_tuple a u t hA⟩,.tuple_int a u t hA,.tuple_int a u t hA⟩
 | str a=>obtain⟨u,rfl⟩:=q;exact⟨⟨.str_tuple a u t hA,.tuple_str a u t hA⟩,⟨.str_tuple a u t hA,.str_tuple a u t hA⟩,.tuple_str a u t hA,.tuple_str a u t hA⟩
 | _=>cases f
theorem vn{d:Dt}{v:Value}{b:Addr}{its:Array Value}(f:wZ d=true)(q:RelV (vD d) v)(t:s.heap.IsList b its)(hA:A.units<cLine):
  (EqAt A s v (.ref b) false∧EqAt A s (.ref b) v false)∧(RcAt A s v (.ref b) false∧RcNeAt A s v (.ref b) true)∧RcAt A s (.ref b) v false∧RcNeAt A s (.ref b) v true:=by
 cases d with
 | non=>cases q;exact⟨⟨.none_list t hA,.list_none t hA⟩,⟨.none_list t hA,.none_list t hA⟩,.list_none t hA,.list_none t hA⟩
 | bl a=>cases q;exact⟨⟨.bool_list a t hA,.list_bool a t hA⟩,⟨.bool_list a t hA,.bool_list a t hA⟩,.list_bool a t hA,.list_bool a t hA⟩
 | int a=>obtain⟨u,rfl⟩:=q;exact⟨⟨.int_list a u t hA,.list_int a u t hA⟩,⟨.int_list a u t hA,.int_list a u t hA⟩,.list_int a u t hA,.list_int a u t hA⟩
 | str a=>obtain⟨u,rfl⟩:=q;exact⟨⟨.str_list a u t hA,.list_str a u t hA⟩,⟨.str_list a u t hA,.str_list a u t hA⟩,.list_str a u t hA,.list_str a u t hA⟩
 | _=>cases f
def WZ{d e:Dt}{v u:Value}(f1:wZ d=true)(f2:wZ e=true)(q1:RelV (vD d) v)(q2:RelV (vD e) u):RcAt A s v u (eqD d e)∧RcNeAt A s v u (!eqD d e):=by
 cases d with
 | non=>
  cases q1
  cases e with
  | non=>cases q2;exact⟨.none_none,.none_none⟩
  | bl b=>cases q2;exact⟨.none_bool b,.none_bool b⟩
  | int b=>obtain⟨t,rfl⟩:=q2;exact⟨.none_int b t,.none_int b t⟩
  | str b=>obtain⟨t,rfl⟩:=q2;exact⟨.none_str b t,.none_str b t⟩
  | _=>cases f2
 | bl a=>
  cases q1
  cases e with
  | non=>cases q2;exact⟨.bool_none a,.bool_none a⟩
  | bl b=>cases q2;exact⟨.bool_bool a b,.bool_bool a b⟩
  | int b=>obtain⟨t,rfl⟩:=q2;exact⟨.bool_int a b t,.bool_int a b t⟩
  | str b=>obtain⟨t,rfl⟩:=q2;exact⟨.bool_str a b t,.bool_str a b t⟩
  | _=>cases f2
 | int a=>
  obtain⟨ta,rfl⟩:=q1
  cases e with
  | non=>cases q2;exact⟨.int_none a ta,.int_none a ta⟩
  | bl b=>cases q2;exact⟨.int_bool a ta b,.int_bool a ta b⟩
  | int b=>obtain⟨t,rfl⟩:=q2;exact⟨.int_int a ta b t,.int_int a ta b t⟩
  | str b=>obtain⟨t,rfl⟩:=q2;exact⟨.int_str a ta b t,.int_str a ta b t⟩
  | _=>cases f2
 | str a=>
  obtain⟨ta,rfl⟩:=q1
  cases e with
  | non=>cases q2;exact⟨.str_none a ta,.str_none a ta⟩
  | bl b=>cases q2;exact⟨.str_bool a ta b,.str_bool a ta b⟩
  | int b=>obtain⟨t,rfl⟩:=q2;exact⟨.str_int a ta b t,.str_int a ta b t⟩
  | str b=>obtain⟨t,rfl⟩:=q2;exact⟨.str_str a ta b t,.str_str a ta b t⟩
  | _=>cases f2
 | _=>cases f1
end
theorem uf{n:Nat}{A:Around}{ds es:List Dt}{xs ys:List V}{its its2:List Value}
  (ih:∀{d e:Dt}{x y:V}{v u:Value},okE n d=true→okE n e=true→Is K H d x→Is K H e y→RelV x v→RelV y u→SeqAt.EqAt A s v u (eqD d e))
  (hd:∀d∈ds,okE n d=true) (he:∀d∈es,okE n d=true) (a1:AllIs K H ds xs) (a2:AllIs K H es ys) (r1:Vals xs its) (r2:Vals ys its2):
  ∀j (h1:j<its.toArray.size) (h2:j<its2.toArray.size),SeqAt.EqAt A s its.toArray[j] its2.toArray[j] (eqD (ds.getD j .non) (es.getD j .non)):=by
 intro j h1 h2
 have l1:=a1.length.trans r1.length
 have l2:=a2.length.trans r2.length
 rw[Bc]at h1 h2
 have g1:ds[j]? = some ds[j]:=Bh (by omega)
 have g2:es[j]? = some es[j]:=Bh (by omega)
 obtain⟨x,e1,i1⟩:=a1.get g1
 obtain⟨y,e2,i2⟩:=a2.get g2
 obtain⟨v,e3,q1⟩:=r1.get e1
 obtain⟨u,e4,q2⟩:=r2.get e2
 have f1:ds.getD j .non=ds[j]:=by rw[Bq,g1];rfl
 have f2:es.getD j .non=es[j]:=by rw[Bq,g2];rfl
 have f3:its.toArray[j]=v:=by
  have z:its[j]? = some its[j]:=Bh h1
  rw[z]at e3
  simpa using Option.some.inj e3
 have f4:its2.toArray[j]=u:=by
  have z:its2[j]? = some its2[j]:=Bh h2
  rw[z]at e4
  simpa using Option.some.inj e4
 rw[f1,f2,f3,f4]
 exact ih (hd _ (Bp g1)) (he _ (Bp g2)) i1 i2 q1 q2
def Ox(I:Inv X Aa σ H s):∀(n:Nat){A:Around}{d e:Dt}{x y:V}{v u:Value},A.units+n<cLine→okE n d=true→okE n e=true→Is X.K H d x→Is X.K H e y→RelV x v→RelV y u→SeqAt.EqAt A s v u (eqD d e):=by
 intro n
 induction n with
 | zero=>
  intro A d e x y v u hu h1 h2 i1 i2 q1 q2
  rcases xn h1 with f1|⟨m,ds,z,_⟩
  ·rcases xn h2 with f2|⟨m,ds,z,_⟩
   ·rw[ui f1 f2]
    rw[z5 f1 i1]at q1
    rw[z5 f2 i2]at q2
    exact lS q1 q2 (uW f1) (uW f2)
   ·cases z
  ·cases z
 | succ n ih=>
  intro A d e x y v u hu h1 h2 i1 i2 q1 q2
  have hA:A.units<cLine:=by omega
  have hu':A.in1.units+n<cLine:=by show A.units+1+n<cLine;omega
  rcases xn h1 with f1|⟨m,ds,z,hk,hd⟩
  ·rw[z5 f1 i1]at q1
   rcases xn h2 with f2|⟨m,es,z,rfl|rfl,he⟩
   ·rw[ui f1 f2]
    rw[z5 f2 i2]at q2
    exact lS q1 q2 (uW f1) (uW f2)
   ·obtain⟨b,ys,rfl,hy,hb⟩:=is_tup.mp i2
    obtain⟨its2,r2,t2,_⟩:=I.tuple (.of hy)
    cases q2
    rw[(w6 f1).1]
    exact(vm f1 q1 t2 hA).1.1
   ·obtain⟨b,ys,rfl,hy,hb⟩:=is_lst.mp i2
    obtain⟨its2,r2,t2,_⟩:=I.list (.of hy)
    cases q2
    rw[(w6 f1).2.2.1]
    exact(vn f1 q1 t2.isList hA).1.1
  ·cases z
   rcases hk with rfl|rfl
   ·obtain⟨a,xs,rfl,hx,ha⟩:=is_tup.mp i1
    obtain⟨its,r1,t1,_⟩:=I.tuple (.of hx)
    cases q1
    rcases xn h2 with f2|⟨m,es,z,rfl|rfl,he⟩
    ·rw[z5 f2 i2]at q2
     rw[(w6 f2).2.1]
     exact(vm f2 q2 t1 hA).1.2
    ·cases z
     have i2':=i2
     obtain⟨b,ys,rfl,hy,hb⟩:=is_tup.mp i2
     obtain⟨its2,r2,t2,_⟩:=I.tuple (.of hy)
     cases q2
     by_cases hab:a=b
     ·subst hab
      rw[kI _ h1 h2 i1 i2']
      exact SeqAt.EqAt.same _
     ·have q:=SeqAt.RcAt.tuples t1 t2 hA (uf (fun{d e x y v u}=>ih (A:=A.in1) hu') hd he ha hb r1 r2)
      rw[Bc,Bc,←r1.length,←r2.length,←ha.length,←hb.length,xE]at q
      rw[sD]
      exact .of_refs hab q
    ·obtain⟨b,ys,rfl,hy,hb⟩:=is_lst.mp i2
     obtain⟨its2,r2,t2,_⟩:=I.list (.of hy)
     cases q2
     exact SeqAt.EqAt.tuple_list t1 t2.isList hA
   ·obtain⟨a,xs,rfl,hx,ha⟩:=is_lst.mp i1
    obtain⟨its,r1,t1,_⟩:=I.list (.of hx)
    cases q1
    rcases xn h2 with f2|⟨m,es,z,rfl|rfl,he⟩
    ·rw[z5 f2 i2]at q2
     rw[(w6 f2).2.2.2]
     exact(vn f2 q2 t1.isList hA).1.2
    ·obtain⟨b,ys,rfl,hy,hb⟩:=is_tup.mp i2
     obtain⟨its2,r2,t2,_⟩:=I.tuple (.of hy)
     cases q2
     exact SeqAt.EqAt.list_tuple t1.isList t2 hA
    ·cases z
     have i2':=i2
     obtain⟨b,ys,rfl,hy,hb⟩:=is_lst.mp i2
     obtain⟨its2,r2,t2,_⟩:=I.list (.of hy)
     cases q2
     by_cases hab:a=b
     ·subst hab
      rw[kI _ h1 h2 i1 i2']
      exact SeqAt.EqAt.same _
     ·rw[sE]
      have l1:=ha.length.trans r1.length
      have l2:=hb.length.trans r2.length
      by_cases hl:ds.length=es.length
      ·have q:=SeqAt.RcAt.lists t1.isList t2.isList (by rw[Bc,Bc];omega) hA (uf (fun{d e x y v u}=>ih (A:=A.in1) hu') hd he ha hb r1 r2)
       rw[Bc,←l1,n_ hl]at q
       exact .of_refs hab q
      ·have q:=SeqAt.RcAt.lists_lengths t1.isList t2.isList (by rw[Bc,Bc,bne_iff_ne];omega) hA
       rw[pd hl]
       exact .of_refs hab q
theorem VR(I:Inv X Aa σ H s){n:Nat}{A:Around}{d e:Dt}{x y:V}{v u:Value}(hu:A.units+(n+1)<cLine)(h1:okE (n+1) d=true)(h2:okE (n+1) e=true)(i1:Is X.K H d x)(i2:Is X.K H e y)(q1:RelV x v)(q2:RelV y u):
  SeqAt.RcAt A s v u (eqD d e)∧SeqAt.RcNeAt A s v u (!eqD d e):=by
 have hA:A.units<cLine:=by omega
 have hu':A.in1.units+n<cLine:=by show A.units+1+n<cLine;omega
 have ih:=fun{d e:Dt}{x y:V}{v u:Value}=>Ox I n (A:=A.in1) (d:=d) (e:=e) (x:=x) (y:=y) (v:=v) (u:=u) hu'
 rcases xn h1 with f1|⟨m,ds,z,hk,hd⟩
 ·rw[z5 f1 i1]at q1
  rcases xn h2 with f2|⟨m,es,z,rfl|rfl,he⟩
  ·rw[z5 f2 i2]at q2
   exact WZ f1 f2 q1 q2
  ·obtain⟨b,ys,rfl,hy,hb⟩:=is_tup.mp i2
   obtain⟨its2,r2,t2,_⟩:=I.tuple (.of hy)
   cases q2
   rw[(w6 f1).1]
   exact(vm f1 q1 t2 hA).2.1
  ·obtain⟨b,ys,rfl,hy,hb⟩:=is_lst.mp i2
   obtain⟨its2,r2,t2,_⟩:=I.list (.of hy)
   cases q2
   rw[(w6 f1).2.2.1]
   exact(vn f1 q1 t2.isList hA).2.1
 ·cases z
  rcases hk with rfl|rfl
  ·obtain⟨a,xs,rfl,hx,ha⟩:=is_tup.mp i1
   obtain⟨its,r1,t1,_⟩:=I.tuple (.of hx)
   cases q1
   rcases xn h2 with f2|⟨m,es,z,rfl|rfl,he⟩
   ·rw[z5 f2 i2]at q2
    rw[(w6 f2).2.1]
    exact(vm f2 q2 t1 hA).2.2
   ·cases z
    obtain⟨b,ys,rfl,hy,hb⟩:=is_tup.mp i2
    obtain⟨its2,r2,t2,_⟩:=I.tuple (.of hy)
    cases q2
    have it:=uf (A:=A.in1) ih hd he ha hb r1 r2
    have q:=SeqAt.RcAt.tuples t1 t2 hA it
    have q':=SeqAt.RcNeAt.tuples t1 t2 hA it
    rw[Bc,Bc,←r1.length,←r2.length,←ha.length,←hb.length,xE]at q q'
    rw[sD]
    exact⟨q,q'⟩
   ·obtain⟨b,ys,rfl,hy,hb⟩:=is_lst.mp i2
    obtain⟨its2,r2,t2,_⟩:=I.list (.of hy)
    cases q2
    exact⟨SeqAt.RcAt.tuple_list t1 t2.isList hA,SeqAt.RcNeAt.tuple_list t1 t2.isList hA⟩
  ·obtain⟨a,xs,rfl,hx,ha⟩:=is_lst.mp i1
   obtain⟨its,r1,t1,_⟩:=I.list (.of hx)
   cases q1
   rcases xn h2 with f2|⟨m,es,z,rfl|rfl,he⟩
   ·rw[z5 f2 i2]at q2
    rw[(w6 f2).2.2.2]
    exact(vn f2 q2 t1.isList hA).2.2
   ·obtain⟨b,ys,rfl,hy,hb⟩:=is_tup.mp i2
    obtain⟨its2,r2,t2,_⟩:=I.tuple (.of hy)
    cases q2
    exact⟨SeqAt.RcAt.list_tuple t1.isList t2 hA,SeqAt.RcNeAt.list_tuple t1.isList t2 hA⟩
   ·cases z
    obtain⟨b,ys,rfl,hy,hb⟩:=is_lst.mp i2
    obtain⟨its2,r2,t2,_⟩:=I.list (.of hy)
    cases q2
    rw[sE]
    have l1:=ha.length.trans r1.length
    have l2:=hb.length.trans r2.length
    by_cases hl:ds.length=es.length
    ·have it:=uf (A:=A.in1) ih hd he ha hb r1 r2
     have q:=SeqAt.RcAt.lists t1.isList t2.isList (by rw[Bc,Bc];omega) hA it
     have q':=SeqAt.RcNeAt.lists t1.isList t2.isList (by rw[Bc,Bc];omega) hA it
     rw[Bc,←l1,n_ hl]at q q'
     exact⟨q,q'⟩
    ·have q:=SeqAt.RcAt.lists_lengths t1.isList t2.isList (by rw[Bc,Bc,bne_iff_ne];omega) hA
     have q':=SeqAt.RcNeAt.lists_lengths t1.isList t2.isList (by rw[Bc,Bc,bne_iff_ne];omega) hA
     rw[pd hl]
     exact⟨q,q'⟩
def gEq:Dt→Dt→(Dt→Prop)→Prop:=fun d e Q=>okE 40 d=true∧okE 40 e=true∧Q (.bl (eqD d e))
def gNe:Dt→Dt→(Dt→Prop)→Prop:=fun d e Q=>okE 40 d=true∧okE 40 e=true∧Q (.bl (!eqD d e))
def vR{k:Nat}(hr:Room k X.A):DOp X (compareOp .Eq) gEq:=by
 refine⟨fun x y H Q=>∃d e,Is X.K H d x∧Is X.K H e y∧okE 40 d=true∧okE 40 e=true∧Q (.bl (eqD d e)) H,fun Aa s σ H x y v u Q I rx ry h=>?_,fun H x y d e Q i1 i2 q R k=>⟨d,e,Is.mono0 H.sub i1,Is.mono0 H.sub i2,q.1,q.2.1,k _ _ H (Le.refl H) (is_bl.mpr rfl) q.2.2⟩⟩
 obtain⟨d,e,i1,i2,h1,h2,q⟩:=h
 have hu:=hr.units
 exact(VR (n:=39) I (A:=X.A) (by omega) h1 h2 i1 i2 rx ry).1 _ _ _ _ ⟨.bl _,H,I,rfl,q⟩
def ak{k:Nat}(hr:Room k X.A):DOp X (compareOp .NotEq) gNe:=by
 refine⟨fun x y H Q=>∃d e,Is X.K H d x∧Is X.K H e y∧okE 40 d=true∧okE 40 e=true∧Q (.bl (!eqD d e)) H,fun Aa s σ H x y v u Q I rx ry h=>?_,fun H x y d e Q i1 i2 q R k=>⟨d,e,Is.mono0 H.sub i1,Is.mono0 H.sub i2,q.1,q.2.1,k _ _ H (Le.refl H) (is_bl.mpr rfl) q.2.2⟩⟩
 obtain⟨d,e,i1,i2,h1,h2,q⟩:=h
 have hu:=hr.units
 exact(VR (n:=39) I (A:=X.A) (by omega) h1 h2 i1 i2 rx ry).2 _ _ _ _ ⟨.bl _,H,I,rfl,q⟩
end
def yc(X:Cx)(scope:Scope)(x:Str)(C:Addr)(s:Shared)(H:Hp)(fp:List Addr)(Aa:am):Cx where
 prog:=X.prog
 w:=X.w
 K:=X.K
 mg:=X.mg
 base:=X.base
 A:=X.A
 N:=[x]
 s₀:=s
 H₀:=H
 env:=compEnv scope C X.env
 outer:=X.stack
 stack:=X.stack
 ex:=fp
 fn:=fun _=>true
 calm:=X.calm
 pn:=X.pn++Aa
 xe:=fun _ _=>False
structure qa(scope:Scope)(x:Str):Prop where
 free:∀y∈scope.names,y.2≠.free
 cell:∀y∈scope.names,y.2≠.cell
 kind:scope.kind=.function
 names:∀y∈scope.names,y.2=.local→scope.names.lookup y.1=some .local
 loc:scope.names.lookup x=some .local
section
variable{X:Cx}{Aa:am}{σ:St}{H:Hp}{s:Shared}{scope:Scope}{x:Str}{fp:List Addr}
theorem dY{h₁:Heap}{t:Nat}{m:be}(I:Inv X Aa σ H s)(S:qa scope x)(hfp:∀b∈fp,xG X Aa H b)(hob:∀b∈fp,∃o,s.heap.get? b=some o)
  (hn:h₁.Ns s.heap.objs.size m) (hk:∀b o,s.heap.get? b=some o→h₁.get? b=some o):Inv (yc X scope x s.heap.objs.size s H fp Aa) [] [none] H { s with heap:=h₁,toks:=t }:=by
 refine⟨⟨I.ok.mod,S.kind,I.ok.glob,I.ok.blt,Bg _,fun y z c h1 _=>?_,fun y hy=>?_,fun y c _ h=>?_,I.ok.hd,I.ok.frames,.inl rfl,fun b hb=>⟨?_,fun y c h=>?_⟩,I.bs,Br I.ok.bsz I.sz,fun b o e hb=>?_,fun b hb z=>?_,I.stack,I.stkFree⟩,
  rfl,I.bare,Un.kept hk,⟨_,hn,fun i y v _ h2 _=>?_⟩,fun y c h=>?_,I.hok.fresh (Bg _),fun y c h=>?_,fun p hp=>?_,I.hok.kept hk,rfl⟩
 ·cases h1
 ·have hy:scope.names.lookup y=some .cell∨scope.names.lookup y=some .free:=hy
  rcases hy with hy|hy
  ·exact absurd rfl (S.cell _ (PySem.mem_of_lookup hy))
  ·exact absurd rfl (S.free _ (PySem.mem_of_lookup hy))
 ·cases h
 ·obtain⟨o,e⟩:=hob b hb
  exact Bl (Heap.lt_size e)
 ·cases h
 ·obtain⟨_,_,_,h4,_⟩:=hfp b hb
  rcases h4 with h4|h4
  ·exact I.ok.noex b o e h4
  ·exact absurd (Bj (Heap.lt_size e) (Br I.ok.bsz h4)) (BM _)
 ·obtain⟨_,h2,h3,_⟩:=hfp b hb
  rcases Bk.mp (I.stkSub b z) with q|q
  ·exact h2 q
  ·exact h3 q
 ·match i,h2 with
  | 0,h2=>cases h2
  | i+1,h2=>cases h2
 ·cases h
 ·cases h
 ·have hp:p∈X.pn++Aa:=by
   rcases Bx.mp hp with q|q
   ·exact q
   ·cases q
  obtain⟨h1,h2,h3,h4,h5⟩:=I.pin p hp
  refine⟨hk _ _ h1,h2,Bl (Heap.lt_size h1),fun z=>?_,h5⟩
  rcases Bk.mp (I.stkSub _ z) with q|q
  ·exact h3 q
  ·exact h4 q
def dZ{C:Addr}{σ':St}{H':Hp}{s':Shared}(I:Inv X Aa σ H s)(hfp:∀b∈fp,xG X Aa H b)(I':Inv (yc X scope x C s H fp Aa) [] σ' H' s'):Inv X Aa σ H' s':=
 I.call' (ch:=fp) I'.os I'.base I'.hok I'.bare fun b hb=>by
  obtain⟨_,h2,_,h4,h5,h6⟩:=hfp b hb
  exact⟨h4,h2,h5,h6⟩
end
section
variable{X:Cx}{Aa:am}{σ:St}{H:Hp}{s:Shared}{h':Heap}
def V7{ch:List Addr}(hn:∀b∈ch,xG X Aa H b):∀b∈ch,(b∈X.ex∨X.s₀.heap.objs.size≤b)∧b≠X.env.locals∧(∀x c,X.env.cells.lookup x=some c→c≠b)∧∀p∈X.pn++Aa,p.1≠b:=fun b hb=>by
 obtain⟨_,h2,_,h4,h5,h6⟩:=hn b hb
 exact⟨h4,h2,h5,h6⟩
def rJ{ch:List Addr}{t':Nat}(I:Inv X Aa σ H s)(hn:∀b∈ch,xG X Aa H b)(k:∀b o,b∉ch→s.heap.get? b=some o→h'.get? b=some o):Inv X Aa σ H { s with heap:=h',toks:=t' }:=by
 have nit:∀b u,H b=some u→b∉ch:=fun b u e z=>by rw[(hn b z).1]at e;cases e
 refine I.step (g':=s.gens) (d':=s.drawn) (ch:=ch) (V7 hn) (fun b o _ _ hc e _=>k b o hc e) (fun b o _ _ hc e _=>⟨o.slots,k b o hc e⟩) (fun _ _ _ _ n=>n)
  (fun b o hc e=>⟨o,k b o hc e⟩) (fun _ _ e=>e) (fun _ _ _ e=>e) (fun b ps e=>⟨#[],by rw[e];simp⟩) (fun m hm=>?_) (fun b u e=>?_) I.bare
 ·obtain⟨o,es,ep,ho,r⟩:=hm
  exact⟨o,es,ep,k _ o (fun z=>(hn _ z).2.1 rfl) ho,r⟩
 ·refine(I.hok b u e).stay (fun c v hc q=>k c v ?_ q) (fun _ q=>q) fun _ _ q=>q
  rcases hc with z|z
  ·rw[z];exact nit b u e
  ·exact nit c _ z
theorem tE{ch:List Addr}{t':Nat}{T:Addr}{xs:List V}(I:Inv X Aa σ H s)(hn:∀b∈ch,xG X Aa H b)(k:∀b o,b∉ch→s.heap.get? b=some o→h'.get? b=some o)(hT:s.heap.objs.size≤T)
  (new:ObjOk X.prog X.w (upd H T (.tup xs)) h' T (.tup xs)):Inv X Aa σ (upd H T (.tup xs)) { s with heap:=h',toks:=t' }:=by
 have nit:∀b u,H b=some u→b∉ch:=fun b u e z=>by rw[(hn b z).1]at e;cases e
 have fT:H T=none:=I.hok.fresh hT
 have old:∀b o,s.heap.get? b=some o→b≠T:=fun b o e=>Bl (Bj (Heap.lt_size e) hT)
 have up:∀b u,H b=some u→upd H T (.tup xs) b=some u:=fun b u e=>(zt (zV e fT)).trans e
 refine I.step (g':=s.gens) (d':=s.drawn) (ch:=ch) (V7 hn) (fun b o _ _ hc e _=>k b o hc e) (fun b o _ _ hc e _=>⟨o.slots,k b o hc e⟩) (fun b o _ e n=>(zt (old b o e)).trans n)
  (fun b o hc e=>⟨o,k b o hc e⟩) (fun b xs e=>up b _ e) (fun b o u e=>up b _ e) (fun b ps e=>⟨#[],by rw[up b _ e];simp⟩) (fun m hm=>?_) (fun b u e=>?_) I.bare
 ·obtain⟨o,es,ep,ho,r⟩:=hm
  exact⟨o,es,ep,k _ o (fun z=>(hn _ z).2.1 rfl) ho,r⟩
 ·by_cases hb:b=T
  ·subst hb
   rw[zr]at e
   cases e
   exact new
  ·rw[zt hb]at e
   refine(I.hok b u e).stay (fun c v hc q=>k c v ?_ q) (fun c q=>up c _ q) fun c ys q=>up c _ q
   rcases hc with z|z
   ·rw[z];exact nit b u e
   ·exact nit c _ z
end
def Itz(K:A_)(l1 l2:Addr):It:=
 ⟨fun i H=>∃xs ys x y,SqL K H l1 xs∧SqL K H l2 ys∧xs[i]? = some x∧ys[i]? = some y,
  fun i H v H'=>∃T x y,v=.ref T∧H T=none∧H'=upd H T (.tup [x,y])∧(∀xs,SqL K H l1 xs→xs[i]? = some x)∧∀ys,SqL K H l2 ys→ys[i]? = some y,
  fun i H=>∃xs ys,SqL K H l1 xs∧SqL K H l2 ys∧(xs.length≤i∨ys.length≤i)⟩
def Pa(l1 l2 z TI TO i1 i2:Addr)(i:Nat)(h:Heap):Prop:=IsZip h z TI TO .none∧IsPair h TI (.ref i1) (.ref i2)∧(∃a b,IsPair h TO a b)∧h.IsListIter i1 l1 i∧h.IsListIter i2 l2 i
theorem iP{P:Program}{w:World}{K:A_}{elts:List Expr}{x1}{tpos:Pos}(l1 l2 z TI TO i1 i2:Addr)(D:ZipApart z TI TO i1 i2 l1 l2):
  sr P w K (.Tuple elts x1 tpos) (Itz K l1 l2) [z,TI,TO,i1,i2] z (Pa l1 l2 z TI TO i1 i2) where
 mem:=by simp
 obj:=fun i h ⟨h1,h2,⟨a,b,h3⟩,⟨o4,e4,c4,d4⟩,⟨o5,e5,c5,d5⟩⟩ b hb=>by
  simp only[List.mem_cons,List.not_mem_nil,or_false]at hb
  rcases hb with rfl|rfl|rfl|rfl|rfl
  ·exact⟨_,h1,fun v z=>by cases z⟩
  ·exact⟨_,h2,fun v z=>by cases z⟩
  ·exact⟨_,h3,fun v z=>by cases z⟩
  ·exact⟨_,e4,fun v z=>by rw[d4]at z;cases z⟩
  ·exact⟨_,e5,fun v z=>by rw[d5]at z;cases z⟩
 keep:=fun i h h' ⟨h1,h2,⟨a,b,h3⟩,⟨o4,e4,c4⟩,⟨o5,e5,c5⟩⟩ k=>
  ⟨k z (by simp) _ h1,k TI (by simp) _ h2,⟨a,b,k TO (by simp) _ h3⟩,⟨o4,k i1 (by simp) _ e4,c4⟩,⟨o5,k i2 (by simp) _ e5,c5⟩⟩
 item:=fun X hP hw hK hc i Aa s σ H E I hfp ⟨h1,h2,⟨a,b,h3⟩,h4,h5⟩ ⟨xs,ys,x,y,q1,q2,e1,e2⟩=>by
  subst hP hw hK
  obtain⟨its1,r1,p1,z1⟩:=I.list q1
  obtain⟨its2,r2,p2,z2⟩:=I.list q2
  obtain⟨u,eu,ru⟩:=r1.get e1
  obtain⟨v,ev,rv⟩:=r2.get e2
  refine wpAny_pyNext_zip_item D h1 h2 h3 h4 h5 p1.isList p2.isList (x:=u) (y:=v) (by simpa using eu) (by simpa using ev) fun h' a1 a2 a3 a4 a5 a6 a7=>?_
  refine⟨_,rfl,wpAny_letOwnedTupleGo_zip a1 fun h'' b1 b2=>?_⟩
  have ne:∀b∈[z,TI,TO,i1,i2],b≠s.heap.objs.size:=fun b hb=>by
   simp only[List.mem_cons,List.not_mem_nil,or_false]at hb
   obtain⟨o4,e4,_⟩:=id h4
   obtain⟨o5,e5,_⟩:=id h5
   rcases hb with rfl|rfl|rfl|rfl|rfl
   ·exact Bl (Heap.lt_size h1)
   ·exact Bl (Heap.lt_size h2)
   ·exact Bl (Heap.lt_size h3)
   ·exact Bl (Heap.lt_size e4)
   ·exact Bl (Heap.lt_size e5)
  have zn:z≠s.heap.objs.size:=ne z (by simp)
  have aT:IsPair h'' s.heap.objs.size u v:=b2.extBut _ _ (Ne.symm zn) a5
  have I':Inv X Aa σ (upd H s.heap.objs.size (.tup [x,y])) { s with heap:=h'' }:=tE (ch:=[z,TI,TO,i1,i2]) (t':=s.toks) I hfp (fun b o hb e=>by
    simp only[List.mem_cons,List.not_mem_nil,or_false,not_or]at hb
    exact b2.extBut b o hb.1 (a7 b o hb.1 hb.2.2.1 hb.2.2.2.1 hb.2.2.2.2 e)) (Bg _) ⟨by show 2≤sizeLine;rw[sizeLine_eq];decide,[u,v],.cons ru (.cons rv .nil),_,aT,rfl,_,rfl⟩
  refine⟨.ref s.heap.objs.size,_,I',rfl,⟨_,x,y,rfl,I.fresh,rfl,fun xs' q=>?_,fun ys' q=>?_⟩,⟨b1,b2.extBut _ _ D.TIz (a7 TI _ D.TIz D.TITO D.TIi1 D.TIi2 h2),⟨u,v,b2.extBut _ _ D.TOz a2⟩,a3.extBut b2.extBut D.i1z,a4.extBut b2.extBut D.i2z⟩,fun b hb=>?_⟩
  ·rw[I.list_inj q q1];exact e1
  ·rw[I.list_inj q q2];exact e2
  ·exact(zt (ne b hb)).trans (hfp b hb).1
 done:=fun X hP hw hK hc i Aa s σ H E I hfp ⟨h1,h2,⟨a,b,h3⟩,h4,h5⟩ ⟨xs,ys,q1,q2,e⟩=>by
  subst hP hw hK
  obtain⟨its1,r1,p1,z1⟩:=I.list q1
  obtain⟨its2,r2,p2,z2⟩:=I.list q2
  refine wpAny_pyNext_zip_end (I.ok.hd hc) D h1 h2 h3 h4 h5 p1.isList p2.isList (e.imp (fun e=>?_) fun e=>?_) fun h' hk=>⟨rfl,?_⟩
  ·have:=r1.length
   simp;omega
  ·have:=r2.length
   simp;omega
  ·exact rJ (ch:=[z,TI,TO,i1,i2]) (t':=s.toks) I hfp fun b o hb e=>by
    simp only[List.mem_cons,List.not_mem_nil,or_false,not_or]at hb
    exact hk b o hb.1 hb.2.2.1 hb.2.2.2.1 hb.2.2.2.2 e
 self:=fun A i s Q E ⟨h1,_⟩ q=>wpAny_pyIter_zip h1 q
def MB(K:A_)(ta:TA):TI:=fun σ H R=>ta σ H fun vs H1=>∃l1 l2 xs ys,vs=[.ref l1,.ref l2]∧SqL K H1 l1 xs∧SqL K H1 l2 ys∧R (Itz K l1 l2) H1
def jg{n l1 l2:Nat}(h1:l1<n)(h2:l2<n):ZipApart (n+4) (n+2) (n+3) n (n+1) l1 l2:=by
 constructor<;>(show(_:Nat)≠_;omega)
def cX:bootBuiltins "zip"=some (.type "zip"):=by decide +kernel
section
variable{X:Cx}
def UT{a b:Expr}{ta:TA}{p pos:Pos}{elts:List Expr}{x1}{tpos:Pos}(hg:Gl X "zip")(hm:X.mg "zip"=none)(ha:PA X [a,b] ta)(hs:starEach [a,b] X.env=(false,eval a X.env)::starEach [b] X.env:=by rfl)
  (hpl:K' X.env pos [b]:=by rfl):PI X (.Tuple elts x1 tpos) (.Call (.Name "zip" p) [a,b] [] pos) (MB X.K ta):=by
 intro Aa s σ H R I h
 refine Call_ (xY I hg hm cX (PyProof.Rows.callWith_type1 (thn (ha pos Aa s σ H _ I h) fun us s1 zz=>?_) hs hpl))
 obtain⟨vs,H1,I1,r1,q1⟩:=zz
 obtain⟨l1,l2,xs,ys,e,q1,q2,q⟩:=q1
 subst e
 obtain⟨u,v,rfl,ru,rv⟩:=r1.two
 cases ru
 cases rv
 obtain⟨its1,r1,p1,z1⟩:=I1.list q1
 obtain⟨its2,r2,p2,z2⟩:=I1.list q2
 have lt1:l1<s1.heap.objs.size:=by obtain⟨o,e,_⟩:=id p1.isList;exact Heap.lt_size e
 have lt2:l2<s1.heap.objs.size:=by obtain⟨o,e,_⟩:=id p2.isList;exact Heap.lt_size e
 refine call_zip_2 p1.isList p2.isList fun h' b1 b2 b3 b4 b5 b6 b7=>?_
 have I2:Inv X Aa σ H1 { s1 with heap:=h' }:=I1.kept (t':=s1.toks) b7
 refine wpAny_pyIter_zip b1 ⟨s1.heap.objs.size+4,[s1.heap.objs.size+4,s1.heap.objs.size+2,s1.heap.objs.size+3,s1.heap.objs.size,s1.heap.objs.size+1],_,_,H1,rfl,I2,
  iP l1 l2 (s1.heap.objs.size+4) (s1.heap.objs.size+2) (s1.heap.objs.size+3) s1.heap.objs.size (s1.heap.objs.size+1) (jg lt1 lt2),
  ⟨b1,b2,⟨_,_,b3⟩,b4,b5⟩,fun b hb=>?_,q⟩
 have hb':s1.heap.objs.size≤b:=by
  simp only[List.mem_cons,List.not_mem_nil,or_false]at hb
  rcases hb with rfl|rfl|rfl|rfl|rfl
  ·exact Nat.le_add_right _ _
  ·exact Nat.le_add_right _ _
  ·exact Nat.le_add_right _ _
  ·exact Bg _
  ·exact Nat.le_add_right _ _
 have f:=I1.fpOk hb' (I1.hok.fresh hb')
 exact f
theorem WX{K:A_}{l1 l2:Addr}{xs ys:List V}{g:TG}{tb:TS}{D:Ends}{σ:St}{H:Hp}(Pv:Nat→St→Hp→Prop)(h0:Pv 0 σ H)(hl:∀i σ H,Pv i σ H→SqL K H l1 xs∧SqL K H l2 ys)
  (hs:∀i x y T σ H,xs[i]? = some x→ys[i]? = some y→H T=none→Pv i σ H→g (.ref T) σ (upd H T (.tup [x,y])) fun σ2 H2=>tb { D with nx:=Pv (i+1),ct:=Pv (i+1),bk:=D.nx } σ2 H2) (hd:∀σ H,Pv (min xs.length ys.length) σ H→D.nx σ H):
  ∃W:Nat→Nat→St→Hp→Prop,(∃m,W 0 m σ H)∧∀i m σ H,W i m σ H→
   ((Itz K l1 l2).stop i H∧D.nx σ H)∨((Itz K l1 l2).go i H∧∃N:St→Hp→Prop,(∀σ' H',N σ' H'→∃m',m'<m∧W (i+1) m' σ' H')∧∀x H',(Itz K l1 l2).yld i H x H'→g x σ H' fun σ2 H2=>tb { D with nx:=N,ct:=N,bk:=D.nx } σ2 H2):=by
 refine⟨fun i m σ H=>m=min xs.length ys.length-i∧i≤min xs.length ys.length∧Pv i σ H,⟨_,rfl,BY _,h0⟩,?_⟩
 rintro i m σ H ⟨rfl,hi,p⟩
 obtain⟨q1,q2⟩:=hl i σ H p
 by_cases hlt:i<min xs.length ys.length
 ·have g1:xs[i]? = some xs[i]:=Bh (by omega)
  have g2:ys[i]? = some ys[i]:=Bh (by omega)
  refine .inr ⟨⟨xs,ys,xs[i],ys[i],q1,q2,g1,g2⟩,Pv (i+1),fun σ' H' p'=>⟨min xs.length ys.length-(i+1),by omega,rfl,hlt,p'⟩,fun v H' y=>?_⟩
  obtain⟨T,x,y,rfl,hT,rfl,e1,e2⟩:=y
  exact hs i x y T σ H (e1 xs q1) (e2 ys q2) hT p
 ·have e:i=min xs.length ys.length:=by omega
  subst e
  exact .inl ⟨⟨xs,ys,q1,q2,by omega⟩,hd σ H p⟩
end
section
variable{X:Cx}{fr:Fr}{ta:DTA}{tb:DTS}{pos:Pos}
def vS{K:A_}{W1:Vw}{d:Dt}{v:V}{ds:List Dt}(i1:Is K W1.g d v)(el:yK d=some ds):∃a xs,v=.ref a∧(∀W2:Vw,Same W1.g W2.g→SqL K W2.h a xs)∧AllIs K W1.g ds xs:=by
 cases d with
 | lst es=>
  obtain rfl:es=ds:=Option.some.inj el
  obtain⟨a,xs,rfl,h1,h2⟩:=is_lst.mp i1
  exact⟨a,xs,rfl,fun W2 s2=>.of (W2.sub _ _ (s2 _ _ h1)),h2⟩
 | scr ns=>
  obtain rfl:ns.map Dt.int=ds:=Option.some.inj el
  obtain⟨a,rfl,h1⟩:=is_scr.mp i1
  exact⟨a,_,rfl,fun W2 s2=>W2.sub.seq (s2.seq h1),AllIs.ints⟩
 | _=>cases el
def O1(i j:Nat)(ta:DTA)(tb:DTS):DTS:=fun D ρ=>ta ρ fun ds=>∃(d e:Dt)(xs ys:List Dt)(Pv:Nat→DS→Prop),ds=[d,e]∧yK d=some xs∧yK e=some ys∧Pv 0 ρ∧
 (∀n x y ρ',xs[n]? = some x→ys[n]? = some y→Pv n ρ'→tb { D with nx:=Pv (n+1),ct:=Pv (n+1),bk:=D.nx } ((ρ'.set i (.some x)).set j (.some y)))∧∀ρ',Pv (min xs.length ys.length) ρ'→D.nx ρ'
theorem lT{i j:Nat}{x y:Str}{a b:Expr}{body:List Stmt}{px py pt p0 pos1:Pos}{kt:Nat}(hc:X.calm=true)(hN:X.N.Nodup)(hi:X.N[i]? = some x)(hj:X.N[j]? = some y)(hx:Loc X.env.scope x)(hy:Loc X.env.scope y)(hp:PassesOwn (model X.prog X.w) X.A X.env X.xe)
  (hg:Gl X "zip") (hm:X.mg "zip"=none) (ha:DA X [a,b] ta) (hb:DSs X fr body tb) (hs:∀z,foldedSetIterable (.Call (.Name "zip" p0) [a,b] [] pos1) X.env z=pure z:=by intro _;rfl)
  (hst:starEach [a,b] X.env=(false,eval a X.env)::starEach [b] X.env:=by rfl) (hpl:K' X.env pos1 [b]:=by rfl)
  (hf:X.fn x=true∨X.env.scope.names.lookup x=some .local:=by walk_at "f") (hf2:X.fn y=true∨X.env.scope.names.lookup y=some .local:=by walk_at "f"):
  DSt X fr (.For (.Tuple [.Name x px,.Name y py] kt pt) (.Call (.Name "zip" p0) [a,b] [] pos1) body [] pos) (O1 i j ta tb):=by
 obtain⟨tt,p,l⟩:=ha
 obtain⟨tbs,p2,l2⟩:=hb
 refine⟨_,wR hp hc (UT hg hm p hst hpl) (pY hc (yW (z4 hN hi hx hf) (yW (z4 hN hj hy hf2) sv))) p2 hs,fun W0 G ρ σ W D D' at_ s h=>l ρ σ W _ at_.rl h _ fun ds vs W1 s1 i1 zz=>?_⟩
 obtain⟨d,e,xs,ys,Pv,ed,el1,el2,h0,ht,hd⟩:=zz
 subst ed
 obtain⟨v1,v2,rfl,j1,j2⟩:=i1.two
 have hg1:Same G W1.g:=at_.gs.trans s1.g
 obtain⟨l1,us,rfl,hq1,ha1⟩:=vS j1 el1
 obtain⟨l2',ws,rfl,hq2,ha2⟩:=vS j2 el2
 refine⟨l1,l2',us,ws,rfl,hq1 W1 (Same.refl _),hq2 W1 (Same.refl _),WX (K:=X.K) (xs:=us) (ys:=ws) (fun n=>InL X.K (Zx X) W0 W1 (Pv n)) ⟨ρ,W1,rfl,(at_.step s1).now,h0⟩ (fun n σ' H' ⟨_,W2,e2,a2,_⟩=>e2 ▸ ⟨hq1 W2 a2.gs,hq2 W2 a2.gs⟩) ?_ ?_⟩
 ·rintro n u w T σ' _ hu hw hT ⟨ρ',W2,rfl,a2,hp2⟩
  obtain⟨x',ex,ix⟩:=ha1.get' hu
  obtain⟨y',ey,iy⟩:=ha2.get' hw
  have s3:=xX hT (.tup [u,w])
  have a3:=a2.step s3
  refine⟨T,_,rfl,.of zr,rfl,u,[w],rfl,w,[],rfl,rfl,?_⟩
  exact l2 W0 W1.g _ _ (W2.new T (.tup [u,w])) { D with nx:=Pv (n+1),ct:=Pv (n+1),bk:=D.nx } _ ((a3.set i (Is.mono0 a3.gs ix)).set j (Is.mono0 a3.gs iy)) (yD s hg1) (ht n x' y' ρ' ex ey hp2)
 ·rintro σ' _ ⟨ρ',W2,rfl,a2,hp2⟩
  exact s.nx ρ' σ' W2 (a2.weak hg1) (hd ρ' (by rw[ha1.length,ha2.length];exact hp2))
def V4(K:A_)(t:DTE):TE:=fun σ H R=>∃(F:Hp)(ρ:DS)(W:Vw)(Q:Dt→Prop),W.h=H∧Rl K (fun _=>none) F W ρ σ∧t ρ Q∧∀d v W',Le W W'→Is K W'.g d v→Q d→R v W'.h
def DE.up{e:Expr}{t:DTE}(h:DE X e t)(hz:X.stack.length=X.outer.length:=by rfl):PE X e (V4 X.K t):=by
 obtain⟨te,p,l⟩:=h
 intro Aa s σ H R I q
 obtain⟨F,ρ,W,Q,rfl,r,h,k⟩:=q
 have r':Rl X.K (Zx X) F W ρ σ:=by unfold Zx;rw[if_pos (Or.inl hz)];exact r
 exact p Aa s σ W.h R I (l ρ σ W Q r' h R k)
def WO{K:A_}{t:DTE}:LiE K (fun _=>none) (V4 K t) t:=fun ρ σ H Q r h R k=>⟨_,ρ,H,Q,rfl,r,h,k⟩
def l7(scope:Scope)(x:Str):Bool:=scope.names.all (fun y=>y.2 != .free&&y.2 != .cell&&(y.2 != .local||scope.names.lookup y.1==some .local))&&(scope.kind == .function)&&(scope.names.lookup x==some .local)
def QY{scope:Scope}{x:Str}(h:l7 scope x=true):qa scope x:=by
 unfold l7 at h
 rw[Bb,Bb,Bs]at h
 obtain⟨⟨h1,h2⟩,h3⟩:=h
 refine⟨fun y hy e=>?_,fun y hy e=>?_,eq_of_beq h2,fun y hy e=>?_,eq_of_beq h3⟩
 ·have:=h1 y hy
  rw[e]at this
  have:(false&&_)=true:=this
  rw[Bool.false_and]at this
  cases this
 ·have:=h1 y hy
  rw[e]at this
  have:(true&&false&&_)=true:=this
  rw[Bool.and_false,Bool.false_and]at this
  cases this
 ·have:=h1 y hy
  rw[e,Bb]at this
  exact eq_of_beq this.2
end
end OD
namespace OD
open PySem PySem.Spec PyProof.Rows L2
def Ite(K:A_)(l:Addr):It:=
 ⟨fun i H=>∃xs x,SqL K H l xs∧xs[i]? = some x,
  fun i H v H'=>∃T x,v=.ref T∧H T=none∧H'=upd H T (.tup [.int i,x])∧∀xs,SqL K H l xs→xs[i]? = some x,
  fun i H=>∃xs,SqL K H l xs∧xs.length≤i⟩
def Ux(l e it:Addr)(i:Nat)(h:Heap):Prop:=(∃old,IsEnum h e it (i:Int) old)∧h.IsListIter it l i
theorem jl{P:Program}{w:World}{K:A_}{elts:List Expr}{x1}{tpos:Pos}(l e it:Addr)(hne:e≠it):sr P w K (.Tuple elts x1 tpos) (Ite K l) [e,it] e (Ux l e it) where
 mem:=by simp
 obj:=fun i h ⟨⟨old,h1⟩,⟨o4,e4,c4,d4⟩⟩ b hb=>by
  simp only[List.mem_cons,List.not_mem_nil,or_false]at hb
  rcases hb with rfl|rfl
  ·exact⟨_,h1,fun v z=>by cases z⟩
  ·exact⟨_,e4,fun v z=>by rw[d4]at z;cases z⟩
 keep:=fun i h h' ⟨⟨old,h1⟩,⟨o4,e4,c4⟩⟩ k=>⟨⟨old,k e (by simp) _ h1⟩,⟨o4,k it (by simp) _ e4,c4⟩⟩
 item:=fun X hP hw hK hc i Aa s σ H E I hfp ⟨⟨old,h1⟩,h4⟩ ⟨xs,x,q1,e1⟩=>by
  subst hP hw hK
  obtain⟨its1,r1,p1,z1⟩:=I.list q1
  obtain⟨u,eu,ru⟩:=r1.get e1
  refine wpAny_pyNext_enum_item h1 h4 p1.isList (x:=u) (by simpa using eu) hne fun h' a1 a2 a3 a4 a5=>?_
  refine⟨_,rfl,wpAny_letOwnedTupleGo_enum a1 fun h'' b1 b2=>?_⟩
  have ne:∀b∈[e,it],b≠s.heap.objs.size:=fun b hb=>by
   simp only[List.mem_cons,List.not_mem_nil,or_false]at hb
   obtain⟨o4,e4,_⟩:=id h4
   rcases hb with rfl|rfl
   ·exact Bl (Heap.lt_size h1)
   ·exact Bl (Heap.lt_size e4)
  have en:e≠s.heap.objs.size:=ne e (by simp)
  have aT:=b2.extBut _ _ (Ne.symm en) a3
  have I':Inv X Aa σ (upd H s.heap.objs.size (.tup [.int i,x])) { s with heap:=h'',toks:=s.toks+1 }:=tE (ch:=[e,it]) (t':=s.toks+1) I hfp (fun b o hb q=>by
    simp only[List.mem_cons,List.not_mem_nil,or_false,not_or]at hb
    exact b2.extBut b o hb.1 (a5 b o hb.1 hb.2 q)) (Bg _) ⟨by show 2≤sizeLine;rw[sizeLine_eq];decide,[.int i s.toks,u],.cons ⟨_,rfl⟩ (.cons ru .nil),_,aT,rfl,_,rfl⟩
  refine⟨.ref s.heap.objs.size,_,I',rfl,⟨_,x,rfl,I.fresh,rfl,fun xs' q=>?_⟩,⟨⟨u,?_⟩,a2.extBut b2.extBut (Ne.symm hne)⟩,fun b hb=>?_⟩
  ·rw[I.list_inj q q1];exact e1
  ·have:((i+1:Nat):Int)=(i:Int)+1:=by omega
   show IsEnum h'' e it ((i+1:Nat):Int) u
   rw[this]
   exact b1
  ·exact(zt (ne b hb)).trans (hfp b hb).1
 done:=fun X hP hw hK hc i Aa s σ H E I hfp ⟨⟨old,h1⟩,h4⟩ ⟨xs,q1,e1⟩=>by
  subst hP hw hK
  obtain⟨its1,r1,p1,z1⟩:=I.list q1
  refine wpAny_pyNext_enum_end (I.ok.hd hc) h1 h4 p1.isList ?_ fun h' hk=>⟨rfl,?_⟩
  ·have:=r1.length
   simp;omega
  ·exact rJ (ch:=[e,it]) (t':=s.toks) I hfp fun b o hb q=>by
    simp only[List.mem_cons,List.not_mem_nil,or_false,not_or]at hb
    exact hk b o hb.2 q
 self:=fun A i s Q E ⟨⟨old,h1⟩,_⟩ q=>wpAny_pyIter_enum h1 q
def Os(K:A_)(ta:TA):TI:=fun σ H R=>ta σ H fun vs H1=>∃l xs,vs=[.ref l]∧SqL K H1 l xs∧R (Ite K l) H1
section
variable{X:Cx}
def iE:bootBuiltins "enumerate"=some (.type "enumerate"):=by decide +kernel
def bQ{a:Expr}{ta:TA}{p pos:Pos}{elts:List Expr}{x1}{tpos:Pos}(hg:Gl X "enumerate")(hm:X.mg "enumerate"=none)(ha:PA X [a] ta)(hs:starEach [a] X.env=(false,eval a X.env)::starEach [] X.env:=by rfl)
  (hpl:K' X.env pos []:=by rfl):PI X (.Tuple elts x1 tpos) (.Call (.Name "enumerate" p) [a] [] pos) (Os X.K ta):=by
 intro Aa s σ H R I h
 refine Call_ (xY I hg hm iE (PyProof.Rows.callWith_type1 (thn (ha pos Aa s σ H _ I h) fun us s1 zz=>?_) hs hpl))
 obtain⟨vs,H1,I1,r1,q1⟩:=zz
 obtain⟨l,xs,e,q1,q⟩:=q1
 subst e
 obtain⟨u,rfl,ru⟩:=r1.one
 cases ru
 obtain⟨its1,r1,p1,z1⟩:=I1.list q1
 refine call_enumerate_list p1.isList fun h' b1 b2 b3 b4=>?_
 have I2:Inv X Aa σ H1 { s1 with heap:=h' }:=I1.kept (t':=s1.toks) b4
 refine wpAny_pyIter_enum b1 ⟨s1.heap.objs.size+1,[s1.heap.objs.size+1,s1.heap.objs.size],_,_,H1,rfl,I2,jl l (s1.heap.objs.size+1) s1.heap.objs.size (BN _),⟨⟨_,b1⟩,b2⟩,fun b hb=>?_,q⟩
 have hb':s1.heap.objs.size≤b:=by
  simp only[List.mem_cons,List.not_mem_nil,or_false]at hb
  rcases hb with rfl|rfl
  ·exact Nat.le_add_right _ _
  ·exact Bg _
 have f:=I1.fpOk hb' (I1.hok.fresh hb')
 exact f
theorem cb{K:A_}{l:Addr}{xs:List V}{g:TG}{tb:TS}{D:Ends}{σ:St}{H:Hp}(Pv:Nat→St→Hp→Prop)(h0:Pv 0 σ H)(hl:∀i σ H,Pv i σ H→SqL K H l xs)
  (hs:∀(i:Nat) x T σ H,xs[i]? = some x→H T=none→Pv i σ H→g (.ref T) σ (upd H T (.tup [.int i,x])) fun σ2 H2=>tb { D with nx:=Pv (i+1),ct:=Pv (i+1),bk:=D.nx } σ2 H2) (hd:∀σ H,Pv xs.length σ H→D.nx σ H):
  ∃W:Nat→Nat→St→Hp→Prop,(∃m,W 0 m σ H)∧∀i m σ H,W i m σ H→
   ((Ite K l).stop i H∧D.nx σ H)∨((Ite K l).go i H∧∃N:St→Hp→Prop,(∀σ' H',N σ' H'→∃m',m'<m∧W (i+1) m' σ' H')∧∀x H',(Ite K l).yld i H x H'→g x σ H' fun σ2 H2=>tb { D with nx:=N,ct:=N,bk:=D.nx } σ2 H2):=by
 refine⟨fun i m σ H=>m=xs.length-i∧i≤xs.length∧Pv i σ H,⟨_,rfl,BY _,h0⟩,?_⟩
 rintro i m σ H ⟨rfl,hi,p⟩
 have q1:=hl i σ H p
 by_cases hlt:i<xs.length
 ·have g1:xs[i]? = some xs[i]:=Bh hlt
  refine .inr ⟨⟨xs,xs[i],q1,g1⟩,Pv (i+1),fun σ' H' p'=>⟨xs.length-(i+1),by omega,rfl,hlt,p'⟩,fun v H' y=>?_⟩
  obtain⟨T,x,rfl,hT,rfl,e1⟩:=y
  exact hs i x T σ H (e1 xs q1) hT p
 ·have e:i=xs.length:=by omega
  subst e
  exact .inl ⟨⟨xs,q1,Bg _⟩,hd σ H p⟩
end
section
variable{X:Cx}{fr:Fr}{ta:DTA}{tb:DTS}{pos p0 p1 p2:Pos}
def O5(i j:Nat)(ta:DTA)(tb:DTS):DTS:=fun D ρ=>ta ρ fun ds=>∃(d:Dt)(xs:List Dt)(Pv:Nat→DS→Prop),ds=[d]∧yK d=some xs∧Pv 0 ρ∧
 (∀(n:Nat) x ρ',xs[n]? = some x→Pv n ρ'→tb { D with nx:=Pv (n+1),ct:=Pv (n+1),bk:=D.nx } ((ρ'.set i (.some (.int n))).set j (.some x)))∧∀ρ',Pv xs.length ρ'→D.nx ρ'
theorem uZ{i j:Nat}{x y:Str}{a:Expr}{body:List Stmt}{px py pt p0 pos1:Pos}{kt:Nat}(hc:X.calm=true)(hN:X.N.Nodup)(hi:X.N[i]? = some x)(hj:X.N[j]? = some y)(hx:Loc X.env.scope x)(hy:Loc X.env.scope y)(hp:PassesOwn (model X.prog X.w) X.A X.env X.xe)
  (hg:Gl X "enumerate") (hm:X.mg "enumerate"=none) (ha:DA X [a] ta) (hb:DSs X fr body tb) (hs:∀z,foldedSetIterable (.Call (.Name "enumerate" p0) [a] [] pos1) X.env z=pure z:=by intro _;rfl)
  (hst:starEach [a] X.env=(false,eval a X.env)::starEach [] X.env:=by rfl) (hpl:K' X.env pos1 []:=by rfl)
  (hf:X.fn x=true∨X.env.scope.names.lookup x=some .local:=by walk_at "f") (hf2:X.fn y=true∨X.env.scope.names.lookup y=some .local:=by walk_at "f"):
  DSt X fr (.For (.Tuple [.Name x px,.Name y py] kt pt) (.Call (.Name "enumerate" p0) [a] [] pos1) body [] pos) (O5 i j ta tb):=by
 obtain⟨tt,p,l⟩:=ha
 obtain⟨tbs,p2,l2⟩:=hb
 refine⟨_,wR hp hc (bQ hg hm p hst hpl) (pY hc (yW (z4 hN hi hx hf) (yW (z4 hN hj hy hf2) sv))) p2 hs,fun W0 G ρ σ W D D' at_ s h=>l ρ σ W _ at_.rl h _ fun ds vs W1 s1 i1 zz=>?_⟩
 obtain⟨d,xs,Pv,ed,el1,h0,ht,hd⟩:=zz
 subst ed
 obtain⟨v1,rfl,j1⟩:=i1.one
 have hg1:Same G W1.g:=at_.gs.trans s1.g
 obtain⟨l1,us,rfl,hq1,ha1⟩:=vS j1 el1
 refine⟨l1,us,rfl,hq1 W1 (Same.refl _),cb (K:=X.K) (xs:=us) (fun n=>InL X.K (Zx X) W0 W1 (Pv n)) ⟨ρ,W1,rfl,(at_.step s1).now,h0⟩ (fun n σ' H' ⟨_,W2,e2,a2,_⟩=>e2 ▸ hq1 W2 a2.gs) ?_ ?_⟩
 ·rintro n u T σ' _ hu hT ⟨ρ',W2,rfl,a2,hp2⟩
  obtain⟨x',ex,ix⟩:=ha1.get' hu
  have s3:=xX hT (.tup [.int n,u])
  have a3:=a2.step s3
  refine⟨T,_,rfl,.of zr,rfl,.int n,[u],rfl,u,[],rfl,rfl,?_⟩
  exact l2 W0 W1.g _ _ (W2.new T (.tup [.int n,u])) { D with nx:=Pv (n+1),ct:=Pv (n+1),bk:=D.nx } _ ((a3.set i (is_int.mpr rfl)).set j (Is.mono0 a3.gs ix)) (yD s hg1) (ht n x' ρ' ex hp2)
 ·rintro σ' _ ⟨ρ',W2,rfl,a2,hp2⟩
  exact s.nx ρ' σ' W2 (a2.weak hg1) (hd ρ' (by rw[ha1.length];exact hp2))
theorem mf{j:Nat}{x:Str}{a b:Expr}{body:List Stmt}{px p0 pos1:Pos}(hc:X.calm=true)(hN:X.N.Nodup)(hi:X.N[j]? = some x)(hx:Loc X.env.scope x)(hp:PassesOwn (model X.prog X.w) X.A X.env X.xe)
  (hg:Gl X "range") (hm:X.mg "range"=none) (h:DA X [a,b] ta) (hb:DSs X fr body tb) (hs:∀x,foldedSetIterable (.Call (.Name "range" p0) [a,b] [] pos1) X.env x=pure x:=by intro _;rfl)
  (hst:starEach [a,b] X.env=[(false,eval a X.env),(false,eval b X.env)]:=by rfl) (hst2:starEach [b] X.env=[(false,eval b X.env)]:=by rfl)
  (hf:X.fn x=true∨X.env.scope.names.lookup x=some .local:=by walk_at "f"):DSt X fr (.For (.Name x px) (.Call (.Name "range" p0) [a,b] [] pos1) body [] pos) (QV j ta tb):=by
 obtain⟨tt,p,l⟩:=h
 obtain⟨tbs,p2,l2⟩:=hb
 refine⟨_,wR hp hc (jB hg hm p hst hst2) (z4 hN hi hx hf) p2 hs,fun W0 G ρ σ W D D' at_ s h=>l ρ σ W _ at_.rl h _ fun ds vs W1 s1 i1 zz=>?_⟩
 obtain⟨m,n,Pv,ed,m1,m2,n1,n2,h0,ht,hd⟩:=zz
 subst ed
 obtain⟨v1,v2,rfl,j1,j2⟩:=i1.two
 have hg1:Same G W1.g:=at_.gs.trans s1.g
 refine⟨m,n,by rw[is_int.mp j1,is_int.mp j2],⟨m1,m2,n1,n2⟩,q8 (lo:=m) (n:=(n-m).toNat) (fun i=>InL X.K (Zx X) W0 W1 (Pv i)) ⟨ρ,W1,rfl,(at_.step s1).now,h0⟩ ?_ ?_⟩
 ·rintro i σ' _ hi ⟨ρ',W2,rfl,a2,hp2⟩
  exact l2 W0 W1.g _ _ W2 { D with nx:=Pv (i+1),ct:=Pv (i+1),bk:=D.nx } _ (a2.set j (is_int.mpr rfl)) (yD s hg1) (ht i ρ' hi hp2)
 ·rintro σ' _ ⟨ρ',W2,rfl,a2,hp2⟩
  exact s.nx ρ' σ' W2 (a2.weak hg1) (hd ρ' hp2)
def MU(ta:DTA):DTE:=fun ρ Q=>ta ρ fun ds=>∃i j,ds=[.int i,.int j]∧Q (.int (if j<i then j else i))
def cI{a b:Expr}(hc:X.calm=true)(hg:Gl X "min")(hm:X.mg "min"=none)(ha:DA X [a,b] ta)(hs:starEach [a,b] X.env=(false,eval a X.env)::starEach [b] X.env:=by rfl)(hpl:K' X.env pos [b]:=by rfl):
  DE X (.Call (.Name "min" p0) [a,b] [] pos) (MU ta):=by
 obtain⟨te,p1,l1⟩:=ha
 refine⟨_,yx (iA hc) hg hm (by decide +kernel) p1 (by decide) (by decide) hs hpl,fun ρ σ H Q r h R k=>l1 ρ σ H _ r h _ fun ds vs H1 s1 i1 zz=>?_⟩
 obtain⟨i,j,ed,q⟩:=zz
 subst ed
 obtain⟨v1,v2,rfl,j1,j2⟩:=i1.two
 exact⟨i,j,by rw[is_int.mp j1,is_int.mp j2],k _ _ H1 s1 (is_int.mpr rfl) q⟩
structure tI(K:A_)(C:Addr):Prop where
 cl:Cls K C
 ha:PySem.W.findIn K (.ref C) "__class__"=some (some (.builtin "object.__class__"))
 hn:PySem.W.specialIn K (.builtin "object.__class__") "__get__"=some (some (.builtin "getset_descriptor.__get__"))
 htk:PySem.W.takesIn K (.builtin "object.__class__")=some true
 hm:PySem.W.mroIn K C (.type "object")=some true
def iC:wH X (.builtin "isinstance") (fun xs H Q=>∃v D tv b,xs=[v,.ref D]∧vY X.K H v tv∧PySem.W.kitOne X.K tv (.ref D)=some b∧Q (.bl b) H):=by
 intro Aa s σ H xs us Q I r h
 obtain⟨v,D,tv,b,rfl,hty,hk,q⟩:=h
 cases r with
 | cons r1 r2=>
  cases r2 with
  | cons r3 r4=>
   cases r4
   cases r3
   exact qX I r1 hty hk fun tk=>⟨.bl b,H,I.tok _,rfl,q⟩
def OX(K:A_)(D:Addr)(ta:DTE):DTE:=fun ρ Q=>ta ρ fun d=>∃C f n b,d=.way C f n∧tI K C∧PySem.W.kitOne K (.ref C) (.ref D)=some b∧Q (.bl b)
theorem yV{a:Expr}{t:DTE}{y:Str}{p':Pos}{D:Addr}(hm:X.mg "isinstance"=none)(hmc:X.mg y=some (.ref D))(ha:DE X a t)
  (hg:Gl X "isinstance":=by rfl) (hgc:Gl X y:=by rfl) (hdy:ug y:=by decide)
  (hs:starEach [a,.Name y p'] X.env=(false,eval a X.env)::starEach [.Name y p'] X.env:=by rfl) (hs2:starEach [.Name y p'] X.env=(false,eval (.Name y p') X.env)::starEach [] X.env:=by rfl)
  (hpl:K' X.env pos [.Name y p']:=by rfl):
  DE X (.Call (.Name "isinstance" p0) [a,.Name y p'] [] pos) (OX X.K D t):=by
 obtain⟨te,p1,l1⟩:=ha
 have pc:PE X (.Name y p') (tC (.ref D)):=sw hgc hmc rfl hdy
 refine⟨_,yx iC hg hm boot_isinstance (zB p1 (zB pc zS hs2) hs) (by decide) (by decide) hs hpl,fun ρ σ H Q r h R k=>l1 ρ σ H _ r h _ fun d v H1 s1 i1 zz=>?_⟩
 obtain⟨C,f,n,b,ed,ok,e,q⟩:=zz
 subst ed
 obtain⟨p,dx,rfl,hp⟩:=is_way.mp i1
 exact⟨_,D,_,b,rfl,.ins (H1.sub _ _ hp) ok.cl ok.ha ok.hn ok.htk ok.hm,e,k _ _ H1 s1 (is_bl.mpr rfl) q⟩
def Nb(i:Nat)(g:Int→Int→Int)(te:DTE):DTS:=fun D ρ=>∃d,ρ[i]? = some (.some d)∧te ρ fun e=>∃m n,d=.int m∧e=.int n∧D.nx (ρ.set i (.some (.int (g m n))))
theorem Vd{i:Nat}{x:Str}{e:Expr}{te:DTE}{op:Operator}{g:Int→Int→Int}{pos':Pos}(ho:PIp X op (ipI g))(hN:X.N.Nodup)(hi:X.N[i]? = some x)(hx:Loc X.env.scope x)(h:DE X e te)
  (hf:X.fn x=true∨X.env.scope.names.lookup x=some .local:=by walk_at "f"):DSt X fr (.AugAssign (.Name x pos') op e pos) (Nb i g te):=by
 obtain⟨tt,p,l⟩:=h
 refine⟨_,UO hN hi hx p ho hf,fun W0 G ρ σ W D D' a s h=>?_⟩
 obtain⟨d,ed,h⟩:=h
 obtain⟨v,ev,iv⟩:=a.rl.at_ i d ed
 refine⟨v,ev,l ρ σ W _ a.rl h _ fun z u W1 s1 i1 zz=>?_⟩
 obtain⟨m,n,em,en,q⟩:=zz
 subst em
 subst en
 exact⟨m,n,is_int.mp iv,is_int.mp i1,s.nx _ _ W1 ((a.step s1).set i (is_int.mpr rfl)) q⟩
end
end OD
namespace OD
open PySem PySem.Spec PyProof.Rows L2
def Itd(lo:Int)(n:Nat):It:=⟨fun i _=>i<n,fun i H x H'=>H'=H∧x=.int (lo-i),fun i _=>n≤i⟩
theorem jm{P:Program}{w:World}{K:A_}{tg:Expr}(it:Addr)(lo:Int)(n:Nat):sr P w K tg (Itd lo n) [it] it (fun i h=>IsRangeIter h it (lo+(i:Nat)*(-1)) ((n:Int)-(i:Nat)) (-1)) where
 mem:=by simp
 obj:=fun i h st b hb=>by
  have e:b=it:=by simpa using hb
  subst e
  exact⟨_,st,fun v z=>by
   have z':Data.fields _=Data.cell v:=z
   cases z'⟩
 keep:=fun i h h' st k=>k it (by simp) _ st
 item:=by
  intro X hP hw hK hc i Aa s σ H E I hf st hg
  subst hP hw hK
  obtain⟨f0,f1,f2,f3,f4,f5⟩:=hf it (by simp)
  have W:=Walks.range (prog:=X.prog) (w:=X.w) (I.ok.hd hc) it lo (-1) n
  refine W.item i s _ _ hg st fun v h' tk hv st' kk=>?_
  obtain⟨t,rfl⟩:=hv
  have I1:Inv X Aa σ H { s with heap:=h',toks:=tk }:=I.turned (fun b o hb e=>kk b o (by simpa using hb) e) f0 f1 f3 f4 f5
  refine⟨_,rfl,n5 (s:={ s with heap:=h',toks:=tk }) (n:="range_iterator") st' rfl rfl (by decide) ⟨.int (lo-i),H,I1,⟨t,?_⟩,⟨rfl,rfl⟩,st',fun b hb=>(hf b hb).1⟩⟩
  rw[show lo+(i:Int)*(-1)=lo-i by omega]
 done:=by
  intro X hP hw hK hc i Aa s σ H E I hf st hg
  subst hP hw hK
  obtain⟨f0,f1,f2,f3,f4,f5⟩:=hf it (by simp)
  exact wpAny_pyNext_range_end (I.ok.hd hc) st (by have:n≤i:=hg;omega) fun h' eb=>⟨rfl,I.turned (t':=s.toks) (fun b o hb e=>eb b o hb e) f0 f1 f3 f4 f5⟩
 self:=fun _ _ _ _ _ st h=>wpAny_pyIter_rangeiter st h
def wQ(a b:Int):Builtin.Range.rangeSize a b (-1)=if b<a then a-b else 0:=by
 unfold Builtin.Range.rangeSize
 rw[if_neg (by decide)]
 split
 ·rename_i h
  have:(a-b-1)/(- -1)=a-b-1:=by rw[show(- -1:Int)=1 by decide,Int.ediv_one]
  omega
 ·rfl
def mM{a b:Int}(ha:-(2^62)≤a)(ha':a<2^62)(hb:-(2^62)≤b)(hb':b<2^62):Builtin.Range.small a b (-1)=true:=by
 unfold Builtin.Range.small
 rw[wQ]
 simp only[Builtin.Range.rangeFitsLong,Bool.and_eq_true,Bool.or_eq_true,decide_eq_true_eq,beq_iff_eq,show ¬(-1:Int)>0 by decide,if_false]
 split<;>omega
section
variable{X:Cx}{tg:Expr}
def Ot(ta:TA):TI:=fun σ H R=>ta σ H fun vs H1=>∃i j:Int,vs=[.int i,.int j,.int (-1)]∧(-(2^30)≤i∧i<2^30∧-(2^30)≤j∧j<2^30)∧R (Itd i (i-j).toNat) H1
def bR{a b c:Expr}{ta:TA}{p pos:Pos}(hg:Gl X "range")(hm:X.mg "range"=none)(ha:PA X [a,b,c] ta)(hs:starEach [a,b,c] X.env=(false,eval a X.env)::starEach [b,c] X.env:=by rfl)
  (hpl:K' X.env pos [b,c]:=by rfl):PI X tg (.Call (.Name "range" p) [a,b,c] [] pos) (Ot ta):=by
 intro Aa s σ H R I h
 refine Call_ (xY I hg hm boot_range (PyProof.Rows.callWith_type1 (thn (ha pos Aa s σ H _ I h) fun us s1 zz=>?_) hs hpl))
 obtain⟨vs,H1,I1,r1,q1⟩:=zz
 obtain⟨i,j,e,⟨q1,q2,q3,q4⟩,q⟩:=q1
 subst e
 cases r1 with
 | cons r rr=>
 cases rr with
 | cons r' rr=>
 cases rr with
 | cons r'' rr=>
  cases rr
  obtain⟨t,rfl⟩:=r
  obtain⟨t',rfl⟩:=r'
  obtain⟨t'',rfl⟩:=r''
  refine call_range_3 (by decide) ?_ (Or.inl (PyProof.noPylong_small (by omega)))
  refine wpAny_pyIter_range (IsRange.new ..) (mM (by omega) (by omega) (by omega) (by omega)) ?_
  have I2:Inv X Aa σ H1 { s1 with heap:=s1.heap.push { cls:=.type "range",data:=.fields #[.int i t,.int j t',.int (-1) t''] },toks:=s1.toks }:=I1.kept fun b o e=>Heap.get?_push_of_some _ e
  refine⟨(s1.heap.push { cls:=.type "range",data:=.fields #[.int i t,.int j t',.int (-1) t''] }).objs.size,[(s1.heap.push { cls:=.type "range",data:=.fields #[.int i t,.int j t',.int (-1) t''] }).objs.size],_,_,H1,rfl,
   I2.kept (t':=s1.toks) fun b o e=>Heap.get?_push_of_some _ e,jm _ i (i-j).toNat,?_,fun b hb=>?_,q⟩
  ·have e1:i+((0:Nat):Int)*(-1)=i:=by simp
   have e2:(((i-j).toNat:Nat):Int)-((0:Nat):Int)=Builtin.Range.rangeSize i j (-1):=by rw[wQ];split<;>omega
   show IsRangeIter _ _ (i+((0:Nat):Int)*(-1)) ((((i-j).toNat:Nat):Int)-((0:Nat):Int)) (-1)
   rw[e1,e2]
   exact Heap.get?_push_size _ rfl
  ·have e:b=(s1.heap.push { cls:=.type "range",data:=.fields #[.int i t,.int j t',.int (-1) t''] }).objs.size:=by simpa using hb
   subst e
   exact I2.fpOk (Bg _) (I2.hok.fresh (Bg _))
theorem cc{lo:Int}{n:Nat}{g:TG}{tb:TS}{D:Ends}{σ:St}{H:Hp}(Pv:Nat→St→Hp→Prop)(h0:Pv 0 σ H)
  (hs:∀i σ H,i<n→Pv i σ H→g (.int (lo-i)) σ H fun σ2 H2=>tb { D with nx:=Pv (i+1),ct:=Pv (i+1),bk:=D.nx } σ2 H2) (hd:∀σ H,Pv n σ H→D.nx σ H):
  ∃W:Nat→Nat→St→Hp→Prop,(∃m,W 0 m σ H)∧∀i m σ H,W i m σ H→
   ((Itd lo n).stop i H∧D.nx σ H)∨((Itd lo n).go i H∧∃N:St→Hp→Prop,(∀σ' H',N σ' H'→∃m',m'<m∧W (i+1) m' σ' H')∧∀x H',(Itd lo n).yld i H x H'→g x σ H' fun σ2 H2=>tb { D with nx:=N,ct:=N,bk:=D.nx } σ2 H2):=by
 refine⟨fun i m σ H=>m=n-i∧i≤n∧Pv i σ H,⟨n,by simp,Nat.zero_le _,h0⟩,?_⟩
 rintro i m σ H ⟨rfl,hi,p⟩
 by_cases hlt:i<n
 ·refine .inr ⟨hlt,Pv (i+1),fun σ' H' p'=>⟨n-(i+1),by omega,rfl,hlt,p'⟩,fun x H' y=>?_⟩
  obtain⟨e,y⟩:=y
  subst e y
  exact hs i σ _ hlt p
 ·have e:i=n:=by omega
  subst e
  exact .inl ⟨Bg _,hd σ H p⟩
variable{fr:Fr}{ta:DTA}{tb:DTS}{te:DTE}{pos p0 p1 p2:Pos}
def O6(j:Nat)(ta:DTA)(tb:DTS):DTS:=fun D ρ=>ta ρ fun ds=>∃(m n:Int)(Pv:Nat→DS→Prop),ds=[.int m,.int n,.int (-1)]∧-(2^30)≤m∧m<2^30∧-(2^30)≤n∧n<2^30∧Pv 0 ρ∧
 (∀(i:Nat) ρ',i<(m-n).toNat→Pv i ρ'→tb { D with nx:=Pv (i+1),ct:=Pv (i+1),bk:=D.nx } (ρ'.set j (.some (.int (m-i)))))∧∀ρ',Pv (m-n).toNat ρ'→D.nx ρ'
def AllIs.three{K:A_}{H:Hp}{d e f:Dt}{xs:List V}(h:AllIs K H [d,e,f] xs):∃v u w,xs=[v,u,w]∧Is K H d v∧Is K H e u∧Is K H f w:=by
 obtain⟨x,r,rfl,h1,h2⟩:=allIs_cons.mp h
 obtain⟨u,w,rfl,h3,h4⟩:=h2.two
 exact⟨x,u,w,rfl,h1,h3,h4⟩
theorem Vb{j:Nat}{x:Str}{a b c:Expr}{body:List Stmt}{px p0 pos1:Pos}(hc:X.calm=true)(hN:X.N.Nodup)(hi:X.N[j]? = some x)(hx:Loc X.env.scope x)(hp:PassesOwn (model X.prog X.w) X.A X.env X.xe)
  (hg:Gl X "range") (hm:X.mg "range"=none) (h:DA X [a,b,c] ta) (hb:DSs X fr body tb) (hs:∀x,foldedSetIterable (.Call (.Name "range" p0) [a,b,c] [] pos1) X.env x=pure x:=by intro _;rfl)
  (hst:starEach [a,b,c] X.env=(false,eval a X.env)::starEach [b,c] X.env:=by rfl) (hpl:K' X.env pos1 [b,c]:=by rfl)
  (hf:X.fn x=true∨X.env.scope.names.lookup x=some .local:=by walk_at "f"):DSt X fr (.For (.Name x px) (.Call (.Name "range" p0) [a,b,c] [] pos1) body [] pos) (O6 j ta tb):=by
 obtain⟨tt,p,l⟩:=h
 obtain⟨tbs,p2,l2⟩:=hb
 refine⟨_,wR hp hc (bR hg hm p hst hpl) (z4 hN hi hx hf) p2 hs,fun W0 G ρ σ W D D' at_ s h=>l ρ σ W _ at_.rl h _ fun ds vs W1 s1 i1 zz=>?_⟩
 obtain⟨m,n,Pv,ed,m1,m2,n1,n2,h0,ht,hd⟩:=zz
 subst ed
 obtain⟨v1,v2,v3,rfl,j1,j2,j3⟩:=i1.three
 have hg1:Same G W1.g:=at_.gs.trans s1.g
 refine⟨m,n,by rw[is_int.mp j1,is_int.mp j2,is_int.mp j3],⟨m1,m2,n1,n2⟩,cc (lo:=m) (n:=(m-n).toNat) (fun i=>InL X.K (Zx X) W0 W1 (Pv i)) ⟨ρ,W1,rfl,(at_.step s1).now,h0⟩ ?_ ?_⟩
 ·rintro i σ' _ hi ⟨ρ',W2,rfl,a2,hp2⟩
  exact l2 W0 W1.g _ _ W2 { D with nx:=Pv (i+1),ct:=Pv (i+1),bk:=D.nx } _ (a2.set j (is_int.mpr rfl)) (yD s hg1) (ht i ρ' hi hp2)
 ·rintro σ' _ ⟨ρ',W2,rfl,a2,hp2⟩
  exact s.nx ρ' σ' W2 (a2.weak hg1) (hd ρ' hp2)
def MV(ta:DTA):DTE:=fun ρ Q=>ta ρ fun ds=>∃i j,ds=[.int i,.int j]∧Q (.int (if j>i then j else i))
def QG{a b:Expr}(hc:X.calm=true)(hg:Gl X "max")(hm:X.mg "max"=none)(ha:DA X [a,b] ta)(hs:starEach [a,b] X.env=(false,eval a X.env)::starEach [b] X.env:=by rfl)(hpl:K' X.env pos [b]:=by rfl):
  DE X (.Call (.Name "max" p0) [a,b] [] pos) (MV ta):=by
 obtain⟨te,p1,l1⟩:=ha
 refine⟨_,yx (iB hc) hg hm (by decide +kernel) p1 (by decide) (by decide) hs hpl,fun ρ σ H Q r h R k=>l1 ρ σ H _ r h _ fun ds vs H1 s1 i1 zz=>?_⟩
 obtain⟨i,j,ed,q⟩:=zz
 subst ed
 obtain⟨v1,v2,rfl,j1,j2⟩:=i1.two
 exact⟨i,j,by rw[is_int.mp j1,is_int.mp j2],k _ _ H1 s1 (is_int.mpr rfl) q⟩
def dW:Dt→Bool
 | .non=>true
 | _=>false
def j0{K:A_}{H:Hp}{d:Dt}{v:V}(h:Is K H d v):decide (v=.non)=dW d:=by
 cases d with
 | non=>rw[is_non.mp h];rfl
 | bl b=>rw[is_bl.mp h];rfl
 | int b=>rw[is_int.mp h];rfl
 | str b=>rw[is_str.mp h];rfl
 | tup b=>obtain⟨a,xs,rfl,_⟩:=is_tup.mp h;rfl
 | lst b=>obtain⟨a,xs,rfl,_⟩:=is_lst.mp h;rfl
 | scr b=>obtain⟨a,rfl,_⟩:=is_scr.mp h;rfl
 | way b _ _=>obtain⟨a,xs,rfl,_⟩:=is_way.mp h;rfl
 | exc b=>obtain⟨a,rfl,_⟩:=is_exc.mp h;rfl
 | opq φ=>obtain⟨a,rfl⟩:=φ.ref (is_opq.mp h);rfl
def Ud(ta:DTE):DTE:=fun ρ Q=>ta ρ fun d=>Q (.bl (dW d))
def cq{a:Expr}{j pos'}(ha:DE X a te):DT X (.Compare a [.Is] [.Constant .none j pos'] pos) (mm (Ud te)):=by
 obtain⟨t1,p1,l1⟩:=ha
 refine⟨_,UN (Te p1),lJ (te:=Pj t1) (t:=Ud te) fun ρ σ H Q r h R k=>l1 ρ σ H _ r h _ fun d v H1 s1 i1 q=>k (.bl (dW d)) (.bl (decide (v=.non))) H1 s1 (is_bl.mpr (by rw[j0 i1])) q⟩
end
end OD
namespace OD
open PySem PySem.Spec PyProof.Rows L2
section
variable{X:Cx}{a:Expr}{tl ts:TO}{hi:Option Expr}{st:Expr}{pos p2:Pos}{ta:DTE}
def Itv(K:A_)(a:Addr):It:=
 ⟨fun i H=>∃xs x,SqL K H a xs∧xs.reverse[i]? = some x,fun i H x H'=>H'=H∧∀xs,SqL K H a xs→xs.reverse[i]? = some x,fun i H=>∃xs,SqL K H a xs∧xs.length≤i⟩
def Pb(l it:Addr)(n:Nat)(i:Nat)(h:Heap):Prop:=i≤n∧h.IsRevIter it l ((n:Int)-1-(i:Int))
def bF{α:Type}{xs:List α}{i:Nat}{x:α}(h:xs.reverse[i]? = some x):i<xs.length∧xs[xs.length-1-i]? = some x:=by
 have hi:i<xs.reverse.length:=by
  rcases BQ i xs.reverse.length with q|q
  ·exact q
  ·rw[Bt q]at h;cases h
 rw[Bz]at hi
 rw[List.getElem?_reverse hi]at h
 exact⟨hi,h⟩
theorem iQ{P:Program}{w:World}{K:A_}{tg:Expr}(l it:Addr)(n:Nat):sr P w K tg ⟨fun i H=>∃xs x,xs.length=n∧SqL K H l xs∧xs.reverse[i]? = some x,(Itv K l).yld,fun i H=>∃xs,xs.length=n∧SqL K H l xs∧xs.length≤i⟩ [it] it (Pb l it n) where
 mem:=by simp
 obj:=fun i h ⟨_,o,e,c,d⟩ b hb=>by
  have e':b=it:=by simpa using hb
  subst e'
  exact⟨o,e,fun v z=>by rw[d]at z;cases z⟩
 keep:=fun i h h' ⟨hi,o,e,c⟩ k=>⟨hi,o,k it (by simp) _ e,c⟩
 item:=by
  intro X hP hw hK hc i Aa s σ H E I hf st hg
  subst hP hw hK
  obtain⟨xs,x,hn,hq,hx⟩:=hg
  obtain⟨hi,st⟩:=st
  obtain⟨hi2,hx2⟩:=bF hx
  obtain⟨its,rv,p,hz⟩:=I.list hq
  obtain⟨u,hu,ru⟩:=rv.get hx2
  obtain⟨f0,f1,f2,f3,f4,f5⟩:=hf it (by simp)
  have e1:(n:Int)-1-(i:Int)=((xs.length-1-i:Nat):Int):=by omega
  rw[e1]at st
  refine wpAny_pyNext_rev_item st p.isList (x:=u) (by simpa using hu) fun h' st' sb=>?_
  have I1:Inv X Aa σ H { s with heap:=h' }:=I.turned (t':=s.toks) (fun b o hb e=>(sb.2 b hb).trans e) f0 f1 f3 f4 f5
  obtain⟨o,e,c,d⟩:=id st'
  refine⟨u,rfl,n5 (s:={ s with heap:=h' }) e c d (by decide) ⟨x,H,I1,ru,⟨rfl,fun ys hy=>by rw[I.list_inj hy hq];exact hx⟩,⟨by omega,?_⟩,fun b hb=>(hf b hb).1⟩⟩
  have e2:(n:Int)-1-((i+1:Nat):Int)=((xs.length-1-i:Nat):Int)-1:=by omega
  rw[e2]
  exact st'
 done:=by
  intro X hP hw hK hc i Aa s σ H E I hf st hg
  subst hP hw hK
  obtain⟨xs,hn,hq,hx⟩:=hg
  obtain⟨hi,st⟩:=st
  obtain⟨f0,f1,f2,f3,f4,f5⟩:=hf it (by simp)
  have e1:(n:Int)-1-(i:Int)=-1:=by omega
  rw[e1]at st
  exact wpAny_pyNext_rev_end (I.ok.hd hc) st fun h' eb=>⟨rfl,I.turned (t':=s.toks) (fun b o hb e=>eb b o hb e) f0 f1 f3 f4 f5⟩
 self:=fun _ _ _ _ _ st h=>wpAny_pyIter_revIter st.2 h
def MD(K:A_)(ta:TA):TI:=fun σ H R=>ta σ H fun vs H1=>∃l xs,vs=[.ref l]∧SqL K H1 l xs∧R ⟨fun i H=>∃ys x,ys.length=xs.length∧SqL K H l ys∧ys.reverse[i]? = some x,(Itv K l).yld,fun i H=>∃ys,ys.length=xs.length∧SqL K H l ys∧ys.length≤i⟩ H1
def cY:bootBuiltins "reversed"=some (.type "reversed"):=by decide +kernel
def UV{a:Expr}{ta:TA}{p pos:Pos}{tg:Expr}(hg:Gl X "reversed")(hm:X.mg "reversed"=none)(ha:PA X [a] ta)(hs:starEach [a] X.env=(false,eval a X.env)::starEach [] X.env:=by rfl)
  (hpl:K' X.env pos []:=by rfl):PI X tg (.Call (.Name "reversed" p) [a] [] pos) (MD X.K ta):=by
 intro Aa s σ H R I h
 refine Call_ (xY I hg hm cY (PyProof.Rows.callWith_type1 (thn (ha pos Aa s σ H _ I h) fun us s1 zz=>?_) hs hpl))
 obtain⟨vs,H1,I1,r1,q1⟩:=zz
 obtain⟨l,xs,e,q1,q⟩:=q1
 subst e
 obtain⟨u,rfl,ru⟩:=r1.one
 cases ru
 obtain⟨its1,r1,p1,z1⟩:=I1.list q1
 refine call_reversed_list p1.isList ?_
 have I2:Inv X Aa σ H1 { s1 with heap:=s1.heap.push (revObj l ((its1.toArray.size:Int)-1)) }:=I1.kept (t':=s1.toks) fun b o e=>Heap.get?_push_of_some _ e
 have st:(s1.heap.push (revObj l ((its1.toArray.size:Int)-1))).IsRevIter s1.heap.objs.size l ((xs.length:Int)-1-((0:Nat):Int)):=by
  have e:(xs.length:Int)-1-((0:Nat):Int)=(its1.toArray.size:Int)-1:=by rw[Bc,←r1.length];omega
  rw[e]
  exact⟨_,Heap.get?_push_size _ rfl,rfl,rfl⟩
 refine wpAny_pyIter_revIter (s:={ s1 with heap:=s1.heap.push (revObj l ((its1.toArray.size:Int)-1)) }) st ⟨s1.heap.objs.size,[s1.heap.objs.size],_,_,H1,rfl,I2,iQ l s1.heap.objs.size xs.length,⟨BY _,st⟩,fun b hb=>?_,q⟩
 have e:b=s1.heap.objs.size:=by simpa using hb
 subst e
 exact I1.fpOk (Bg _) (I1.hok.fresh (Bg _))
variable{fr:Fr}{p1:Pos}
theorem AllIs.rev{K:A_}{H:Hp}:∀{ds:List Dt}{xs:List V},AllIs K H ds xs→AllIs K H ds.reverse xs.reverse
 | [],_,h=>by rw[allIs_nil.mp h];exact allIs_nil.mpr rfl
 | d::ds,_,h=>by
  obtain⟨x,r,rfl,h1,h2⟩:=allIs_cons.mp h
  rw[BR,BR]
  exact(AllIs.rev h2).append (allIs_cons.mpr ⟨x,[],rfl,h1,allIs_nil.mpr rfl⟩)
def OE(t u:DTS):DTS:=fun D ρ=>∃P:DS→Prop,t { D with nx:=P } ρ∧∀ρ',P ρ'→u D ρ'
def yp{sst:Stmt}{yG:List Stmt}{t u:DTS}(h1:DSt X fr sst t)(h2:DSs X fr yG u):DSs X fr (sst::yG) (OE t u):=by
 obtain⟨ts,p1,l1⟩:=h1
 obtain⟨us,p2,l2⟩:=h2
 refine⟨_,nA p1 p2,fun W0 G ρ σ W D D' a s h=>?_⟩
 obtain⟨P,h,k⟩:=h
 exact l1 W0 G ρ σ W { D with nx:=P } { D' with nx:=us D' } a ⟨fun ρ' σ' W' a' q=>l2 W0 G ρ' σ' W' D D' a' s (k ρ' q),s.tl,s.bk,s.ct⟩ h
end
end OD
namespace OD
open PySem PySem.Spec PyProof.Rows L2
section
variable{X:Cx}{K:A_}{H:Hp}
def gS(f:Str→Str→Dt):Dt→Dt→(Dt→Prop)→Prop:=fun d e Q=>∃x y,d=.str x∧e=.str y∧Q (f x y)
def mi{x y:Str}:decide (V.str x=V.str y)=(x==y):=by
 rw[BW]
 simp
def yJ:DOp X (compareOp .Eq) (gS fun x y=>.bl (x==y)):=by
 refine⟨_,PL,fun H x y d e Q i1 i2 ⟨a,b,ed,ee,q⟩ R k=>?_⟩
 subst ed
 subst ee
 obtain rfl:=is_str.mp i1
 obtain rfl:=is_str.mp i2
 refine⟨rfl,?_⟩
 rw[mi]
 exact k _ _ H (Le.refl H) (is_bl.mpr rfl) q
def PR:DOp X (compareOp .NotEq) (gS fun x y=>.bl (!(x==y))):=by
 refine⟨_,PD,fun H x y d e Q i1 i2 ⟨a,b,ed,ee,q⟩ R k=>?_⟩
 subst ed
 subst ee
 obtain rfl:=is_str.mp i1
 obtain rfl:=is_str.mp i2
 refine⟨rfl,?_⟩
 rw[mi]
 exact k _ _ H (Le.refl H) (is_bl.mpr rfl) q
def vt:List Dt→Option (List Str)
 | []=>some []
 | .str i::r=>(vt r).map (i::·)
 | _=>none
theorem rX:∀{ds:List Dt}{ns:List Str}{xs:List V},vt ds=some ns→AllIs K H ds xs→xs=ns.map V.str
 | [],ns,xs,e,h=>by
  cases e
  exact allIs_nil.mp h
 | d::ds,ns,xs,e,h=>by
  cases d with
  | str i=>
   obtain⟨ms,e1,e2⟩:=Bw.mp (show(vt ds).map (i::·)=some ns from e)
   obtain⟨x,r,rfl,h1,h2⟩:=allIs_cons.mp h
   rw[rX e1 h2,is_str.mp h1,←e2]
   rfl
  | _=>cases e
theorem nY(i:Str):∀ns:List Str,inV (.str i) (ns.map V.str)=ns.any fun a=>a==i
 | []=>rfl
 | n::ns=>by
  have ih:=nY i ns
  unfold inV at ih ⊢
  rw[B1,BJ,BJ,ih]
  rfl
theorem pb:∀ns:List Str,(ns.map V.str).all wY=true
 | []=>rfl
 | n::ns=>by rw[B1,List.all_cons,pb ns];rfl
def PU:DOp X (compareOp .In) (fun d e Q=>∃i ds ns,d=.str i∧nh e=some ds∧vt ds=some ns∧Q (.bl (ns.any fun a=>a==i))):=by
 refine⟨_,jD,fun H x y d e Q i1 i2 q R k=>?_⟩
 obtain⟨i,ds,ns,rfl,e1,e2,q⟩:=q
 obtain⟨p,xs,rfl,h1,h2⟩:=pL i2 e1
 obtain rfl:=rX e2 h2
 obtain rfl:=is_str.mp i1
 refine⟨p,_,rfl,h1,rfl,pb ns,?_⟩
 show R (.bl (inV (.str i) (ns.map V.str))) H.h
 rw[nY]
 exact k _ _ H (Le.refl H) (is_bl.mpr rfl) q
end
section
variable{X:Cx}{fr:Fr}{te:DTE}{tb:DTS}{pos p2:Pos}
def O7(i j:Nat)(te:DTE)(tb:DTS):DTS:=fun D ρ=>te ρ fun d=>∃(xs:List Dt)(Pv:Nat→DS→Prop),yK d=some xs∧Pv 0 ρ∧
 (∀(n:Nat) x ρ',xs[n]? = some x→Pv n ρ'→∃a b,x=.tup [a,b]∧tb { D with nx:=Pv (n+1),ct:=Pv (n+1),bk:=D.nx } ((ρ'.set i (.some a)).set j (.some b)))∧∀ρ',Pv xs.length ρ'→D.nx ρ'
theorem Vc{i j:Nat}{x y:Str}{iter:Expr}{body:List Stmt}{px py pt:Pos}{kt:Nat}(hc:X.calm=true)(hN:X.N.Nodup)(hi:X.N[i]? = some x)(hj:X.N[j]? = some y)(hx:Loc X.env.scope x)(hy:Loc X.env.scope y)(hp:PassesOwn (model X.prog X.w) X.A X.env X.xe)
  (h:DE X iter te) (hb:DSs X fr body tb) (hs:∀z,foldedSetIterable iter X.env z=pure z:=by intro _;rfl)
  (hf:X.fn x=true∨X.env.scope.names.lookup x=some .local:=by walk_at "f") (hf2:X.fn y=true∨X.env.scope.names.lookup y=some .local:=by walk_at "f"):
  DSt X fr (.For (.Tuple [.Name x px,.Name y py] kt pt) iter body [] pos) (O7 i j te tb):=by
 obtain⟨tt,p,l⟩:=h
 obtain⟨tbs,p2,l2⟩:=hb
 refine⟨_,wR hp hc (su p) (pY hc (yW (z4 hN hi hx hf) (yW (z4 hN hj hy hf2) sv))) p2 hs,fun W0 G ρ σ W D D' at_ s h=>l ρ σ W _ at_.rl h _ fun d v W1 s1 i1 zz=>?_⟩
 obtain⟨ds,Pv,el,h0,ht,hd⟩:=zz
 have hg:Same G W1.g:=at_.gs.trans s1.g
 obtain⟨a,xs,rfl,hq,ha⟩:=vS i1 el
 refine⟨a,rfl,⟨xs,hq W1 (Same.refl _)⟩,n8 (K:=X.K) (a:=a) (xs:=xs) (fun i=>InL X.K (Zx X) W0 W1 (Pv i)) ⟨ρ,W1,rfl,(at_.step s1).now,h0⟩ (fun i σ' H' _ ⟨_,W2,e2,a2,_⟩=>e2 ▸ hq W2 a2.gs) ?_ ?_⟩
 ·rintro n x σ' _ hi ⟨ρ',W2,rfl,a2,hp2⟩
  obtain⟨e,he,ie⟩:=ha.get' hi
  obtain⟨a1,b1,rfl,q⟩:=ht n e ρ' he hp2
  obtain⟨T,us,rfl,hT,hu⟩:=is_tup.mp (Is.mono0 a2.gs ie)
  obtain⟨v1,v2,rfl,k1,k2⟩:=hu.two
  refine⟨T,_,rfl,.of (W2.sub _ _ hT),rfl,v1,[v2],rfl,v2,[],rfl,rfl,?_⟩
  exact l2 W0 W1.g _ _ W2 { D with nx:=Pv (n+1),ct:=Pv (n+1),bk:=D.nx } _ ((a2.set i k1).set j k2) (yD s hg) q
 ·rintro σ' _ ⟨ρ',W2,rfl,a2,hp2⟩
  exact s.nx ρ' σ' W2 (a2.weak hg) (hd ρ' (by rw[ha.length];exact hp2))
end
end OD
namespace OD
open PySem PySem.Spec PyProof.Rows L2
def sk(σ:St)(js:List Nat):St:=js.map fun j=>(σ[j]?).getD none
def vW(cells:List (Str×Addr))(names:List (Str×NameKind)):List (Str×Addr):=(names.filterMap fun y=>if y.2 == .free then(cells.lookup y.1).map (y.1,·) else none).reverse
theorem rC{α:Type}{y:Str}{c:α}:∀{l:List (Str×α)},(y,c)∈l→∃c',l.lookup y=some c'
 | [],h=>nomatch h
 | (z,d)::r,h=>by
  rw[List.lookup_cons]
  cases q:y==z with
  | true=>exact⟨d,rfl⟩
  | false=>
   rcases Bk.mp h with e|e
   ·cases e
    rw[beq_self_eq_true]at q
    cases q
   ·exact rC e
def mem_clOf{cells:List (Str×Addr)}{names:List (Str×NameKind)}{y:Str}{c:Addr}:(y,c)∈vW cells names↔(y,NameKind.free)∈names∧cells.lookup y=some c:=by
 unfold vW
 rw[BE,BO]
 constructor
 ·rintro⟨⟨z,k⟩,hz,e⟩
  split at e
  ·rename_i hk
   obtain rfl:=eq_of_beq hk
   obtain⟨d,hd,e⟩:=Bw.mp e
   cases e
   exact⟨hz,hd⟩
  ·cases e
 ·rintro⟨h1,h2⟩
  exact⟨(y,.free),h1,by show Option.map _ (List.lookup y cells)=_;rw[h2];rfl⟩
def Vv{scope:Scope}{env:Env}(h:∀y,(y,NameKind.free)∈scope.names→∃c,env.cells.lookup y=some c):closureFor scope env=pure (vW env.cells scope.names):=by
 have key:∀(names:List (Str×NameKind))(acc:List (Str×Addr)),(∀y,(y,NameKind.free)∈names→∃c,env.cells.lookup y=some c)→
   (forIn names acc fun x r=>(if x.2==NameKind.free then do let c ←cellOf env x.1;pure (ForInStep.yield ((x.1,c)::r)) else pure (ForInStep.yield r):Sem (ForInStep (List (Str×Addr)))))=(pure (vW env.cells names++acc):Sem (List (Str×Addr))):=by
  intro names
  induction names with
  | nil=>intro acc _;rfl
  | cons a r ih=>
   intro acc ha
   obtain⟨n,k⟩:=a
   rw[List.forIn_cons]
   cases hk:k==NameKind.free with
   | true=>
    obtain rfl:=eq_of_beq hk
    obtain⟨c,hc⟩:=ha n Bi
    have e1:cellOf env n=pure c:=by unfold cellOf;rw[hc]
    have e2:vW env.cells ((n,NameKind.free)::r)=vW env.cells r++[(n,c)]:=by
     unfold vW
     rw[List.filterMap_cons_some (b:=(n,c)) (by show Option.map _ (List.lookup n env.cells)=_;rw[hc];rfl),BR]
    show(do let c ←cellOf env n;pure (ForInStep.yield ((n,c)::acc)):Sem _) >>= _=_
    rw[e1,pure_bind,pure_bind,e2,List.append_assoc]
    exact ih ((n,c)::acc) fun y hy=>ha y (Bd _ hy)
   | false=>
    have e2:vW env.cells ((n,k)::r)=vW env.cells r:=by
     unfold vW
     rw[List.filterMap_cons_none (by show(if(k==NameKind.free)=true then _ else none)=none;rw[hk];rfl)]
    show(pure (ForInStep.yield acc):Sem _) >>= _=_
    rw[pure_bind,e2]
    exact ih acc fun y hy=>ha y (Bd _ hy)
 have:=key scope.names [] h
 rw[Bv]at this
 unfold closureFor
 rw[←this]
 exact(bind_pure _).trans rfl
theorem y9{env:Env}(hk:env.scope.kind=.function):∀{names:List (Str×NameKind)}{x:Str},names.lookup x=some .free→env.scope.names.lookup x=some .cell→
  (names.map fun(n,k)=>if(k==NameKind.free&&env.scope.kind == .function&&env.kindOf n==some .cell) then(n,NameKind.cell) else(n,k)).lookup x=some .cell
 | [],_,h,_=>by simp at h
 | (n,k)::r,x,h,he=>by
  have ih:=@y9 env hk r x
  show List.lookup x ((if(k==NameKind.free&&env.scope.kind == .function&&env.kindOf n==some .cell)=true then(n,NameKind.cell) else(n,k))::_)=_
  cases hx:x==n with
  | true=>
   obtain rfl:=eq_of_beq hx
   simp only[List.lookup_cons,hx]at h
   cases h
   have e:env.kindOf x=some .cell:=he
   rw[hk,e]
   simp[List.lookup_cons]
  | false=>
   simp only[List.lookup_cons,hx]at h
   by_cases hc:(k==NameKind.free&&env.scope.kind == .function&&env.kindOf n==some .cell)=true
   ·rw[if_pos hc];simp only[List.lookup_cons,hx];exact ih h he
   ·rw[if_neg hc];simp only[List.lookup_cons,hx];exact ih h he
def vX(ρ:DS)(js:List Nat):DS:=js.map fun j=>match(ρ[j]?:Option Sl) with
 | Option.some (Sl.some d)=>Sl.some d
 | _=>Sl.none
def cP(js:List Nat)(ta te:DTE):DTE:=fun ρ Q=>ta ρ fun d=>∃(m:Int)(Pv:Nat→List Dt→Prop),d=.int m∧-(2^62)≤m∧m≤100000∧Pv 0 []∧
 (∀(i:Nat) es,i<m.toNat→Pv i es→te (.some (.int i)::vX ρ js) fun y=>Pv (i+1) (es++[y]))∧∀es,Pv m.toNat es→Q (.lst es)
def On(t:TE):TI:=fun σ H R=>t σ H fun v H1=>∃j:Int,v=.int j∧-(2^62)≤j∧j<2^62∧R (Itr 0 j.toNat) H1
section
variable{X:Cx}{a:Expr}{p0 pos1:Pos}
def jA{t:TE}{tg:Expr}(hg:Gl X "range")(hm:X.mg "range"=none)(p:PE X a t)(hst:starEach [a] X.env=[(false,eval a X.env)])(hst2:starEach [a] X.env=(false,eval a X.env)::starEach [] X.env):PI X tg (.Call (.Name "range" p0) [a] [] pos1) (On t):=by
 intro Aa s σ H R I h
 refine qO hg hm (zB p zS hst2) hst Aa s σ H R I ?_
 refine(?_:t σ H fun v H1=>∃j:Int,[v]=[V.int j]∧-(2^62)≤j∧j<2^62∧R (Itr 0 j.toNat) H1)
 have e:(fun(v:V)(H1:Hp)=>∃j:Int,v=V.int j∧-(2^62)≤j∧j<2^62∧R (Itr 0 j.toNat) H1)=fun v H1=>∃j:Int,[v]=[V.int j]∧-(2^62)≤j∧j<2^62∧R (Itr 0 j.toNat) H1:=by
  funext v H1
  refine propext ⟨fun⟨j,q,z⟩=>⟨j,by rw[q],z⟩,fun⟨j,q,z⟩=>⟨j,(List.cons.inj q).1,z⟩⟩
 rw[←e]
 exact h
end
section
def iD:bootBuiltins "int"=some (.type "int"):=by decide +kernel
end
end OD
namespace OD
open PySem PySem.Spec PyProof.Rows L2
def kR(js:List Nat)(ta te:DTE):DTE:=fun ρ Q=>ta ρ fun d=>∃(ds:List Dt)(Pv:Nat→List Dt→Prop),yK d=some ds∧ds.length≤100000∧Pv 0 []∧
 (∀(i:Nat) e es,ds[i]? = some e→Pv i es→te (.some e::vX ρ js) fun y=>Pv (i+1) (es++[y]))∧∀es,Pv ds.length es→Q (.lst es)
end OD
namespace L2
open PySem PySem.Spec PyProof.Rows
def K2(h h':Heap):Prop:=∀a o vs,h.get? a=some o→o.data=.fields vs→∃o' vs',h'.get? a=some o'∧o'.data=.fields vs'∧vs'[2]? = vs[2]?
def K2.refl(h:Heap):K2 h h:=fun _ o vs x y=>⟨o,vs,x,y,rfl⟩
def K2.trans{h1 h2 h3:Heap}(x:K2 h1 h2)(y:K2 h2 h3):K2 h1 h3:=fun a o vs p q=>
 let⟨o',vs',p',q',r'⟩:=x a o vs p q
 let⟨o2,vs2,p2,q2,r2⟩:=y a o' vs' p' q'
 ⟨o2,vs2,p2,q2,r2.trans r'⟩
def K2.keeps{h h':Heap}(k:∀b o,h.get? b=some o→h'.get? b=some o):K2 h h':=fun a o vs p q=>⟨o,vs,k a o p,q,rfl⟩
def K2.update{h:Heap}{a:Addr}{o:Obj}{f:Obj→Obj}(ho:h.get? a=some o)(hf:∀vs,o.data=.fields vs→∃vs',(f o).data=.fields vs'∧vs'[2]? = vs[2]?):K2 h (h.update a f):=fun b o' vs p q=>by
 by_cases e:a=b
 ·subst e
  rw[ho]at p
  cases p
  obtain⟨vs',z1,z2⟩:=hf vs q
  exact⟨_,vs',Heap.get?_update_self f ho (Obj.isFreed_of_fields z1),z1,z2⟩
 ·exact⟨o',vs,(Heap.get?_update_other _ _ e).trans p,q,rfl⟩
def Kp2{α:Type}(t:Sem α):Prop:=∀(M:Model)(Γ:PySem.Ctx)(Q:α→Pos→Shared→Prop)(E:Value→Pos→Shared→Prop)(p:Pos)(s:Shared),Sem.wp M Γ t Q E p s→
 Sem.wp M Γ t (fun a p' s'=>Q a p' s'∧K2 s.heap s'.heap) (fun e p' s'=>E e p' s'∧K2 s.heap s'.heap) p s
def zT{α:Type}(a:α):Kp2 (pure a:Sem α):=fun _ _ _ _ _ s h=>⟨h,K2.refl _⟩
def dM{α:Type}(e:Value):Kp2 (throw e:Sem α):=fun _ _ _ _ _ s h=>⟨h,K2.refl _⟩
def xD{α:Type}(z:String):Kp2 (unsupported z:Sem α):=fun _ _ _ _ _ s h=>False.elim h
def zI{α β:Type}{m:Sem α}{f:α→Sem β}(hm:Kp2 m)(hf:∀a,Kp2 (f a)):Kp2 (m >>= f):=fun M Γ Q E p s h=>by
 rw[Sem.wp_bind']at h ⊢
 exact Sem.wp_mono M Γ m (fun a p' s' ⟨x,y⟩=>Sem.wp_mono M Γ (f a) (fun _ _ _ ⟨u,v⟩=>⟨u,y.trans v⟩) (fun _ _ _ ⟨u,v⟩=>⟨u,y.trans v⟩) p' s' (hf a M Γ Q E p' s' x)) (fun _ _ _ x=>x) p s (hm M Γ _ _ p s h)
def xZ{α:Type}{c:Prop}[Decidable c]{a b:Sem α}(ha:Kp2 a)(hb:Kp2 b):Kp2 (if c then a else b):=by split;exact ha;exact hb
def oz(a:Addr):Kp2 (load a):=fun M Γ Q E p s ⟨o,x,y⟩=>⟨o,x,y,K2.refl _⟩
def rF:Kp2 PySem.stack:=fun M Γ Q E p s h=>⟨h,K2.refl _⟩
def dO(o:Obj):Kp2 (alloc o):=fun M Γ Q E p s h=>⟨h,K2.keeps fun _ _=>Heap.get?_push_of_some _⟩
def qV{a:Addr}{f:Obj→Obj}(hf:∀o vs,o.data=.fields vs→∃vs',(f o).data=.fields vs'∧vs'[2]? = vs[2]?):Kp2 (update a f):=fun M Γ Q E p s ⟨x,y⟩=>by
 obtain⟨o,ho⟩:=Option.isSome_iff_exists.mp x
 exact⟨x,y,K2.update ho (hf o)⟩
def nX(v:Value):Kp2 (fieldsOf v):=by
 unfold fieldsOf
 split
 ·refine zI (oz _) fun o=>?_
  split
  ·exact zT _
  ·exact xD _
 ·exact xD _
def wW(v:Value)(i:Nat):Kp2 (field v i):=by
 unfold field
 refine zI (nX v) fun vs=>?_
 split
 ·exact zT _
 ·exact xD _
def wV(v:Value)(i:Nat)(x:Value)(hi:i≠2):Kp2 (setField v i x):=by
 unfold setField
 split
 ·unfold updateField
  refine zI (oz _) fun o=>?_
  split
  ·refine xZ (qV fun o vs hd=>⟨_,Obj.data_mapFields hd _,Array.getElem?_setIfInBounds_ne hi⟩) (xD _)
  ·exact xD _
 ·exact xD _
def xi(e:Value)(f:Option Addr):Kp2 (setFlight e f):=by
 unfold setFlight
 refine zI (wW _ _) fun tb=>xZ (wV _ _ _ (by decide)) (zT _)
def jZ(env:Env)(outer:List Env):Kp2 (behindIsImport env outer):=by
 unfold behindIsImport
 refine xZ (zT _) (xZ (zT _) (zI (wW _ _) fun _=>zT _))
def WT(env:Env)(b:Bool)(l:List Env):Kp2 (keptBack env b l):=by
 unfold keptBack
 split
 ·refine xZ (zT _) ?_
  unfold underTheClaimsCaller
  exact zI (zI rF fun _=>zT _) fun _=>zT _
 ·exact zT _
theorem nV:∀l:List Env,Kp2 (readyFrames l)
 | []=>zT _
 | env::outer=>by
  unfold readyFrames
  split
  ·refine zI (oz _) fun o=>xZ (zT _) ?_
   refine zI (jZ _ _) fun _=>zI (WT _ _ _) fun _=>zI (qV fun o vs hd=>⟨vs,hd,rfl⟩) fun _=>nV outer
  ·exact xD _
def lK(env:Env):Kp2 (PySem.frameOf env):=by
 unfold PySem.frameOf
 refine zI (by unfold frameEnvs;exact zI rF fun _=>zT _) fun l=>zI ?_ fun r=>?_
 ·unfold frameObject
  split
  ·exact zT _
  ·exact zI (nV _) fun _=>zT _
 ·split
  ·exact zT _
  ·exact xD _
def dN(f:Addr)(b:Bool):Kp2 (entryPlaceOf f b):=by
 unfold entryPlaceOf
 refine zI rF fun _=>?_
 split
 ·exact zT _
 ·exact zT _
def nW(a b c d e:Value)(l:List Value):Kp2 (EntryCells.newEntry a b c d e l):=by
 unfold EntryCells.newEntry newFields newObj newObjAsIs
 have z:∀d:Data,Kp2 (do let a ←alloc { cls:=.type "traceback",data:=d };pure (Value.ref a):Sem Value):=fun d=>zI (dO _) fun _=>zT _
 generalize ([a,b,c,d,e]++(if l.isEmpty then List.replicate 6 Value.none else l))=q
 simp only[]
 exact xZ (zI (xD _) fun _=>z _) (z _)
def sB(e:Value)(env:Env):Kp2 (noteFrame e env):=by
 unfold noteFrame
 split
 ·refine zI (wW _ _) fun hd=>?_
  have z:∀f,Kp2 (do setField e 1 (←EntryCells.newEntry hd (←PySem.frameOf env) .none (rawInt f) .none (←entryPlaceOf f (hd != .none)))):=fun f=>zI (lK _) fun _=>zI (dN _ _) fun _=>zI (nW _ _ _ _ _ _) fun _=>wV _ _ _ (by decide)
  refine xZ ?_ (z _)
  exact zI (wW _ _) fun _=>xZ (zT _) (zI (wV _ _ _ (by decide)) fun _=>z _)
 ·exact xD _
def vT(env:Env)(e:Value):Kp2 (leaving env e):=zI (sB _ _) fun _=>xi _ _
def vy{α:Type}{M:Model}{A:Around}{t:Sem α}{Q:α→Shared→Prop}{E:cp}{s:Shared}(k:Kp2 t)(h:wpAny M A t (fun a s'=>K2 s.heap s'.heap→Q a s') (fun e s'=>K2 s.heap s'.heap→E e s') s):wpAny M A t Q E s:=fun Γ p hΓ=>
 Sem.wp_mono M Γ t (fun _ _ _ ⟨x,y⟩=>x y) (fun _ _ _ ⟨x,y⟩=>x y) p s (k M Γ _ _ p s (h Γ p hΓ))
def Chn(h:Heap):Nat→Value→Prop
 | 0,v=>v=.none
 | n+1,v=>∃a o vs x,v=.ref a∧h.get? a=some o∧o.data=.fields vs∧vs[2]? = some x∧Chn h n x
theorem Chn.k2{h h':Heap}(k:K2 h h'):∀{n:Nat}{v:Value},Chn h n v→Chn h' n v
 | 0,_,e=>e
 | _+1,_,⟨a,o,vs,x,e,ho,hd,hx,c⟩=>
  let⟨o',vs',ho',hd',hx'⟩:=k a o vs ho hd
  ⟨a,o',vs',x,e,ho',hd',hx'.trans hx,Chn.k2 k c⟩
section
variable{P:Program}{w:World}{H:Hp}{h B:Heap}
def HOk.part(x:HOk P w H h)(k:∀b u,H b≠none→h.get? b=some u→B.get? b=some u):HOk P w H B:=fun a o e=>
 (x a o e).stay (fun b u hb q=>k b u (fun z=>by rcases hb with rfl|y;(rw[e]at z;cases z);(rw[y]at z;cases z)) q) (fun _ q=>q) fun _ _ q=>q
def ObjOk.there{a:Addr}{o:HO}(x:ObjOk P w H h a o):∃u,h.get? a=some u:=by
 cases o with
 | lst xs=>obtain⟨_,_,_,_,e⟩:=x;exact⟨_,e⟩
 | tup xs=>obtain⟨_,_,_,o,e,_⟩:=x;exact⟨_,e⟩
 | dK kvs=>obtain⟨_,_,_,_,o,_,_,e,_⟩:=x;exact⟨_,e⟩
 | dT kvs=>obtain⟨_,_,_,_,o,_,_,e,_⟩:=x;exact⟨_,e⟩
 | set S n=>obtain⟨o,_,_,_,e,_⟩:=x;exact⟨_,e⟩
 | ins C dx fs=>obtain⟨_,_,_,e,_⟩:=x;exact⟨_,e⟩
 | own y=>exact x
 | xd fs=>obtain⟨_,⟨_,_,_,e,_⟩,_⟩:=x;exact⟨_,e⟩
 | rng lo hi=>obtain⟨_,_,_,e⟩:=x;exact⟨_,e⟩
 | frz ob u=>obtain⟨e,_⟩:=x;exact⟨_,e⟩
 | tbl ps=>exact⟨_,(show h.get? a=some _ from x)⟩
 | met f y=>exact⟨_,(show h.get? a=some _ from x)⟩
 | ext φ=>obtain⟨_,e,_⟩:=x;exact e
end
structure FliesB(P:Program)(w:World)(stack:List Env)(H:Hp)(h0:Heap)(H':Hp)(e:Addr)(cls:Value)(h:Heap):Prop where
 ex:∃B a0,Heap.FlyingW B stack e cls a0 h∧(∀b o,h0.get? b=some o→H b=none→b∉frs stack→B.get? b=some o)∧(∀b o,h0.get? b=some o→b∉frs stack→∃o',B.get? b=some o')∧HOk P w H' B
 slot:∀b o,h0.get? b=some o→b∈frs stack→∃sl,h.get? b=some { o with slots:=sl }
 free:∀b o,h0.get? b=some o→H b=none→H' b=none
 tups:∀b xs,H b=some (.tup xs)→H' b=some (.tup xs)
 frzs:∀b o u,H b=some (.frz o u)→H' b=some (.frz o u)
 tbls:∀b ps,H b=some (.tbl ps)→∃more,H' b=some (.tbl (ps++more))
 new:h0.get? e=none
section
variable{P:Program}{w:World}{stack:List Env}{H H':Hp}{h0 h:Heap}{e:Addr}{cls:Value}
def FliesB.un(f:FliesB P w stack H h0 H' e cls h):Un (frs stack) [] H H' h0 h:=by
 obtain⟨B,a0,⟨st,_,_,_⟩,k1,k2,_⟩:=f.ex
 refine⟨fun b o q n hb _=>st b o (k1 b o q n hb),fun b o q _ hb _=>f.slot b o q hb,fun b o q n _=>f.free b o q n,fun b o q _=>?_,f.tups,f.frzs,f.tbls⟩
 by_cases hb:b∈frs stack
 ·obtain⟨sl,z⟩:=f.slot b o q hb
  exact⟨_,z⟩
 ·obtain⟨o',z⟩:=k2 b o q hb
  exact⟨o',st b o' z⟩
def FliesB.hok(f:FliesB P w stack H h0 H' e cls h):HOk P w H' h:=by
 obtain⟨B,a0,⟨st,_,_,_⟩,_,_,k3⟩:=f.ex
 exact k3.kept st
def FliesB.out(f:FliesB P w stack H h0 H' e cls h):H' e=none:=by
 obtain⟨B,a0,⟨st,n,_,_⟩,_,_,k3⟩:=f.ex
 cases q:H' e with
 | none=>rfl
 | some o=>
  obtain⟨u,z⟩:=(k3 e o q).there
  rw[n]at z;cases z
def FliesB.go(f:FliesB P w stack H h0 H' e cls h):∃B a0,Heap.FlyingW B stack e cls a0 h∧∀h',Heap.FlyingW B stack e cls a0 h'→h.UpToSlots h'→FliesB P w stack H h0 H' e cls h':=by
 obtain⟨B,a0,fl,k1,k2,k3⟩:=f.ex
 refine⟨B,a0,fl,fun h' fl' up=>⟨⟨B,a0,fl',k1,k2,k3⟩,fun b o q hb=>?_,f.free,f.tups,f.frzs,f.tbls,f.new⟩⟩
 obtain⟨sl,z⟩:=f.slot b o q hb
 obtain⟨_,ob,ho,hd⟩:=fl.2.2.1.mem hb
 rw[z]at ho
 cases ho
 obtain⟨sl',z'⟩:=up b _ z hd
 exact⟨sl',z'⟩
end
structure tJ(P:Program)(w:World)(stack:List Env)(H:Hp)(h0:Heap)(H':Hp)(e:Addr)(cls:Value)(h:Heap):Prop extends FliesB P w stack H h0 H' e cls h where
 chn:∃n,Chn h n (.ref e)
section
variable{X:Cx}{Aa:am}{σ:St}{H H':Hp}{s s':Shared}{M:Model}{E:cp}{e:Addr}{cls:Value}
def Inv.neL(I:Inv X Aa σ H s){b:Addr}{o:Obj}(q:X.s₀.heap.get? b=some o):b≠X.env.locals:=Bl (Bj (Heap.lt_size q) I.ok.above)
theorem cf{vs:List Value}{h1:Heap}{Q:Unit→Shared→Prop}(I:Inv X Aa σ H s)(hstk:X.stack=X.env::X.outer)(hf:X.env.frame=some X.env.locals)(hex:X.ex=[])(hx:Heap.MadeExcOf s.heap h1 e cls vs)
  (hQ:∀h',tJ X.prog X.w X.outer X.H₀ X.s₀.heap H e cls h'→Q () { s with heap:=h' }):wpAny M X.A (leaving X.env (.ref e)) Q E { s with heap:=h1 }:=by
 have hfr:X.A.frames=some (X.env::X.outer):=by rw[←hstk];exact I.ok.frames
 have hfs:frs X.stack=X.env.locals::frs X.outer:=by rw[hstk];unfold frs;rw[List.filterMap_cons,hf]
 have hl:s.heap.FunFrames (PySem.W.hideAll s.heap (frs X.stack)) (X.env::X.outer):=by
  have z:=I.stack
  rw[hstk]at z
  refine PySem.W.funFrames_hide z fun env he a ha=>?_
  rw[hstk]
  exact BO.mpr ⟨env,he,ha⟩
 have nx:∀b,b∉X.ex:=fun b z=>by rw[hex]at z;cases z
 have nst:∀b o,X.s₀.heap.get? b=some o→b∉frs X.outer→b∉frs X.stack:=fun b o q nb z=>by
  rw[hfs]at z
  rcases Bk.mp z with z|z
  ·exact I.neL q z
  ·exact nb z
 have c1:Chn h1 1 (.ref e):=by
  obtain⟨t,he,_⟩:=hx.there
  exact⟨e,_,_,.none,rfl,he,rfl,rfl,rfl⟩
 refine vy (vT _ _) ?_
 refine PySem.wpAny_leaves_madeW (s:={ s with heap:=h1 }) (h:=s.heap) (base:=PySem.W.hideAll s.heap (frs X.stack)) hfr hf (fun b o q=>PySem.W.of_hideAll _ q) hl hx fun h' t x1 x2 x3 x4 k2=>hQ h' ⟨⟨⟨_,_,x1,fun b o q n nb=>?_,fun b o q nb=>?_,?_⟩,fun b o q hb=>?_,fun b o q n=>I.base.free b o q n (nx b),I.base.tups,I.base.frzs,I.base.tbls,?_⟩,1,c1.k2 k2⟩
 ·exact PySem.W.hideAll_get _ (I.base.keep b o q n nb (nx b)) (nst b o q nb)
 ·obtain⟨o',z⟩:=I.base.there b o q (nx b)
  exact⟨o',PySem.W.hideAll_get _ z (nst b o q nb)⟩
 ·exact I.hok.part fun b u hb q=>PySem.W.hideAll_get _ q fun z=>hb (I.stkFree b z)
 ·obtain⟨sl,z⟩:=I.base.slot b o q (I.ok.frf b hb) hb (nx b)
  obtain⟨_,ob,ho,hd⟩:=I.funs.mem hb
  rw[z]at ho
  cases ho
  obtain⟨sl',z'⟩:=x4 b _ (hx.keeps b _ z) hd
  exact⟨sl',z'⟩
 ·cases q:X.s₀.heap.get? e with
  | none=>rfl
  | some o=>
   obtain⟨o',z⟩:=I.base.there e o q (nx e)
   rw[hx.new]at z;cases z
theorem Qt{Q:Unit→Shared→Prop}(I:Inv X Aa σ H s)(hstk:X.stack=X.env::X.outer)(hf:X.env.frame=some X.env.locals)(hex:X.ex=[])(f:tJ X.prog X.w X.stack H s.heap H' e cls s'.heap)
  (hQ:∀h',tJ X.prog X.w X.outer X.H₀ X.s₀.heap H' e cls h'→Q () { s' with heap:=h' }):wpAny M X.A (leaving X.env (.ref e)) Q E s':=by
 have hfr:X.A.frames=some (X.env::X.outer):=by rw[←hstk];exact I.ok.frames
 have hfs:frs X.stack=X.env.locals::frs X.outer:=by rw[hstk];unfold frs;rw[List.filterMap_cons,hf]
 have nx:∀b,b∉X.ex:=fun b z=>by rw[hex]at z;cases z
 have nst:∀b o,X.s₀.heap.get? b=some o→b∉frs X.outer→b∉frs X.stack:=fun b o q nb z=>by
  rw[hfs]at z
  rcases Bk.mp z with z|z
  ·exact I.neL q z
  ·exact nb z
 obtain⟨B,a0,fl,k1,k2,k3⟩:=f.ex
 have fl':=fl
 rw[hstk]at fl'
 obtain⟨cn,ch⟩:=f.chn
 refine vy (vT _ _) ?_
 refine PySem.wpAny_leaves_onW hfr hf fl' fun h' x1 x2 k2'=>hQ h' ⟨⟨⟨B,a0,x1,fun b o q n nb=>?_,fun b o q nb=>?_,k3⟩,fun b o q hb=>?_,fun b o q n=>?_,fun b xs q=>f.tups b xs (I.base.tups b xs q),fun b o u q=>f.frzs b o u (I.base.frzs b o u q),fun b ps q=>?_,?_⟩,cn,ch.k2 k2'⟩
 ·exact k1 b o (I.base.keep b o q n nb (nx b)) (I.base.free b o q n (nx b)) (nst b o q nb)
 ·obtain⟨o',z⟩:=I.base.there b o q (nx b)
  exact k2 b o' z (nst b o q nb)
 ·obtain⟨sl,z⟩:=I.base.slot b o q (I.ok.frf b hb) hb (nx b)
  have hb':b∈frs X.stack:=by rw[hfs];exact Bd _ hb
  obtain⟨sl',z'⟩:=f.slot b _ z hb'
  obtain⟨_,ob,ho,hd⟩:=fl.2.2.1.mem hb'
  rw[z']at ho
  cases ho
  obtain⟨sl2,z2⟩:=x2 b _ z' hd
  exact⟨sl2,z2⟩
 ·obtain⟨o',z⟩:=I.base.there b o q (nx b)
  exact f.free b o' z (I.base.free b o q n (nx b))
 ·obtain⟨m1,e1⟩:=I.base.tbls b ps q
  obtain⟨m2,e2⟩:=f.tbls b _ e1
  exact⟨m1++m2,by rw[e2,Array.append_assoc]⟩
 ·cases q:X.s₀.heap.get? e with
  | none=>rfl
  | some o=>
   obtain⟨o',z⟩:=I.base.there e o q (nx e)
   rw[f.new]at z;cases z
end
def ExcK(K:A_)(C:Addr):Prop:=PySem.W.excIn K C [.type "ValueError",.type "Exception",.type "BaseException",.type "object"] "ValueError.__new__"=true
def kH{K:A_}{h:Heap}{C:Addr}(X:K.In h)(q:ExcK K C):∃bm N nm qn bs hdct sn sub ab col dd k0 k1 k2 k3 k5 mN,h.get? C=some (excClassObj nm qn C N bs bm hdct sn sub ab col dd k0 k1 k2 k3 k5 "ValueError.__new__")∧h.Ns N mN∧mN "__init__"=none∧OwnTail h [.type "ValueError",.type "Exception",.type "BaseException",.type "object"] bm:=by
 unfold ExcK PySem.W.excIn at q
 split at q
 ·rename_i d1 cl s1 look
  split at q
  ·rename_i C1 tl w0 w1 w2 w3 nid w5 em es
   simp only[Bool.and_eq_true,Bool.not_eq_true',beq_iff_eq]at q
   obtain⟨⟨⟨⟨⟨rfl,rfl⟩,q1⟩,q2⟩,q3⟩,q4⟩:=q
   obtain⟨a1,a2,a3,a4,a5,a6,a7,a8,a9,b1,b2⟩:=cl
   dsimp only at em q1 q3 q4
   subst em q1
   obtain rfl:s1=#[w0,w1,w2,w3,some (.builtin "ValueError.__new__"),w5]:=by
    obtain⟨l⟩:=s1
    simp only at es;rw[es]
   exact⟨tl,a4,a1,a5,a2,a6,a7,a8,a9,b1,d1,w0,w1,w2,w3,w5,_,X _ _ look,.of_isNs (PySem.W.isNs_of_in X q3),PySem.W.nsMap_none_of_in X q3 q4,PySem.W.tail_of_in X q2⟩
  ·cases q
 ·cases q
def XOk(X:Cx)(C:Addr)(H:Hp):Prop:=∀(Aa:am)(σ:St)(s:Shared)(h1:Heap)(e:Addr)(vs:List Value),Inv X Aa σ H s→Heap.MadeExcOf s.heap h1 e (.ref C) vs→X.xe (.ref e) { s with heap:=h1 }
def UF(X:Cx)(C:Addr)(te:TE):TS:=fun _ σ H=>te σ H fun _ H1=>XOk X C H1
theorem gb{X:Cx}{C:Addr}{x:Str}{a:Expr}{te:TE}{np cpos pos:Pos}(hc:X.calm=true)(hg:Gl X x)(hm:X.mg x=some (.ref C))(hC:ExcK X.K C)(ha:PE X a te)
  (hdb:ug x:=by decide) (he:starEach [a] X.env=(false,eval a X.env)::starEach [] X.env:=by rfl):PS X (.Raise (some (.Call (.Name x np) [a] [] cpos)) none pos) (UF X C te):=by
 intro Aa s σ H D I h
 obtain⟨bm,N,nm,qn,bs,hdct,sn,sub,ab,col,dd,k0,k1,k2,k3,k5,mN,hO,hN,hni,T⟩:=kH I.ok.mod.kin hC
 refine PySem.wpAny_Raise_call_subU (C:=C) (nm:=nm) (q:=qn) (N:=N) (bs:=bs) (bm:=bm) (hdct:=hdct) (sn:=sn) (sub:=sub) (ab:=ab) (col:=col) (dd:=dd) (k0:=k0) (k1:=k1) (k2:=k2) (k3:=k3) (k5:=k5)
  PySem.F.excBase_ValueError (by decide) PySem.F.excBase_ValueError (mN:=mN) (T.hasType PySem.F.excBase_ValueError.hasBase) (I.ok.hd hc) (by rw[he];rfl) hni (yT I hg hm ⟨rfl,?_⟩ hdb)
 have z:=zB ha zS he cpos Aa s σ H (fun us H1=>us.length=1∧XOk X C H1) I (show te σ H (fun x H1=>[x].length=1∧XOk X C H1) from by
  have h:te σ H (fun _ H1=>XOk X C H1):=h
  simpa using h)
 rw[he]at z ⊢
 refine Calls.evalArgs_plain (thn z fun vs s1 ⟨us,H1,I1,r,hl,q⟩=>⟨rfl,?_,I1.bk _ _ hO,hN.keeps I1.bk,T.keeps I1.bk,fun h' e hx=>q Aa σ s1 h' e vs I1 hx⟩)
 show vs.length≤_
 rw[←r.length,hl]
 decide
def CX1(P:Program)(w:World):CXT:=fun outer H s E e s'=>∃a C H',e=.ref a∧s'.os=s.os∧AllBare s'.gens∧tJ P w outer H s.heap H' a (.ref C) s'.heap∧E (.ref C) none H'
section
variable{P:Program}{w:World}{K:A_}{mg:be}{base:Heap}{N:List Str}{qual:Str}{scope:Scope}{f C:Addr}{cd:Value}{A:Around}{outer:List Env}{s:Shared}{H H1:Hp}{E:XK}
def Ur(h:E (.ref C) none H1):XOk (yg (CX1 P w) P w K mg base N qual scope f cd A outer s H E) C H1:=fun Aa σ s' h1 e vs I hx=>
 cf (X:=yg (CX1 P w) P w K mg base N qual scope f cd A outer s H E) I rfl rfl rfl hx fun h' fl=>⟨e,C,H1,rfl,I.os,I.bare,fl,h⟩
def bY:PassesOwn (model P w) (A.deeper (envOfC qual scope s.heap.objs.size f cd)) (envOfC qual scope s.heap.objs.size f cd) (yg (CX1 P w) P w K mg base N qual scope f cd A outer s H E).xe:=PassesOwn.leaving
end
section
variable{X:Cx}{k:Nat}{f C:Addr}{fd:FuncData}{ps:List Str}{sp:Sp}{x:Str}{p pos:Pos}{e:Expr}{es:List Expr}{t:TA}
def XPx(X:Cx)(Aa:am)(σ:St)(E:XK)(e:Value)(s':Shared):Prop:=∃a C H' H1 s1,e=.ref a∧Inv X Aa σ H1 s1∧s'.os=s1.os∧AllBare s'.gens∧tJ X.prog X.w X.stack H1 s1.heap H' a (.ref C) s'.heap∧E (.ref C) none H'
theorem l8(F:FnOk X.prog X.w X.K X.mg X.base (CX1 X.prog X.w) k f fd ps sp)(hr:Room k X.A)(hg:Gl X x)(hm:X.mg x=some (.ref f))(hk:PySem.W.keepIn X.K (.ref f)=true)(hb:Binds X.K fd ps [])
  (ha:PA X.nox (e::es) t) {Aa:am} {s:Shared} {σ:St} {H:Hp} {Q:VK} {E:XK} (I:Inv X Aa σ H s) (h:t σ H fun vs H1=>sp vs H1 Q E)
  (hdb:ug x:=by decide) (he:J' X.env e es:=by rfl) (hpl:K' X.env pos es:=by rfl):
  wpAny (model X.prog X.w) X.A (eval (.Call (.Name x p) (e::es) [] pos) X.env) (EP X Aa σ Q) (XPx X Aa σ E) s:=by
 refine wpAny_Call_Name_kw (yT I hg hm ?_ hdb)
 refine PySem.W.callWith_K (h₀:=X.base) I.ok.mod.kin hk (wpAny_mono (ha pos Aa s σ H _ (I.wish _) h) (fun us s1 ⟨vs,H1,I1,r,q⟩=>⟨I1.unwish.kIn,?_⟩) fun _ _ z=>z.elim) he hpl
 have I1:=I1.unwish
 have hl:us.length=ps.length:=by rw[←r.length];exact F.len _ _ _ _ q
 refine wpAny_call (codeAny_mono (F.run X.A X.stack s1 H1 ⟨us,[]⟩ us vs Q E hr I1.env0 ?_ r q) fun rr s' hq=>?_)
 ·have z:=hb s1 us I1.kIn (by rw[Bv];exact hl)
  rw[Bv]at z
  exact z
 cases rr with
 | error e=>
  obtain⟨a,C,H',ee,os,bare,fl,z⟩:=hq
  exact⟨a,C,H',H1,s1,ee,I1,os,bare,fl,z⟩
 | ok fl=>
  cases fl with
  | ret u=>exact I1.after hq
  | next=>exact False.elim hq
  | brk=>exact False.elim hq
  | cont=>exact False.elim hq
end
abbrev TB:=(St→Hp→Prop)→XK→St→Hp→Prop
def PB(X:Cx)(body:List Stmt)(t:TB):Prop:=∀(Aa:am)(s:Shared)(σ:St)(H:Hp)(nx:St→Hp→Prop)(E:XK),Inv X Aa σ H s→t nx E σ H→
 wpAny (model X.prog X.w) X.A (execs body X.env) (fun f s'=>f=.next∧∃σ' H',Inv X Aa σ' H' s'∧nx σ' H') (XPx X Aa σ E) s
def Cx.inH(X:Cx)(a:Addr):Cx:={ X with A:=X.A.mark (some (.ref a)),calm:=false,xe:=fun _ _=>False }
section
variable{X:Cx}{Aa:am}{σ:St}{H:Hp}{s:Shared}{a:Addr}
def Inv.inH(I:Inv X Aa σ H s)(a:Addr):Inv (X.inH a) Aa σ H s:=
 ⟨⟨I.ok.mod,I.ok.kind,I.ok.glob,I.ok.blt,I.ok.above,I.ok.inj,I.ok.has,I.ok.cab,fun z=>Bool.noConfusion z,I.ok.frames,I.ok.stk,I.ok.exf,I.ok.bs,I.ok.bsz,I.ok.noex,I.ok.exfs,I.ok.funs,I.ok.frf⟩,I.os,I.bare,I.base,I.loc,I.cell,I.free,I.freeC,I.pin,I.hok,I.len⟩
def Inv.outH(ok:X.Ok)(I:Inv (X.inH a) Aa σ H s):Inv X Aa σ H s:=⟨ok,I.os,I.bare,I.base,I.loc,I.cell,I.free,I.freeC,I.pin,I.hok,I.len⟩
def SP.outH{D:Ends}{f:Flow}{s':Shared}(ok:X.Ok)(h:SP (X.inH a) Aa D f s'):SP X Aa D f s':=by
 cases f with
 | next=>obtain⟨σ',H',I,q⟩:=h;exact⟨σ',H',I.outH ok,q⟩
 | brk=>obtain⟨σ',H',I,q⟩:=h;exact⟨σ',H',I.outH ok,q⟩
 | cont=>obtain⟨σ',H',I,q⟩:=h;exact⟨σ',H',I.outH ok,q⟩
 | ret u=>obtain⟨v,σ',H',I,r,q⟩:=h;exact⟨v,σ',H',I.outH ok,r,q⟩
end
section
variable{X:Cx}{t:TB}{th:TS}{y:Str}{c:Value}{py hpos pos:Pos}{body:List Stmt}{b₀:Stmt}{suite:List Stmt}
def N8(K:A_)(c:Value)(t:TB)(th:TS):TS:=fun D σ H=>t D.nx (fun cls _ H'=>PySem.W.exmOne K cls c=some true∧th D σ H') σ H
def Mg(hstk:X.stack=X.env::X.outer)(hf:X.env.frame=some X.env.locals)(hb:PB X body t)(hh:∀a,PSs (X.inH a) (b₀::suite) th)(hg:Gl X y)(hm:X.mg y=some c)(hd:ug y:=by decide):
  PS X (.Try body [.ExceptHandler (some (.Name y py)) none (b₀::suite) hpos] [] [] pos) (N8 X.K c t th):=by
 intro Aa s σ H D I h
 have hfr:X.A.frames=some (X.env::X.outer):=by rw[←hstk];exact I.ok.frames
 refine wpAny_Try_except (wpAny_mono (hb Aa s σ H _ _ I h) (fun f s1 ⟨ef,σ',H',I',q⟩=>?_) fun e s1 hx=>?_)
 ·subst ef
  exact wpAny_execs_nil ⟨σ',H',I',q⟩
 ·obtain⟨a,C,H',H1,s2,rfl,I1,os,bare,fl,hex,hth⟩:=hx
  obtain⟨B,a0,fl0,go⟩:=fl.go
  have inv:∀h',Heap.FlyingW B X.stack a (.ref C) a0 h'→s1.heap.UpToSlots h'→Inv X Aa σ H' { s1 with heap:=h' }:=fun h' x1 x2=>
   have f':=go h' x1 x2
   I1.call' (s':={ s1 with heap:=h' }) os f'.un f'.hok bare (fun _ z=>nomatch z)
  rw[hstk]at fl0
  refine wpAny_looks_onW hfr hf fl0 fun h4 held4 up4=>?_
  refine wpAny_landsW held4 fun h5 fl5 up5=>?_
  have I5:=inv h5 (by rw[hstk];exact fl5) (up4.trans up5)
  obtain⟨ob,hob,hoc⟩:=fl5.there
  have ty:PySem.W.Looks (model X.prog X.w) h5 (typeOf (.ref a)) (.ref C):=by rw[←hoc];exact(PySem.W.Looks.ld hob).andThen .now
  refine wpAny_handleBy_cons (codeAny_handlers_test (yT (X:=X.inH a) (I5.inH a) hg hm ((PySem.W.exm_one I5.kIn ty hex).here ?_) hd)) (by intro q;cases q)
  refine codeAny_handlers_suite ?_
  refine lands_againW fl5 fun h6 fl6 up6=>?_
  have I6:=inv h6 (by rw[hstk];exact fl6) ((up4.trans up5).trans up6)
  exact wpAny_mono (hh a Aa _ σ H' D (I6.inH a) hth) (fun f s3 q=>SP.outH I.ok q) fun _ _ z=>z.elim
end
section
variable{X:Cx}{Aa:am}{σ:St}{H:Hp}{s:Shared}
theorem ve{M:Model}{A:Around}{E:cp}{i:Nat}{x:Str}{pos:Pos}{Q:Unit→Shared→Prop}(I:Inv X Aa σ H s)(hN:X.N.Nodup)(hi:X.N[i]? = some x)(hx:X.env.scope.names.lookup x=some .local)
  (h:∀s',Inv X Aa (σ.set i none) H s'→Q () s'):wpAny M A (do bindName X.env x .none;unbindBehindTheSuite X.env x pos) Q E s:=by
 have hcls:(X.env.scope.kind == .class||(X.env.scope.kind == .module&&X.env.locals != X.env.globals))=false:=by rw[I.ok.kind];rfl
 have hiσ:i<σ.length:=by rw[I.len];exact(BG.mp hi).1
 refine wpAny_bind (wpAny_bindName (wK I hN hi (.inl hx) (v:=V.non) (u:=Value.none) rfl (fun s1 I1=>?_) (.inr hx)))
 obtain⟨m,hn,hl⟩:=id I1.loc
 have hv:∃v,m x=some v:=by
  obtain⟨u,_,q⟩:=hl i x V.non hi (Bu hiσ) (.inl hx)
  rcases q with ⟨_,z⟩|⟨k,_⟩
  ·exact⟨u,z⟩
  ·have k:X.env.scope.names.lookup x=some .cell∨X.env.scope.names.lookup x=some .free:=k
   rw[hx]at k
   rcases k with k|k<;>cases k
 obtain⟨v,hv⟩:=hv
 unfold unbindBehindTheSuite
 refine wpAny_onRaise (wpAny_unbindName_local hx hn hv hcls fun h' u hn' hs=>h _ ?_)
 obtain⟨oL,_,_,hoL,_⟩:=id hn
 have cne:=I1.cne
 refine⟨I1.ok,I1.os,I1.bare,⟨fun b o e n hb hx=>?_,fun b o e n hb hx=>?_,I1.base.free,fun b o e hx=>?_,I1.base.tups,I1.base.frzs,I1.base.tbls⟩,⟨_,hn',fun j y v' e1 e2 e3=>?_⟩,fun y c e=>?_,I1.free,I1.freeC,fun p hp=>?_,fun b ob e=>?_,by rw[BC];exact I.len⟩
 ·exact(hs.2 b (Bl (Bj (Heap.lt_size e) I1.ok.above))).trans (I1.base.keep b o e n hb hx)
 ·obtain⟨sl,e1⟩:=I1.base.slot b o e n hb hx
  exact⟨sl,(hs.2 b (Bl (Bj (Heap.lt_size e) I1.ok.above))).trans e1⟩
 ·obtain⟨o',e1⟩:=I1.base.there b o e hx
  exact⟨o',(hs.2 b (Bl (Bj (Heap.lt_size e) I1.ok.above))).trans e1⟩
 ·by_cases hj:j=i
  ·subst hj
   rw[Bu hiσ]at e2
   cases e2
  ·rw[Be (Ne.symm hj)]at e2
   obtain⟨u',r',q⟩:=hl j y v' e1 (by rw[Be (Ne.symm hj)];exact e2) e3
   refine⟨u',r',?_⟩
   rcases q with ⟨k,e⟩|⟨k,c,e,z⟩
   ·refine .inl ⟨k,?_⟩
    have:y≠x:=fun e=>hj (rA hN e1 (e ▸ hi))
    simp[this,e]
   ·exact .inr ⟨k,c,e,z.sameBut hs (cne y c e)⟩
 ·obtain⟨w',z⟩:=I1.cell y c e
  exact⟨w',z.sameBut hs (cne y c e)⟩
 ·obtain⟨e,n,ne,nf,d⟩:=I1.pin p hp
  exact⟨(hs.2 p.1 ne).trans e,n,ne,nf,d⟩
 ·refine(I1.hok b ob e).stay (fun c w' hc q=>(hs.2 c ?_).trans q) (fun _ q=>q) fun _ _ q=>q
  rintro rfl
  have fr:=I1.free
  rcases hc with rfl|hc
  ·rw[fr]at e;cases e
  ·rw[fr]at hc;cases hc
def FliesB.track{P:Program}{w:World}{stack:List Env}{H':Hp}{h0 h:Heap}{e C:Addr}(f:FliesB P w stack H h0 H' e (.ref C) h):Un (frs stack) [] H (upd H' e (.ext (OD.excAt e C))) h0 h∧HOk P w (upd H' e (.ext (OD.excAt e C))) h:=by
 have u:=f.un
 have out:=f.out
 obtain⟨B,a0,fl,_⟩:=f.ex
 obtain⟨ob,hob,hoc⟩:=fl.there
 have ne0:∀b o,h0.get? b=some o→b≠e:=fun b o q z=>by rw[z,f.new]at q;cases q
 have ne1:∀b o,H' b=some o→b≠e:=fun b o q z=>by rw[z,out]at q;cases q
 refine⟨⟨u.keep,u.slot,fun b o q n hx=>by rw[zt (ne0 b o q)];exact u.free b o q n hx,u.there,fun b xs q=>by rw[zt (ne1 b _ (u.tups b xs q))];exact u.tups b xs q,fun b o v q=>by rw[zt (ne1 b _ (u.frzs b o v q))];exact u.frzs b o v q,fun b ps q=>?_⟩,fun b o q=>?_⟩
 ·obtain⟨m,z⟩:=u.tbls b ps q
  exact⟨m,by rw[zt (ne1 b _ z)];exact z⟩
 ·by_cases hb:b=e
  ·subst hb
   rw[zr]at q
   cases q
   exact⟨⟨ob,hob,hoc⟩,⟨ob,hob⟩,fun h1 h2 ⟨o,ho,hc⟩ k=>⟨o,k o ho,hc⟩⟩
  ·rw[zt hb]at q
   exact(f.hok b o q).stay (fun _ _ _ z=>z) (fun c z=>by rw[zt (ne1 c _ z)];exact z) fun c xs z=>by rw[zt (ne1 c _ z)];exact z
end
section
variable{X:Cx}{t:TB}{th:TS}{y n:Str}{j:Nat}{c:Value}{py hpos pos:Pos}{body:List Stmt}{b₀:Stmt}{suite:List Stmt}
def Ends.off(D:Ends)(j:Nat):Ends:=⟨fun σ H=>D.nx (σ.set j none) H,D.rt,fun σ H=>D.bk (σ.set j none) H,fun σ H=>D.ct (σ.set j none) H⟩
def UE(K:A_)(c:Value)(j:Nat)(t:TB)(th:TS):TS:=fun D σ H=>t D.nx (fun cls _ H'=>PySem.W.exmOne K cls c=some true∧∀a C,cls=.ref C→H' a=none→th (D.off j) (σ.set j (some (.ref a))) (upd H' a (.ext (OD.excAt a C)))) σ H
theorem h9(hstk:X.stack=X.env::X.outer)(hf:X.env.frame=some X.env.locals)(hN:X.N.Nodup)(hj:X.N[j]? = some n)(hn:X.env.scope.names.lookup n=some .local)(hb:PB X body t)(hh:∀a,PSs (X.inH a) (b₀::suite) th)(hg:Gl X y)(hm:X.mg y=some c)
  (hd:ug y:=by decide):PS X (.Try body [.ExceptHandler (some (.Name y py)) (some n) (b₀::suite) hpos] [] [] pos) (UE X.K c j t th):=by
 intro Aa s σ H D I h
 have hfr:X.A.frames=some (X.env::X.outer):=by rw[←hstk];exact I.ok.frames
 refine wpAny_Try_except (wpAny_mono (hb Aa s σ H _ _ I h) (fun f s1 ⟨ef,σ',H',I',q⟩=>?_) fun e s1 hx=>?_)
 ·subst ef
  exact wpAny_execs_nil ⟨σ',H',I',q⟩
 ·obtain⟨a,C,H',H1,s2,rfl,I1,os,bare,fl,hex,hth⟩:=hx
  obtain⟨B,a0,fl0,go⟩:=fl.go
  have inv:∀h',Heap.FlyingW B X.stack a (.ref C) a0 h'→s1.heap.UpToSlots h'→Inv X Aa σ H' { s1 with heap:=h' }:=fun h' x1 x2=>
   have f':=go h' x1 x2
   I1.call' (s':={ s1 with heap:=h' }) os f'.un f'.hok bare (fun _ z=>nomatch z)
  rw[hstk]at fl0
  refine wpAny_looks_onW hfr hf fl0 fun h4 held4 up4=>?_
  refine wpAny_landsW held4 fun h5 fl5 up5=>?_
  have I5:=inv h5 (by rw[hstk];exact fl5) (up4.trans up5)
  obtain⟨ob,hob,hoc⟩:=fl5.there
  have ty:PySem.W.Looks (model X.prog X.w) h5 (typeOf (.ref a)) (.ref C):=by rw[←hoc];exact(PySem.W.Looks.ld hob).andThen .now
  refine wpAny_handleBy_cons (codeAny_handlers_test (yT (X:=X.inH a) (I5.inH a) hg hm ((PySem.W.exm_one I5.kIn ty hex).here ?_) hd)) (by intro q;cases q)
  refine codeAny_handlers_suite_as ?_
  refine lands_againW fl5 fun h6 fl6 up6=>?_
  have f6:=go h6 (by rw[hstk];exact fl6) ((up4.trans up5).trans up6)
  have I6:Inv X Aa σ (upd H' a (.ext (OD.excAt a C))) { s1 with heap:=h6 }:=I1.call' (s':={ s1 with heap:=h6 }) os f6.track.1 f6.track.2 bare (fun _ z=>nomatch z)
  refine wK (X:=X.inH a) (v:=V.ref a) (I6.inH a) hN hj (.inl hn) rfl (fun s7 I7=>?_) (.inr hn)
  refine wpAny_mono (hh a Aa s7 _ _ (D.off j) I7 (hth a C rfl f6.out)) (fun f s3 q=>?_) fun _ _ z=>z.elim
  have q:=SP.outH I.ok q
  cases f with
  | next=>obtain⟨σ',H',I',q⟩:=q;exact ve I' hN hj hn fun s' I''=>⟨_,H',I'',q⟩
  | brk=>obtain⟨σ',H',I',q⟩:=q;exact ve I' hN hj hn fun s' I''=>⟨_,H',I'',q⟩
  | cont=>obtain⟨σ',H',I',q⟩:=q;exact ve I' hN hj hn fun s' I''=>⟨_,H',I'',q⟩
  | ret u=>obtain⟨v,σ',H',I',r,q⟩:=q;exact ve I' hN hj hn fun s' I''=>⟨v,_,H',I'',r,q⟩
end
open PySem PySem.Spec PyProof.Rows PySem.W PySem.Builtin PySem.Builtin.ObjectAttr PySem.Builtin.Getset_descriptor
structure yP(K:A_)(C:Addr):Prop where
 ga:PySem.W.findIn K (.ref C) "__getattribute__"=some (some (.builtin "BaseException.__getattribute__"))
 gn:PySem.W.findIn K (.ref C) "__getattr__"=some none
 ha:PySem.W.findIn K (.ref C) "__class__"=some (some (.builtin "object.__class__"))
 hn:PySem.W.specialIn K (.builtin "object.__class__") "__get__"=some (some (.builtin "getset_descriptor.__get__"))
 htk:PySem.W.takesIn K (.builtin "object.__class__")=some true
 hm:PySem.W.mroIn K C (.type "object")=some true
 hb:PySem.W.mroIn K C (.type "BaseException")=some true
section
variable{prog:Program}{w:World}{A:Around}{E:cp}{s:Shared}{K:A_}{a C:Addr}{oa:Obj}
theorem W5{R:Result→Shared→Prop}{tp:Value}(X:K.In s.heap)(e1:s.heap.get? a=some oa)(e2:oa.cls=.ref C)(hm:mroIn K C (.type "object")=some true)(h:R (.ok (.ret (.ref C))) s):
  codeAny (model prog w) A (.call (.builtin "getset_descriptor.__get__") ⟨[.builtin "object.__class__",.ref a,tp],[]⟩) R s:=by
 obtain⟨h0,gs,dn,tn,oo⟩:=s
 have e1:h0.get? a=some oa:=e1
 have Lt:Looks (model prog w) h0 (typeOf (.ref a)) (.ref C):=e2 ▸ (Looks.ld e1).andThen .now
 have Lm:=looks_mroIn (M:=model prog w) X hm
 refine codeAny_call_builtin KF.slot_gs.plain KF.entry_gs (KF.slot_gs.check (model prog w) _ _ _ _ _ _ _ KF.type_class (KF.args_gs _ _ _) ?_)
 unfold Builtin.«getset_descriptor.__get__» descrGet;rw[dga_obj]
 refine wpAny_bind (wpAny_pure ?_);unfold descrGetter descrCheckInstance descrNameAndClass isInstance
 simp only[KF.owner_class]
 repeat lk
 refine⟨Code.quiet_builtin _ (by decide +kernel),codeAny_builtin KF.entry_class (by
  unfold Builtin.«object.__class__» shownTypeOf
  repeat lk
  exact h)⟩
theorem ii{Q:Option Value→Shared→Prop}(O:yP K C)(X:K.In s.heap)(e1:s.heap.get? a=some oa)(e2:oa.cls=.ref C)
  (h:Q (some (.ref C)) { s with toks:=s.toks+1 }):wpAny (model prog w) A (getAttr? (.ref a) "__class__") Q E s:=by
 obtain⟨h0,gs,dn,tn,oo⟩:=s
 have Lt:Looks (model prog w) h0 (typeOf (.ref a)) (.ref C):=e2 ▸ (Looks.ld e1).andThen .now
 have La:=looks_findIn (M:=model prog w) X O.ga
 have Ln:=looks_findIn (M:=model prog w) X O.gn
 have Lf:Looks (model prog w) h0 (Builtin.ObjectAttr.find (.ref a) (.ref C) "__class__") (.bind (.builtin "getset_descriptor.__get__") (.builtin "object.__class__")):=
  (looks_findIn X O.ha).andThen ((looks_specialIn X O.hn).andThen ((show Looks _ h0 (Builtin.ObjectAttr.dataDescriptor? (some (.builtin "object.__class__")) (some (.builtin "getset_descriptor.__get__"))) (some (.builtin "getset_descriptor.__get__",.builtin "object.__class__")) from(looks_takesIn X O.htk).andThen .now).andThen (Looks.tag .now)))
 unfold getAttr? getAttrBy? getAttrBy
 refine wpAny_bind (wpAny_mkText (wpAny_bind (wpAny_attempt (wpAny_holding (wpAny_bind (Lt.at (wpAny_bind (La.at ?_))))))))
 show wpAny _ _ (getAttrByItsOwn _ _ _ _ _ _) _ _ _
 unfold getAttrByItsOwn hookBefore
 refine wpAny_bind (show wpAny _ _ (typeLookup _ _) _ _ _ from Ln.at (wpAny_bind (wpAny_attempt (wpAny_holding (show wpAny _ _ (boundAndCalled _ _ _) _ _ _ from ?_)))))
 unfold boundAndCalled
 refine wpAny_bind (wpAny_of_eq (PySem.F.attrBase_ValueError.ga.bind (.ref a)) ?_)
 have Lb:=looks_mroIn (M:=model prog w) X O.hb
 refine wpAny_call (codeAny_call_builtin PySem.F.attrBase_ValueError.ga.plain PySem.F.entry_bexc_ga ?_)
 have hk1:builtinKind "BaseException.__getattribute__"=some .slot:=by decide +kernel
 have hk2:splitId "BaseException.__getattribute__"=some ("BaseException","__getattribute__"):=by decide +kernel
 have hk3:=PySem.F.args_bexc_ga (.ref a) (.str "__class__" tn)
 simp only[checkBuiltinCall,hk1,hk2]
 unfold isInstance
 refine wpAny_bind (wpAny_bind (Lt.at (Lb.at ?_)))
 have hid:∃z,z=oa∧h0.get? a=some z:=⟨oa,rfl,e1⟩
 clear e1
 repeat(any_goals (first|assumption|wp_step))
 obtain⟨z,rfl,e1⟩:=hid
 refine wpAny_loadPart_at e1 ?_
 refine wpAny_pure ?_
 rw[e2]
 refine wpAny_bind (Lf.at ?_)
 show wpAny _ _ (holding [Value.builtin "object.__class__"] (call (Value.builtin "getset_descriptor.__get__") [Value.builtin "object.__class__",Value.ref a,Value.ref C]) >>= ret) _ _ _
 exact wpAny_bind (wpAny_holding (wpAny_call (W5 (s:=⟨h0,gs,dn,tn+1,oo⟩) X e1 e2 O.hm (wpAny_pure (handed_on rfl (wpAny_pure h))))))
end
def pi{K:A_}{C:Addr}{b:Value}{r:Bool}(e:mroIn K C b=some r):∃c d cd sl,K.lookup C=some ⟨c,d,.cls cd,sl⟩:=by
 unfold mroIn clsIn at e
 revert e
 cases q:K.lookup C with
 | none=>intro e;simp at e
 | some o=>
  obtain⟨c,d,dt,sl⟩:=o
  cases dt<;>intro e<;>first|exact⟨_,_,_,_,rfl⟩|simp at e
theorem dP{K:A_}{a C:Addr}(O:yP K C):KitX K (.ref a) (.ref C) (OD.excAt a C) where
 ty:=fun _ _ _ ⟨_,e1,e2⟩=>e2 ▸ (Looks.ld e1).andThen .now
 it:=fun _ _ X _=>by
  obtain⟨c,d,cd,sl,hl⟩:=pi O.hm
  intro A1 Q1 E1 s1 k1 q1
  unfold isType loadHead
  exact wpAny_bind (wpAny_loadPart (k1 _ _ (X _ _ hl)) (wpAny_pure q1))
 ne:=fun h tp dd its n sl X htp=>by
  obtain⟨c,d,cd,sl1,hl⟩:=pi O.hm
  refine B2.mpr fun q=>?_
  have e:C=tp:=Value.ref.inj (eq_of_beq q)
  rw[e]at hl
  have z:=(X _ _ hl).symm.trans htp;cases z
 ca:=fun X ⟨_,e1,e2⟩ k=>ii O X e1 e2 k
end L2
namespace OD
open PySem PySem.Spec PyProof.Rows L2
variable{Z:Hp}
def XOn(X:Cx)(C:Addr)(H':Hp):Prop:=∀(Aa:am)(σ:L2.St)(H:Hp)(s:Shared)(a:Addr)(s':Shared),Inv X Aa σ H s→s'.os=s.os→AllBare s'.gens→tJ X.prog X.w X.stack H s.heap H' a (.ref C) s'.heap→X.xe (.ref a) s'
def Lg(X:Cx):XK:=fun cls _ H'=>∃C,cls=.ref C∧XOn X C H'
def s8{X:Cx}:tm (CX1 X.prog X.w) X (Lg X):=fun Aa σ H s e s' I ⟨a,C,H',ee,os,bare,fl,C',ec,h⟩=>by
 cases ec
 subst ee
 exact h Aa σ H s a s' I os bare fl
def Rz(X:Cx)(C:Addr):Prop:=∀H',Same (Zx X) H'→XOk X C H'∧XOn X C H'
section
variable{P:Program}{w:World}{K:A_}{mg:be}{base:Heap}{N:List Str}{qual:Str}{scope:Scope}{f C:Addr}{cd:Value}{A:Around}{outer:List Env}{s:Shared}{H:Hp}{E:XK}
def nr(h:∀H',Same H H'→E (.ref C) none H'):Rz (yg (CX1 P w) P w K mg base N qual scope f cd A outer s H E) C:=fun H' z=>by
 rw[mG]at z
 refine⟨Ur (h H' z),fun Aa σ H2 s2 a s' I os bare fl=>?_⟩
 exact Qt (X:=yg (CX1 P w) P w K mg base N qual scope f cd A outer s H E) I rfl rfl rfl fl fun h' fl'=>⟨a,C,H',rfl,os.trans I.os,bare,fl',h H' z⟩
end
abbrev z0:=List Dt→(Dt→Prop)→(Addr→Prop)→Prop
def z9(K:A_)(S:z0):Sp:=fun vs H Q E=>∃(W:Vw)(ds:List Dt)(Qd:Dt→Prop)(Ed:Addr→Prop),W.h=H∧AllIs K W.g ds vs∧S ds Qd Ed∧(∀d v W',Le W W'→Is K W'.g d v→Qd d→Q v W'.h)∧∀C H',Same W.h H'→Ed C→E (.ref C) none H'
def yd(K:A_)(S:z0):Sp:=fun vs H Q E=>∃(W:Vw)(ds:List Dt)(Qd:Dt→Prop)(Ed:Addr→Prop),W.h=H∧AllIs K W.g ds vs∧S ds Qd Ed∧
 (∀es p xs W',Le W W'→W.h p=none→W'.h p=some (.lst xs)→W'.g p=none→AllIs K W'.g es xs→Qd (.lst es)→Q (.ref p) W'.h)∧∀C H',Same W.h H'→Ed C→E (.ref C) none H'
structure DOkX(P:Program)(w:World)(K:A_)(mg:be)(base:Heap)(n:Nat)(x:Str)(S:z0):Prop where
 ex:∃f fd ps,mg x=some (.ref f)∧PySem.W.keepIn K (.ref f)=true∧Binds K fd ps []∧FnOk P w K mg base (CX1 P w) n f fd ps (z9 K S)
structure FOkX(P:Program)(w:World)(K:A_)(mg:be)(base:Heap)(n:Nat)(x:Str)(S:z0):Prop where
 ex:∃f fd ps,mg x=some (.ref f)∧PySem.W.keepIn K (.ref f)=true∧Binds K fd ps []∧FnOk P w K mg base (CX1 P w) n f fd ps (yd K S)
section
variable{P:Program}{w:World}{K:A_}{mg:be}{base:Heap}
theorem Fun.okX{CX:CXT}{x qual:Str}{st:Stmt}{f:Addr}{fd:FuncData}{N ps:List Str}{k:Nat}{sp:Sp}(F:Fun K x qual st f fd)(S:zh N ps (defScope st))(len:∀vs H Q E,sp vs H Q E→vs.length=ps.length)
  (hbody:∀(cdv:Value)(A:Around)(outer:List Env)(s:Shared)(H:Hp)(vs:List V)(Q:VK)(E:XK),Room k (A.deeper (envOfC qual (defScope st) s.heap.objs.size f cdv))→sp vs H Q E→
   ∃t,PSs (yg CX P w K mg base N qual (defScope st) f cdv A outer s H E) (defBody st) t∧t { nx:=fun _ H'=>Q .non H',rt:=Q } (start N vs) H):FnOk P w K mg base CX (k+1) f fd ps sp:=by
 obtain⟨oc,od,kV,doc,pm,an,cdv,ct,osl,rfl,lk,hcd⟩:=F.ex
 exact V8 lk hcd S len fun A outer s H vs Q E hr h=>hbody cdv A outer s H vs Q E hr h
theorem rn{x qual:Str}{st:Stmt}{f:Addr}{fd:FuncData}{N ps:List Str}{k:Nat}{S:z0}(F:Fun K x qual st f fd)(sc:zh N ps (defScope st))(len:∀ds Q R,S ds Q R→ds.length=ps.length)
  (hbody:∀(cdv:Value)(A:Around)(outer:List Env)(s:Shared)(H:Hp)(E:XK),Room k (A.deeper (envOfC qual (defScope st) s.heap.objs.size f cdv))→∀(ds:List Dt)(Q:Dt→Prop)(R:Addr→Prop),S ds Q R→
   (∀C,R C→Rz (yg (CX1 P w) P w K mg base N qual (defScope st) f cdv A outer s H E) C)→
   ∃t,DSs (yg (CX1 P w) P w K mg base N qual (defScope st) f cdv A outer s H E) .d (defBody st) t∧t { nx:=fun _=>Q .non,rt:=Q } (z_ N.length ds)):FnOk P w K mg base (CX1 P w) (k+1) f fd ps (z9 K S):=by
 refine Fun.okX F sc (fun vs H Q E h=>?_) (fun cdv A outer s H vs Q E hr h=>?_)
 ·obtain⟨W,ds,Qd,Ed,_,ia,hS,_⟩:=h
  rw[←ia.length]
  exact len ds Qd Ed hS
 obtain⟨W,ds,Qd,Ed,rfl,ia,hS,kk,ke⟩:=h
 obtain⟨t,⟨ts,p,l⟩,ht⟩:=hbody cdv A outer s W.h E hr ds Qd Ed hS fun C hC=>nr fun H' z=>ke C H' z hC
 refine⟨ts,p,l W W.g (z_ N.length ds) (start N vs) W { nx:=fun _=>Qd .non,rt:=Qd } _ (y0 ia (wJ (BN _))) ⟨fun ρ σ W' a q=>kk .non .non W' a.le (is_non.mpr rfl) q,fun d v W' s' i' q=>kk d v W' s' i' q,fun _ _ _ _ q=>q.elim,fun _ _ _ _ q=>q.elim⟩ ht⟩
theorem nS{x qual:Str}{st:Stmt}{f:Addr}{fd:FuncData}{N ps:List Str}{k:Nat}{S:z0}(F:Fun K x qual st f fd)(sc:zh N ps (defScope st))(len:∀ds Q R,S ds Q R→ds.length=ps.length)
  (hbody:∀(cdv:Value)(A:Around)(outer:List Env)(s:Shared)(H:Hp)(E:XK),Room k (A.deeper (envOfC qual (defScope st) s.heap.objs.size f cdv))→∀(ds:List Dt)(Q:Dt→Prop)(R:Addr→Prop),S ds Q R→
   (∀C,R C→Rz (yg (CX1 P w) P w K mg base N qual (defScope st) f cdv A outer s H E) C)→
   ∃t,DSs (yg (CX1 P w) P w K mg base N qual (defScope st) f cdv A outer s H E) .l (defBody st) t∧t { nx:=fun _=>False,rt:=Q } (z_ N.length ds)):FnOk P w K mg base (CX1 P w) (k+1) f fd ps (yd K S):=by
 refine Fun.okX F sc (fun vs H Q E h=>?_) (fun cdv A outer s H vs Q E hr h=>?_)
 ·obtain⟨W,ds,Qd,Ed,_,ia,hS,_⟩:=h
  rw[←ia.length]
  exact len ds Qd Ed hS
 obtain⟨W,ds,Qd,Ed,rfl,ia,hS,kk,ke⟩:=h
 obtain⟨t,⟨ts,p,l⟩,ht⟩:=hbody cdv A outer s W.h E hr ds Qd Ed hS fun C hC=>nr fun H' z=>ke C H' z hC
 exact⟨ts,p,l W W.g (z_ N.length ds) (start N vs) W { nx:=fun _=>False,rt:=Qd } _ (y0 ia (wJ (BN _))) ⟨fun ρ σ W' a q=>q.elim,fun d v W' s' ⟨es,p,xs,e1,e2,e3,e4,e5,e6⟩ q=>by subst e1;subst e2;exact kk es p xs W' s' e3 e4 e5 e6 q,fun _ _ _ _ q=>q.elim,fun _ _ _ _ q=>q.elim⟩ ht⟩
def DOkX.mk'{x qual:Str}{st:Stmt}{f:Addr}{fd:FuncData}{ps:List Str}{n:Nat}{S:z0}(F:Fun K x qual st f fd)(hm:mg x=some (.ref f))(hb:Binds K fd ps [])(h:FnOk P w K mg base (CX1 P w) n f fd ps (z9 K S)):DOkX P w K mg base n x S:=
 ⟨f,fd,ps,hm,F.kp,hb,h⟩
def FOkX.mk'{x qual:Str}{st:Stmt}{f:Addr}{fd:FuncData}{ps:List Str}{n:Nat}{S:z0}(F:Fun K x qual st f fd)(hm:mg x=some (.ref f))(hb:Binds K fd ps [])(h:FnOk P w K mg base (CX1 P w) n f fd ps (yd K S)):FOkX P w K mg base n x S:=
 ⟨f,fd,ps,hm,F.kp,hb,h⟩
end
section
variable{X:Cx}{e a:Expr}{es:List Expr}{t:DTA}{ta:DTE}{n:Nat}{x:Str}{S:z0}{p pos np cpos:Pos}{fr:Fr}{C:Addr}
def qN{F:Hp}{W:Vw}{ρ:DS}{σ:L2.St}{K:A_}(r:Rl K Z F W ρ σ):Same Z W.h:=r.z.trans r.fr
def cQ(X:Cx)(S:z0)(t:DTA):DTE:=fun ρ Q=>t ρ fun ds=>S ds Q (Rz X)
def zE(G:DOkX X.prog X.w X.K X.mg X.base n x S)(hr:Room n X.A)(hg:Gl X x)(ha:DA X (e::es) t)(hdb:ug x:=by decide)
  (he:J' X.env e es:=by rfl) (hpl:K' X.env pos es:=by rfl):DE X (.Call (.Name x p) (e::es) [] pos) (cQ X S t):=by
 obtain⟨f,fd,ps,hm,hk,hb,F⟩:=G.ex
 obtain⟨te,p1,l1⟩:=ha
 refine⟨_,vj F hr hg hm hk hb .nil s8 p1 hdb he hpl,fun ρ σ H Q r h R k=>l1 ρ σ H _ r h _ fun ds vs H1 s1 i1 q1=>?_⟩
 rw[Bv]
 exact⟨H1,ds,Q,Rz X,rfl,i1,q1,fun d v H2 s2 i2 q2=>k d v H2 (s1.trans s2) i2 q2,fun C H' s' hC=>⟨C,rfl,(hC H' (((qN r).trans s1.h).trans s')).2⟩⟩
def zY(G:FOkX X.prog X.w X.K X.mg X.base n x S)(hr:Room n X.A)(hg:Gl X x)(ha:DA X (e::es) t)(hdb:ug x:=by decide)
  (he:J' X.env e es:=by rfl) (hpl:K' X.env pos es:=by rfl):DF X (.Call (.Name x p) (e::es) [] pos) (cQ X S t):=by
 obtain⟨f,fd,ps,hm,hk,hb,F⟩:=G.ex
 obtain⟨te,p1,l1⟩:=ha
 refine⟨_,vj F hr hg hm hk hb .nil s8 p1 hdb he hpl,fun ρ σ H Q r h R k=>l1 ρ σ H _ r h _ fun ds vs H1 s1 i1 q1=>?_⟩
 rw[Bv]
 exact⟨H1,ds,Q,Rz X,rfl,i1,q1,fun es p xs H2 s2 h0 h1 h2 i2 q2=>k es p xs H2 (s1.trans s2) (s1.h.free h0) h1 h2 i2 q2,fun C H' s' hC=>⟨C,rfl,(hC H' (((qN r).trans s1.h).trans s')).2⟩⟩
def QP(X:Cx)(C:Addr)(ta:DTE):DTS:=fun _ ρ=>ta ρ fun _=>Rz X C
def ya(hc:X.calm=true)(hg:Gl X x)(hm:X.mg x=some (.ref C))(hC:ExcK X.K C)(ha:DE X a ta)(hdb:ug x:=by decide)
  (he:starEach [a] X.env=(false,eval a X.env)::starEach [] X.env:=by rfl):DSt X fr (.Raise (some (.Call (.Name x np) [a] [] cpos)) none pos) (QP X C ta):=by
 obtain⟨te,p1,l1⟩:=ha
 exact⟨_,gb hc hg hm hC p1 hdb he,fun W0 G ρ σ W D D' at_ s h=>l1 ρ σ W _ at_.rl h _ fun d v W1 s1 i1 q1=>(q1 W1.h ((qN at_.rl).trans s1.h)).1⟩
def V3(K:A_)(Z:Hp)(fr:Fr)(t:DTS):TS:=fun D' σ H=>∃(W0:Vw)(G:Hp)(ρ:DS)(W:Vw)(D:DEnds),W.h=H∧At K Z W0 G W ρ σ∧Sim K Z fr W0 G D D'∧t D ρ
def DSs.up{sts:List Stmt}{t:DTS}(h:DSs X fr sts t):PSs X sts (V3 X.K (Zx X) fr t):=by
 obtain⟨ts,p,l⟩:=h
 intro Aa s σ H D' I q
 obtain⟨W0,G,ρ,W,D,rfl,a,sm,ht⟩:=q
 exact p Aa s σ W.h D' I (l W0 G ρ σ W D D' a sm ht)
def Vw.at(W:Vw)(H':Hp)(s:Same W.h H'):Vw:=⟨W.g,H',W.sub.trans s⟩
def Oj{W:Vw}{H':Hp}(s:Same W.h H'):Le W (W.at H' s):=⟨Same.refl _,s,fun _ _ h=>h⟩
variable{epos:Pos}
theorem bX{f:Addr}{fd:FuncData}{ps:List Str}{sp:Sp}{te:TA}(F:FnOk X.prog X.w X.K X.mg X.base (CX1 X.prog X.w) n f fd ps sp)(hr:Room n X.A)(hg:Gl X x)(hm:X.mg x=some (.ref f))(hk:PySem.W.keepIn X.K (.ref f)=true)(hb:Binds X.K fd ps [])(ha:PA X.nox (e::es) te)
  (hs:swapsWith (.Call (.Name x p) (e::es) [] pos) none epos.line X.env=pure false:=by rfl) (hdb:ug x:=by decide)
  (he:J' X.env e es:=by rfl) (hpl:K' X.env pos es:=by rfl):
  PB X [.Expr (.Call (.Name x p) (e::es) [] pos) epos] (fun nx E σ H=>te σ H fun vs H1=>sp vs H1 (fun _ H2=>nx σ H2) E):=by
 intro Aa s σ H nx E I h
 refine wpAny_execs_cons (wpAny_Expr_any (thn (l8 F hr hg hm hk hb ha I h hdb he hpl) fun v s1 zz=>?_) I.quiet hs)
 obtain⟨x,H1,I1,r1,q1⟩:=zz
 exact wpAny_execs_nil ⟨rfl,σ,H1,I1,q1⟩
end
def Rl.unset{K:A_}{F:Hp}{W:Vw}{ρ:DS}{σ:L2.St}(r:Rl K Z F W ρ σ)(j:Nat):Rl K Z F W (ρ.set j .none) (σ.set j none):=by
 refine⟨by rw[BC,BC];exact r.len,fun i d q=>?_,fun i ds q=>?_,fun i k ds es hik q1 q2=>?_,r.fr,r.z,fun i c ds q=>?_,r.ob.set j _ (fun φ z=>by cases z)⟩
 ·rcases zm q with ⟨_,_,e1⟩|⟨hij,q⟩
  ·cases e1
  ·rw[Be hij];exact r.at_ i d q
 ·rcases zm q with ⟨_,_,e1⟩|⟨hij,q⟩
  ·cases e1
  ·rw[Be hij];exact r.ow i ds q
 ·rcases zm q1 with ⟨_,_,e1⟩|⟨h1,q1⟩
  ·cases e1
  rcases zm q2 with ⟨_,_,e1⟩|⟨h2,q2⟩
  ·cases e1
  rw[Be h1,Be h2];exact r.ne i k ds es hik q1 q2
 ·rcases zm q with ⟨_,_,e1⟩|⟨hij,q⟩
  ·cases e1
  obtain⟨⟨ys',g1,g2⟩,k1,k2⟩:=r.ar i c ds q
  refine⟨⟨ys',by rw[Be hij];exact g1,g2⟩,fun k es' q'=>?_,fun k c' es' q'=>?_⟩
  ·rcases zm q' with ⟨_,_,e1⟩|⟨hik,q'⟩
   ·cases e1
   ·rw[Be hik];exact k1 k es' q'
  ·rcases zm q' with ⟨_,_,e1⟩|⟨hik,q'⟩
   ·cases e1
   exact k2 k c' es' q'
def At.unset{K:A_}{W0 W:Vw}{G:Hp}{ρ:DS}{σ:L2.St}(a:At K Z W0 G W ρ σ)(j:Nat):At K Z W0 G W (ρ.set j .none) (σ.set j none):=⟨a.le,a.gs,a.rl.unset j⟩
abbrev DEnds.off(D:DEnds)(j:Nat):DEnds:=⟨fun ρ=>D.nx (ρ.set j .none),D.rt,fun ρ=>D.bk (ρ.set j .none),fun ρ=>D.ct (ρ.set j .none)⟩
def Sim.off{K:A_}{fr:Fr}{W0:Vw}{G:Hp}{D:DEnds}{D':Ends}(s:Sim K Z fr W0 G D D')(j:Nat):Sim K Z fr W0 G (D.off j) (D'.off j):=
 ⟨fun ρ σ W' a q=>s.nx _ _ W' (a.unset j) q,s.tl,fun ρ σ W' a q=>s.bk _ _ W' (a.unset j) q,fun ρ σ W' a q=>s.ct _ _ W' (a.unset j) q⟩
section
variable{X:Cx}{e:Expr}{es:List Expr}{t:DTA}{n:Nat}{x y m:Str}{j:Nat}{S:z0}{p pos py hpos epos tpos:Pos}{fr:Fr}{b₀:Stmt}{suite:List Stmt}{th:DTS}{c:Value}
def QM(K:A_)(c:Value)(j:Nat)(S:z0)(t:DTA)(th:DTS):DTS:=fun D ρ=>t ρ fun ds=>S ds (fun _=>D.nx ρ) fun C=>PySem.W.exmOne K (.ref C) c=some true∧th (D.off j) (ρ.set j (.some (.exc C)))
theorem Q2{K:A_}{W0 W1:Vw}{G H':Hp}{ρ:DS}{σ:L2.St}{C a:Addr}(at_:At K Z W0 G W1 ρ σ)(s':Same W1.h H')(hn:H' a=none)(j:Nat):
  At K Z W0 G ((W1.at H' s').new a (.ext (excAt a C))) (ρ.set j (.some (.exc C))) (σ.set j (some (.ref a))):=
 ((at_.step (Oj s')).step (xX (W:=W1.at H' s') hn _)).set j (is_exc.mpr ⟨a,rfl,zr⟩)
theorem cv(hstk:X.stack=X.env::X.outer)(hf:X.env.frame=some X.env.locals)(hN:X.N.Nodup)(hj:X.N[j]? = some m)(hmj:X.env.scope.names.lookup m=some .local)(G:DOkX X.prog X.w X.K X.mg X.base n x S)(hr:Room n X.A)(hg:Gl X x)(ha:DA X.nox (e::es) t)(hh:∀a,DSs (X.inH a) fr (b₀::suite) th)(hgy:Gl X y)(hmy:X.mg y=some c)
  (hs:swapsWith (.Call (.Name x p) (e::es) [] pos) none epos.line X.env=pure false:=by rfl) (hdb:ug x:=by decide) (hdy:ug y:=by decide)
  (he:J' X.env e es:=by rfl) (hpl:K' X.env pos es:=by rfl):
  DSt X fr (.Try [.Expr (.Call (.Name x p) (e::es) [] pos) epos] [.ExceptHandler (some (.Name y py)) (some m) (b₀::suite) hpos] [] [] tpos) (QM X.K c j S t th):=by
 obtain⟨f,fd,ps,hm,hk,hb,F⟩:=G.ex
 obtain⟨te,p1,l1⟩:=ha
 refine⟨_,h9 (th:=V3 X.K (Zx X) fr th) hstk hf hN hj hmj (bX F hr hg hm hk hb p1 hs hdb he hpl) (fun a=>(hh a).up) hgy hmy hdy,fun W0 G ρ σ W D D' at_ s h=>?_⟩
 refine l1 ρ σ W _ at_.rl h _ fun ds vs W1 s1 i1 q1=>⟨W1,ds,_,_,rfl,i1,q1,fun d v W2 s2 i2 q2=>s.nx ρ σ W2 ((at_.step s1).step s2) q2,fun C H' s' ⟨e1,e2⟩=>⟨e1,fun a C' ec hn=>?_⟩⟩
 cases ec
 exact⟨W0,G,_,_,_,rfl,Q2 (at_.step s1) s' hn j,s.off j,e2⟩
def pj:wH X (.builtin "isinstance") (fun xs H Q=>∃a C vc c b,xs=[.ref a,vc]∧(∀u,RelV vc u→u=c)∧H a=some (.ext (excAt a C))∧yP X.K C∧PySem.W.kitOne X.K (.ref C) c=some b∧Q (.bl b) H):=by
 intro Aa s σ H xs us Q I r h
 obtain⟨a,C,vc,c,b,rfl,hvc,ha,O,hk,q⟩:=h
 cases r with
 | cons r1 r2=>
  cases r2 with
  | cons r3 r4=>
   cases r4
   cases r1
   cases hvc _ r3
   exact PySem.W.kia_one (dP O) I.kIn (I.hok a _ ha).1 hk (fun z=>nomatch z) fun tk=>⟨.bl b,H,I.tok _,rfl,q⟩
def kQ(K:A_)(c:Value)(ta:DTE):DTE:=fun ρ Q=>ta ρ fun d=>∃C b,d=.exc C∧yP K C∧PySem.W.kitOne K (.ref C) c=some b∧Q (.bl b)
theorem Vl{a:Expr}{ta:DTE}{p0 p':Pos}{D:Addr}(hm:X.mg "isinstance"=none)(hmc:X.mg y=some (.ref D))(ha:DE X a ta)
  (hg:Gl X "isinstance":=by rfl) (hgc:Gl X y:=by rfl) (hdy:ug y:=by decide)
  (hs:starEach [a,.Name y p'] X.env=(false,eval a X.env)::starEach [.Name y p'] X.env:=by rfl) (hs2:starEach [.Name y p'] X.env=(false,eval (.Name y p') X.env)::starEach [] X.env:=by rfl)
  (hpl:K' X.env pos [.Name y p']:=by rfl):
  DE X (.Call (.Name "isinstance" p0) [a,.Name y p'] [] pos) (kQ X.K (.ref D) ta):=by
 obtain⟨te,p1,l1⟩:=ha
 have pc:PE X (.Name y p') (tC (.ref D)):=sw hgc hmc rfl hdy
 refine⟨_,yx pj hg hm boot_isinstance (zB p1 (zB pc zS hs2) hs) (by decide) (by decide) hs hpl,fun ρ σ H Q r h R k=>l1 ρ σ H _ r h _ fun d v H1 s1 i1 zz=>?_⟩
 obtain⟨C,b,ed,ok,e,q⟩:=zz
 subst ed
 obtain⟨z,rfl,hz⟩:=is_exc.mp i1
 exact⟨z,C,_,_,b,rfl,fun u hu=>hu,H1.sub _ _ hz,ok,e,k _ _ H1 s1 (is_bl.mpr rfl) q⟩
theorem cL{a:Expr}{ta:DTE}{p0 p':Pos}(hm:X.mg "isinstance"=none)(hmc:X.mg "ValueError"=none)(ha:DE X a ta)
  (hg:Gl X "isinstance":=by rfl) (hgc:Gl X "ValueError":=by rfl)
  (hs:starEach [a,.Name "ValueError" p'] X.env=(false,eval a X.env)::starEach [.Name "ValueError" p'] X.env:=by rfl) (hs2:starEach [.Name "ValueError" p'] X.env=(false,eval (.Name "ValueError" p') X.env)::starEach [] X.env:=by rfl)
  (hpl:K' X.env pos [.Name "ValueError" p']:=by rfl):
  DE X (.Call (.Name "isinstance" p0) [a,.Name "ValueError" p'] [] pos) (kQ X.K (.type "ValueError") ta):=by
 obtain⟨te,p1,l1⟩:=ha
 have pc:PE X (.Name "ValueError" p') (tC (.ty "ValueError")):=fun Aa s σ H Q I h=>xY I hgc hmc (by decide +kernel) ⟨.ty "ValueError",H,I,rfl,h⟩
 refine⟨_,yx pj hg hm boot_isinstance (zB p1 (zB pc zS hs2) hs) (by decide) (by decide) hs hpl,fun ρ σ H Q r h R k=>l1 ρ σ H _ r h _ fun d v H1 s1 i1 zz=>?_⟩
 obtain⟨C,b,ed,ok,e,q⟩:=zz
 subst ed
 obtain⟨z,rfl,hz⟩:=is_exc.mp i1
 exact⟨z,C,_,_,b,rfl,fun u hu=>hu,H1.sub _ _ hz,ok,e,k _ _ H1 s1 (is_bl.mpr rfl) q⟩
end
end OD
namespace OD
open PySem PySem.Spec PyProof.Rows L2
def zK(X:Cx)(scope:Scope)(cl:List (Str×Addr))(bs caps:List Str)(C:Addr)(s:Shared)(H:Hp)(fp:List Addr)(Aa:am):Cx where
 prog:=X.prog
 w:=X.w
 K:=X.K
 mg:=X.mg
 base:=X.base
 A:=X.A
 N:=bs++caps
 s₀:=s
 H₀:=H
 env:=compEnvC scope cl C X.env
 outer:=X.stack
 stack:=X.stack
 ex:=fp
 fn:=fun y=>bs.contains y
 calm:=X.calm
 pn:=X.pn++Aa
 xe:=fun _ _=>False
structure sK(X:Cx)(scope:Scope)(cl:List (Str×Addr))(bs caps:List Str)(js:List Nat):Prop where
 clos:closureFor scope X.env=pure cl
 sub:∀y c,cl.lookup y=some c→X.env.cells.lookup y=some c
 has:∀y,((relabel scope X.env).names.lookup y=some .cell∨(relabel scope X.env).names.lookup y=some .free)→∃c,cl.lookup y=some c
 nox:∀x∈bs,cl.lookup x=none
 cell:∀y∈scope.names,y.2≠.cell
 kind:scope.kind=.function
 names:∀y∈scope.names,y.2=.local→scope.names.lookup y.1=some .local
 loc:∀x∈bs,scope.names.lookup x=some .local
 nd:(bs++caps).Nodup
 len:js.length=caps.length
 at_:∀(k:Nat) y,caps[k]? = some y→∃j,js[k]? = some j∧X.N[j]? = some y
 cap:∀y∈caps,(relabel scope X.env).names.lookup y=some .cell∧X.env.scope.names.lookup y=some .cell
theorem va{prog:Program}{w:World}{A:Around}{s:Shared}{elt target iter:Expr}{ifs:List Expr}{scope:Scope}{pos:Pos}{it acc:Value}{env:Env}{R:Result→Shared→Prop}(I:Nat→Shared→Prop)
  (turn:∀n s,I n s→wpAny (model prog w) A (pyNext it) (fun r s₁=>match r with
   | none=>R (.ok .next) s₁
   | some v=>wpAny (model prog w) A (letOwnedTupleGo target it v) (fun _ s₁'=>wpAny (model prog w) A (assign target env v) (fun _ s₂=>
     wpAny (model prog w) A (forIn ifs true fun c r=>if r=true then do let ok ←isTrue c env (eval c env);pure (ForInStep.yield ok) else pure (ForInStep.yield r)) (fun ok s₃=>
      if ok=true then wpAny (model prog w) A (eval elt env) (fun x s₄=>
       wpAny (model prog w) A (call (.builtin "list.append") [acc,x]) (fun _ s₅=>∃m,m<n∧I m s₅) (notedBy (model prog w) A env fun e s'=>R (.error e) s') s₄) (notedBy (model prog w) A env fun e s'=>R (.error e) s') s₃
      else ∃m,m<n∧I m s₃) (notedBy (model prog w) A env fun e s'=>R (.error e) s') s₂)
     (notedBy (model prog w) A env fun e s'=>R (.error e) s') s₁') (notedBy (model prog w) A env fun e s'=>R (.error e) s') s₁) (notedBy (model prog w) A env fun e s'=>R (.error e) s') s)
  (n:Nat) (h:I n s):codeAny (model prog w) A (.compLoop (.ListComp elt [⟨target,iter,ifs,0⟩] scope pos) 0 it acc env) R s:=by
 refine codeAny_loop rfl I (fun n s hI=>?_) n h
 show wpAny _ A ((compTurn (.ListComp elt [⟨target,iter,ifs,0⟩] scope pos) 0 it acc env).onRaise (fun x=>do noteFrame x env;theTreesLotGoes x)) _ _ s
 refine wpAny_noted ?_
 rw[compTurn_list]
 refine wpAny_bind (wpAny_standAt (wpAny_bind (wpAny_mono (turn n s hI) (fun r s₁ h₁=>?_) fun _ _ h'=>h')))
 cases r with
 | none=>exact wpAny_pure h₁
 | some v=>
  refine wpAny_bind (wpAny_mono h₁ (fun _ s₁' h₁'=>?_) fun _ _ h'=>h')
  refine wpAny_bind (wpAny_mono h₁' (fun _ s₂ h₂=>wpAny_bind (wpAny_mono h₂ (fun ok s₃ h₃=>?_) fun _ _ h'=>h')) fun _ _ h'=>h')
  cases ok with
  | false=>exact wpAny_pure ⟨rfl,h₃⟩
  | true=>
   exact wpAny_bind (wpAny_bind (wpAny_mono h₃ (fun x s₄ h₄=>wpAny_bind (wpAny_mono h₄ (fun _ s₅ h₅=>wpAny_pure (wpAny_pure ⟨rfl,h₅⟩)) fun _ _ h'=>h')) fun _ _ h'=>h'))
def PC(X:Cx)(ifs:List Expr)(t:TT):Prop:=
 ∀(Aa:am)(s:Shared)(σ:St)(H:Hp)(Q:Bool→Hp→Prop)(E:cp),(∀v s,X.xe v s→E v s)→Inv X Aa σ H s→t σ H Q→
  wpAny (model X.prog X.w) X.A (forIn ifs true fun c r=>if r=true then do let ok ←isTrue c X.env (eval c X.env);pure (ForInStep.yield ok) else pure (ForInStep.yield r)) (TP X Aa σ Q) E s
def Td{X:Cx}:PC X [] (fun _ H Q=>Q true H):=fun _ _ _ H _ _ _ I h=>wpAny_tests_nil ⟨H,I,h⟩
section
variable{X:Cx}{Aa:am}{σ:St}{H:Hp}{s:Shared}{scope:Scope}{cl:List (Str×Addr)}{bs caps:List Str}{js:List Nat}{fp:List Addr}
theorem j5{h₁:Heap}{t:Nat}{m:be}(I:Inv X Aa σ H s)(S:sK X scope cl bs caps js)(hfp:∀b∈fp,xG X Aa H b)(hob:∀b∈fp,∃o,s.heap.get? b=some o)
  (hn:h₁.Ns s.heap.objs.size m) (hk:∀b o,s.heap.get? b=some o→h₁.get? b=some o):Inv (zK X scope cl bs caps s.heap.objs.size s H fp Aa) [] (bs.map (fun _=>none)++sk σ js) H { s with heap:=h₁,toks:=t }:=by
 refine⟨⟨I.ok.mod,S.kind,I.ok.glob,I.ok.blt,Bg _,fun y z c h1 h2=>?_,fun y hy=>?_,fun y c hf h=>?_,I.ok.hd,I.ok.frames,.inl rfl,fun b hb=>⟨?_,fun y c h=>?_⟩,I.bs,Br I.ok.bsz I.sz,fun b o e hb=>?_,fun b hb z=>?_,I.stack,I.stkFree⟩,
  rfl,I.bare,Un.kept hk,⟨_,hn,fun i y v h1 h2 h3=>?_⟩,fun y c h=>?_,I.hok.fresh (Bg _),fun y c h=>?_,fun p hp=>?_,I.hok.kept hk,?_⟩
 ·exact I.ok.inj y z c (S.sub y c h1) (S.sub z c h2)
 ·exact S.has y hy
 ·have hf:y∈bs:=List.contains_iff_mem.mp hf
  have h:cl.lookup y=some c:=h
  rw[S.nox y hf]at h
  cases h
 ·obtain⟨o,e⟩:=hob b hb
  exact Bl (Heap.lt_size e)
 ·exact(hfp b hb).2.2.2.2.1 y c (S.sub y c h)
 ·obtain⟨_,_,_,h4,_⟩:=hfp b hb
  rcases h4 with h4|h4
  ·exact I.ok.noex b o e h4
  ·exact absurd (Bj (Heap.lt_size e) (Br I.ok.bsz h4)) (BM _)
 ·obtain⟨_,h2,h3,_⟩:=hfp b hb
  rcases Bk.mp (I.stkSub b z) with q|q
  ·exact h2 q
  ·exact h3 q
 ·by_cases hi:i<bs.length
  ·rw[BH (by rw[A'];exact hi),Bn]at h2
   obtain⟨_,_,e⟩:=Bw.mp h2
   cases e
  ·have hi:bs.length≤i:=Nat.le_of_not_lt hi
   have h1:(bs++caps)[i]? = some y:=h1
   rw[BD hi]at h1
   rw[BD (by rw[A'];exact hi),A']at h2
   obtain⟨j,hj,hN⟩:=S.at_ _ y h1
   have hv:σ[j]? = some (some v):=by
    unfold sk at h2
    rw[Bn,hj]at h2
    have h2:(σ[j]?).getD none=some v:=Option.some.inj h2
    cases q:σ[j]? with
    | none=>rw[q]at h2;cases h2
    | some w=>rw[q]at h2;exact congrArg some h2
   obtain⟨c1,c2⟩:=S.cap y (Bp h1)
   obtain⟨m0,_,hl⟩:=I.loc
   obtain⟨u,ru,lk⟩:=hl j y v hN hv (.inr (.inl c2))
   refine⟨u,ru,.inr ⟨.inl c1,?_⟩⟩
   obtain⟨c,hc⟩:=S.has y (.inl c1)
   rcases lk with ⟨lk,_⟩|⟨_,c',hc',hcell⟩
   ·have lk:X.env.scope.names.lookup y=some .local:=lk
    rw[c2]at lk
    cases lk
   ·have e:=S.sub y c hc
    rw[hc']at e
    cases e
    obtain⟨o,ho,hd⟩:=hcell
    exact⟨_,hc,o,hk _ _ ho,hd⟩
 ·obtain⟨v,o,ho,hd⟩:=I.cell y c (S.sub y c h)
  exact⟨v,o,hk _ _ ho,hd⟩
 ·exact I.freeC y c (S.sub y c h)
 ·have hp:p∈X.pn++Aa:=by
   rcases Bx.mp hp with q|q
   ·exact q
   ·cases q
  obtain⟨h1,h2,h3,h4,h5⟩:=I.pin p hp
  refine⟨hk _ _ h1,h2,Bl (Heap.lt_size h1),fun z=>?_,h5⟩
  rcases Bk.mp (I.stkSub _ z) with q|q
  ·exact h3 q
  ·exact h4 q
 ·show(bs.map (fun _=>none)++sk σ js).length=(bs++caps).length
  unfold sk
  rw[Bo,Bo,A',A',S.len]
def j6{C:Addr}{σ':St}{H':Hp}{s':Shared}(I:Inv X Aa σ H s)(hfp:∀b∈fp,xG X Aa H b)(I':Inv (zK X scope cl bs caps C s H fp Aa) [] σ' H' s'):Inv X Aa σ H' s':=
 I.call' (ch:=fp) I'.os I'.base I'.hok I'.bare fun b hb=>by
  obtain⟨_,h2,_,h4,h5,h6⟩:=hfp b hb
  exact⟨h4,h2,h5,h6⟩
def lf(gt:TG)(tt:TT)(te:TE)(k:Nat)(τ:St)(Q:V→Hp→Prop):It→Hp→Prop:=fun J H1=>∃n:Nat,n<sizeLine∧∀D,H1 D=none→∃(Pv:Nat→List V→Hp→Prop)(Nx:Nat→V→List V→Hp→Prop),
 Pv 0 [] (upd H1 D (.lst []))∧(∀i ys H2,i≤n→Pv i ys H2→H2 D=some (.lst ys)∧ys.length≤i)∧
 (∀i ys H2,i<n→Pv i ys H2→J.go i H2∧∀v H3,J.yld i H2 v H3→Nx i v ys H3)∧(∀ys H2,Pv n ys H2→J.stop n H2)∧
 (∀i v ys H2 (σ0:St),i<n→Nx i v ys H2→σ0.length=k→gt v (σ0++τ) H2 fun σ1 H3=>(∃σ2:St,σ1=σ2++τ∧σ2.length=k)∧tt σ1 H3 fun b H4=>
  if b=true then te σ1 H4 fun y H5=>H5 D=some (.lst ys)∧Pv (i+1) (ys++[y]) (upd H5 D (.lst (ys++[y]))) else Pv (i+1) ys H4)∧∀ys H2,Pv n ys H2→Q (.ref D) H2
def iZ(wi:TI)(gt:TG)(tt:TT)(te:TE)(k:Nat)(js:List Nat):TE:=fun σ H Q=>wi σ H (lf gt tt te k (sk σ js) Q)
theorem mv{elt tg iter:Expr}{ifs:List Expr}{pos:Pos}{it D:Addr}{n:Nat}{J:It}{Nx:Nat→V→List V→Hp→Prop}{τ:St}{tn:Nat→Heap→Prop}{gt:TG}{tt:TT}{te:TE}{R:Result→Shared→Prop}{s₄:Shared}{Pv:Nat→List V→Hp→Prop}{C:Addr}(hc:X.calm=true)
  (hg:PG (zK X scope cl bs caps C s H fp Aa) tg gt) (ht':PC (zK X scope cl bs caps C s H fp Aa) ifs tt)
  (he:PE (zK X scope cl bs caps C s H fp Aa) elt te) {σ0:St} (hσ0:σ0.length=bs.length) (I:Inv (zK X scope cl bs caps C s H fp Aa) [] (σ0++τ) H s₄) (T:sr X.prog X.w X.K tg J fp it tn) (t0:tn 0 s₄.heap)
  (hfp:∀b∈fp,xG (zK X scope cl bs caps C s H fp Aa) [] H b) (hn:n<sizeLine)
  (h0:Pv 0 [] H) (hl:∀i ys H2,i≤n→Pv i ys H2→H2 D=some (.lst ys)∧ys.length≤i)
  (hgo:∀i ys H2,i<n→Pv i ys H2→J.go i H2∧∀v H3,J.yld i H2 v H3→Nx i v ys H3) (hst:∀ys H2,Pv n ys H2→J.stop n H2)
  (ht:∀i v ys H2 (σ0:St),i<n→Nx i v ys H2→σ0.length=bs.length→gt v (σ0++τ) H2 fun σ1 H3=>(∃σ2:St,σ1=σ2++τ∧σ2.length=bs.length)∧tt σ1 H3 fun b H4=>
   if b=true then te σ1 H4 fun y H5=>H5 D=some (.lst ys)∧Pv (i+1) (ys++[y]) (upd H5 D (.lst (ys++[y]))) else Pv (i+1) ys H4)
  (hR:∀σ' H' ys s',Inv (zK X scope cl bs caps C s H fp Aa) [] σ' H' s'→Pv n ys H'→R (.ok .next) s'):
  codeAny (model X.prog X.w) X.A (.compStart (.ListComp elt [⟨tg,iter,ifs,0⟩] scope pos) 0 (.ref it) (.ref D) (compEnvC scope cl C X.env)) R s₄:=by
 have loop:codeAny (model X.prog X.w) X.A (.compLoop (.ListComp elt [⟨tg,iter,ifs,0⟩] scope pos) 0 (.ref it) (.ref D) (compEnvC scope cl C X.env)) R s₄:=by
  refine va (fun k s'=>∃i ys,∃σ1:St,∃H',k=n+1-i∧i≤n∧σ1.length=bs.length∧Inv (zK X scope cl bs caps C s H fp Aa) [] (σ1++τ) H' s'∧tn i s'.heap∧(∀b∈fp,xG (zK X scope cl bs caps C s H fp Aa) [] H' b)∧Pv i ys H') ?_ (n+1) ⟨0,[],σ0,H,rfl,BY _,hσ0,I,t0,hfp,h0⟩
  rintro k s' ⟨i,ys,σ1,H',rfl,hi,hσ1,I',tn',hfp',hp⟩
  obtain⟨q2,q3⟩:=hl i ys H' hi hp
  by_cases hlt:i<n
  ·obtain⟨g,gy⟩:=hgo i ys H' hlt hp
   refine wpAny_mono (T.item (zK X scope cl bs caps C s H fp Aa) rfl rfl rfl hc i [] s' (σ1++τ) H' (notedBy (model X.prog X.w) X.A (compEnvC scope cl C X.env) fun e s'=>R (.error e) s') I' hfp' tn' g) (fun r s1 zz=>?_) fun _ _ z=>z
   obtain⟨u,er,hq⟩:=zz
   subst er
   refine wpAny_mono hq (fun _ s1' hq'=>?_) fun _ _ z=>z
   obtain⟨v,H1,I1,rv,yv,tn1,fn1⟩:=hq'
   have hv:=gy v H1 yv
   have hfp1:∀b∈fp,xG (zK X scope cl bs caps C s H fp Aa) [] H1 b:=fun b hb=>⟨fn1 b hb,(hfp' b hb).2⟩
   have hpin:∀b∈fp,∃o,s1'.heap.get? b=some o∧∀v,o.data≠.cell v:=T.obj (i+1) s1'.heap tn1
   have IP:Inv (zK X scope cl bs caps C s H fp Aa) (yH fp s1'.heap) (σ1++τ) H1 s1':=by
    have:=I1.pinned hfp1 hpin
    rw[List.nil_append]at this
    exact this
   refine wpAny_mono (hg (yH fp s1'.heap) s1' (σ1++τ) H1 v u _ IP rv (ht i v ys H1 σ1 hlt hv hσ1)) (fun _ s2 h2=>?_) fun _ _ z=>z.elim
   obtain⟨σ2',H2,I2,⟨σ2,e2,l2⟩,w2⟩:=h2
   subst e2
   refine wpAny_mono (ht' (yH fp s1'.heap) s2 (σ2++τ) H2 _ (fun _ _=>False) (fun _ _ z=>z) I2 w2) (fun b s3 h3=>?_) fun _ _ z=>z.elim
   obtain⟨H3,I3,w3⟩:=h3
   have pinned:∀{s4:Shared}{H4:Hp}{σ4:St},Inv (zK X scope cl bs caps C s H fp Aa) (yH fp s1'.heap) σ4 H4 s4→∀b∈fp,∀o,s1'.heap.get? b=some o→s4.heap.get? b=some o∧H4 b=none:=fun I4 b hb o e=>
    have z:=I4.pin (b,o) (BK _ (wz hb e))
    ⟨z.1,z.2.1⟩
   cases b with
   | false=>
    have w3:Pv (i+1) ys H3:=w3
    show ∃m,m<n+1-i∧_
    refine⟨n+1-(i+1),by omega,i+1,ys,σ2,H3,rfl,hlt,l2,I3.pins_of (fun p z=>nomatch z),T.keep _ _ _ tn1 fun b hb o e=>(pinned I3 b hb o e).1,fun b hb=>⟨?_,(hfp' b hb).2⟩,w3⟩
    obtain⟨o,e,_⟩:=hpin b hb
    exact(pinned I3 b hb o e).2
   | true=>
    show wpAny _ _ _ _ _ _
    refine wpAny_mono (he (yH fp s1'.heap) s3 (σ2++τ) H3 _ I3 w3) (fun y s4 h4=>?_) fun _ _ z=>z.elim
    obtain⟨y',H4,I4,ry,hD,hp4⟩:=h4
    refine wpAny_mono (vk (X:=zK X scope cl bs caps C s H fp Aa) (yH fp s1'.heap) s4 (σ2++τ) H4 (.ref D) [y'] (.ref D) [y] (fun _ H5=>H5=upd H4 D (.lst (ys++[y']))) I4 rfl (.cons ry .nil) ⟨D,ys,y',rfl,rfl,hD,by omega,rfl⟩) (fun _ s5 h5=>?_) fun _ _ z=>z.elim
    obtain⟨_,H5,I5,_,e5⟩:=h5
    subst e5
    refine⟨n+1-(i+1),by omega,i+1,ys++[y'],σ2,_,rfl,hlt,l2,I5.pins_of (fun p z=>nomatch z),T.keep _ _ _ tn1 fun b hb o e=>(pinned I5 b hb o e).1,fun b hb=>⟨?_,(hfp' b hb).2⟩,hp4⟩
    obtain⟨o,e,_⟩:=hpin b hb
    exact(pinned I5 b hb o e).2
  ·have e:i=n:=by omega
   subst e
   refine wpAny_mono (T.done (zK X scope cl bs caps C s H fp Aa) rfl rfl rfl hc i [] s' (σ1++τ) H' (fun _ _=>False) I' hfp' tn' (hst ys H' hp)) (fun r s1 zz=>?_) fun _ _ z=>z.elim
   obtain⟨er,I1⟩:=zz
   subst er
   exact hR _ H' ys s1 I1 hp
 exact codeAny_compStart_list loop (T.self X.A 0 s₄ _ _ t0 loop)
theorem l6{elt tg iter:Expr}{ifs:List Expr}{pos:Pos}{gt:TG}{tt:TT}{te:TE}{Q:V→Hp→Prop}{s2:Shared}{it:Addr}{tn:Nat→Heap→Prop}{J:It}{H':Hp}{RR:Value→Addr→Result→Shared→Prop}{E:cp}(hc:X.calm=true)(S:sK X scope cl bs caps js)
  (hg:∀C s H fp Aa,PG (zK X scope cl bs caps C s H fp Aa) tg gt) (ht':∀C s H fp Aa,PC (zK X scope cl bs caps C s H fp Aa) ifs tt)
  (he:∀C s H fp Aa,PE (zK X scope cl bs caps C s H fp Aa) elt te) (I2:Inv X Aa σ H' s2) (T:sr X.prog X.w X.K tg J fp it tn) (t0:tn 0 s2.heap) (hfp:∀b∈fp,xG X Aa H' b) (hr:lf gt tt te bs.length (sk σ js) Q J H')
  (hRR:∀D C H3 s',Inv X Aa σ H3 s'→(∃m,s'.heap.Ns C m)→H3 C=none→C≠X.env.locals→X.s₀.heap.objs.size≤C→(∀y c,X.env.cells.lookup y=some c→c≠C)→(∀p∈X.pn++Aa,p.1≠C)→Q (.ref D) H3→
   RR (.ref D) C (.ok .next) s'):
  wpAny (model X.prog X.w) X.A (newList []) (fun acc s₃=>wpAny (model X.prog X.w) X.A (newFunctionEnv scope X.env.globals cl [] X.env.qual none .none (some X.env)) (fun cenv s₄=>
   codeAny (model X.prog X.w) X.A (.compStart (.ListComp elt [⟨tg,iter,ifs,0⟩] scope pos) 0 (.ref it) acc { cenv with scope:=relabel scope X.env }) (RR acc cenv.locals) s₄) E s₃) E s2:=by
 obtain⟨n,hn,hD⟩:=hr
 obtain⟨Pv,Nx,h0,hl,hgo,hst,ht,hd⟩:=hD s2.heap.objs.size I2.fresh
 refine wpAny_newObj_type (wpAny_newFunctionEnv S.cell (by intro y hy;simp at hy) (fun h₁ hns₁ hsb₁=>?_) S.kind)
 dsimp only at hns₁ hsb₁ ⊢
 have I3:Inv X Aa σ (upd H' s2.heap.objs.size (.lst [])) { s2 with heap:=s2.heap.push { cls:=.type "list",data:=.seq ([]:List Value).toArray } }:=I2.lnew (its:=[]) (t':=s2.toks) .nil (by show 0≤sizeLine;omega)
 have hob:=T.obj 0 s2.heap t0
 have keep:∀b o,(s2.heap.push { cls:=.type "list",data:=.seq ([]:List Value).toArray }).get? b=some o→h₁.get? b=some o:=fun b o e=>
  hsb₁.extBut b o (Bl (Heap.lt_size e)) (Heap.get?_push_of_some _ e)
 have fp3:∀b∈fp,xG X Aa (upd H' s2.heap.objs.size (.lst [])) b:=fun b hb=>by
  obtain⟨o,e,_⟩:=hob b hb
  exact⟨(zt (Bl (Heap.lt_size e))).trans (hfp b hb).1,(hfp b hb).2⟩
 have IY:=j5 (t:=s2.toks+([]:List (Str×Value)).length) I3 S fp3 (fun b hb=>by
  obtain⟨o,e,_⟩:=hob b hb
  exact⟨o,Heap.get?_push_of_some _ e⟩) hns₁ keep
 refine mv (D:=s2.heap.objs.size) (n:=n) (Nx:=Nx) (Pv:=Pv) hc (hg _ _ _ _ _) (ht' _ _ _ _ _) (he _ _ _ _ _) (A' _) IY T (T.keep _ _ _ t0 fun b hb o e=>keep b o (Heap.get?_push_of_some _ e)) (fun b hb=>?_) hn h0 hl hgo hst ht (fun σ' H3 ys s' I' hp=>?_)
 ·obtain⟨f1,f2,f3,f4,f5,f6⟩:=fp3 b hb
  obtain⟨o,e,_⟩:=hob b hb
  refine⟨f1,Bl (Heap.lt_size (Heap.get?_push_of_some _ e)),fun z=>?_,.inl hb,fun y c h=>f5 y c (S.sub y c h),fun p hp=>?_⟩
  ·rcases Bk.mp (I3.stkSub b z) with q|q
   ·exact f2 q
   ·exact f3 q
  ·rcases Bx.mp hp with q|q
   ·exact f6 p q
   ·cases q
 ·obtain⟨m,hn,_⟩:=I'.loc
  refine hRR _ _ H3 s' (j6 I3 fp3 I') ⟨m,hn⟩ I'.free (Nat.ne_of_gt I3.lt) I3.sz (fun y c h z=>?_) (fun p hp z=>?_) (hd ys H3 hp)
  ·obtain⟨v,q⟩:=I3.cell y c h
   exact absurd q.lt (by rw[z];exact BM _)
  ·exact absurd (Heap.lt_size (I3.pin p hp).1) (by rw[z];exact BM _)
theorem gk{elt tg iter:Expr}{ifs:List Expr}{pos:Pos}{wi:TI}{gt:TG}{tt:TT}{te:TE}(hc:X.calm=true)(S:sK X scope cl bs caps js)(hl:PI X tg iter wi)(hg:∀C s H fp Aa,PG (zK X scope cl bs caps C s H fp Aa) tg gt)
  (ht':∀C s H fp Aa,PC (zK X scope cl bs caps C s H fp Aa) ifs tt) (he:∀C s H fp Aa,PE (zK X scope cl bs caps C s H fp Aa) elt te)
  (hs:∀y,foldedSetIterable iter X.env y=pure y:=by intro _;rfl):PE X (.ListComp elt [⟨tg,iter,ifs,0⟩] scope pos) (iZ wi gt tt te bs.length js):=by
 intro Aa s σ H Q I h
 rw[eval_ListComp]
 refine wpAny_comprehension_free (use:=none) rfl hs S.clos S.kind S.names (thn (hl Aa s σ H (lf gt tt te bs.length (sk σ js) Q) I h) fun v s1 h1=>thn h1 fun itv s2 h2=>?_)
 obtain⟨it,fp,tn,J,H',rfl,I2,T,t0,hfp,hr⟩:=h2
 refine l6 (RR:=fun acc C=>compPost (model X.prog X.w) X.A X.xe none (EP X Aa σ Q) acc C) hc S hg ht' he I2 T t0 hfp hr ?_
 intro D C H3 s' I' ⟨m,hn⟩ hC h1 h2 h3 h4 q
 exact⟨m,hn,fun h' hs'=>⟨.ref D,H3,I'.turned (it:=C) (fun b o hb e=>hs'.extBut b o hb e) hC h1 (.inr h2) h3 h4,rfl,q⟩⟩
end
end OD
namespace OD
variable{Z:Hp}
open PySem PySem.Spec PyProof.Rows L2
def oN(osc scope:Scope)(bs caps:List Str)(js:List Nat)(N:List Str):Bool:=
 scope.names.all (fun y=>y.2 != .cell&&(y.2 != .local||scope.names.lookup y.1==some .local)&&(y.2 != .free||(osc.names.lookup y.1==some .cell && !bs.contains y.1)))&&(scope.kind == .function)&&(osc.kind == .function)&&bs.all (fun x=>scope.names.lookup x==some .local) &&
 decide (bs++caps).Nodup&&(js.map (fun j=>N[j]?)==caps.map some)&&caps.all (fun y=>scope.names.lookup y==some .free&&osc.names.lookup y==some .cell)
def Vt{X:Cx}{osc scope:Scope}{bs:List Str}{caps:List Str}{js:List Nat}{L:Addr}(h:oN osc scope bs caps js X.N=true)(he:X.env.scope=osc)(hc:X.env.cells=cellsFrom (L+1) osc.names []):sK X scope (vW X.env.cells scope.names) bs caps js:=by
 unfold oN at h
 simp only[Bool.and_eq_true]at h
 obtain⟨⟨⟨⟨⟨⟨h1,h2⟩,h3⟩,h4⟩,h5⟩,h6⟩,h7⟩:=h
 rw[Bs]at h1 h4 h7
 have hfree:∀y,(y,NameKind.free)∈scope.names→osc.names.lookup y=some .cell∧bs.contains y=false:=fun y hy=>by
  have q:=h1 _ hy
  rw[Bb,Bb]at q
  have q:(osc.names.lookup y==some .cell && !bs.contains y)=true:=q.2
  rw[Bb]at q
  exact⟨eq_of_beq q.1,by cases z:bs.contains y with|false=>rfl|true=>rw[z]at q;cases q.2⟩
 have hcell:∀y,osc.names.lookup y=some .cell→∃c,X.env.cells.lookup y=some c:=fun y hy=>by rw[hc];exact rS hy
 have hfc:∀y,(y,NameKind.free)∈scope.names→∃c,X.env.cells.lookup y=some c:=fun y hy=>hcell y (hfree y hy).1
 have hk:X.env.scope.kind=.function:=by rw[he];exact eq_of_beq h3
 have hj:js.map (fun j=>X.N[j]?)=caps.map some:=eq_of_beq h6
 refine⟨Vv hfc,fun y c q=>(mem_clOf.mp (PySem.mem_of_lookup q)).2,fun y q=>?_,fun x hx=>?_,fun y hy e=>?_,eq_of_beq h2,fun y hy e=>?_,fun x hx=>eq_of_beq (h4 x hx),of_decide_eq_true h5,?_,fun k y q=>?_,fun y hy=>?_⟩
 ·have:(y,NameKind.free)∈scope.names:=by
   have mem:∃k,(y,k)∈(relabel scope X.env).names∧(k=.cell∨k=.free):=by
    rcases q with q|q
    ·exact⟨_,PySem.mem_of_lookup q,.inl rfl⟩
    ·exact⟨_,PySem.mem_of_lookup q,.inr rfl⟩
   obtain⟨k,hm,hk'⟩:=mem
   obtain⟨⟨n,k0⟩,hn,e⟩:=BB.mp hm
   have ncell:k0≠.cell:=fun z=>by
    have q:=h1 _ hn
    rw[Bb,Bb]at q
    exact absurd z (bne_iff_ne.mp q.1.1)
   dsimp only at e
   split at e
   ·rename_i hz
    rw[Bb,Bb]at hz
    obtain rfl:=eq_of_beq hz.1.1
    cases e
    exact hn
   ·cases e
    rcases hk' with z|z
    ·exact absurd z ncell
    ·rw[z]at hn;exact hn
  obtain⟨c,hc'⟩:=hfc y this
  exact rC (mem_clOf.mpr ⟨this,hc'⟩)
 ·cases q:(vW X.env.cells scope.names).lookup x with
  | none=>rfl
  | some c=>
   have z:=(hfree x (mem_clOf.mp (PySem.mem_of_lookup q)).1).2
   rw[List.contains_iff_mem.mpr hx]at z
   cases z
 ·have q:=h1 y hy
  rw[Bb,Bb]at q
  exact absurd e (bne_iff_ne.mp q.1.1)
 ·have q:=h1 y hy
  rw[Bb,Bb,e]at q
  exact eq_of_beq (show(scope.names.lookup y.1==some .local)=true from q.1.2)
 ·have:=congrArg List.length hj
  rwa [A',A']at this
 ·have e:(js.map fun j=>X.N[j]?)[k]? = (caps.map some)[k]?:=by rw[hj]
  rw[Bn,Bn,q]at e
  obtain⟨j,hj1,hj2⟩:=Bw.mp e
  exact⟨j,hj1,hj2⟩
 ·have q:=h7 y hy
  rw[Bb]at q
  have q2:X.env.scope.names.lookup y=some .cell:=by rw[he];exact eq_of_beq q.2
  exact⟨y9 hk (eq_of_beq q.1) q2,q2⟩
def kq{K:A_}{F:Hp}{W W2:Vw}{ρ:DS}{σ:St}{js:List Nat}{ds:List Dt}{vs:List V}(r:Rl K Z F W ρ σ)(s2:Same W.g W2.g)(i:AllIs K W2.g ds vs):Rl K (fun _=>none) W2.h W2 (ds.map Sl.some++vX ρ js) (vs.map some++sk σ js):=by
 have no:∀(j:Nat)(es:List Dt),(ds.map Sl.some++vX ρ js)[j]? = some (.own es)→False:=fun j es q=>by
  have q:=Bp q
  rcases Bx.mp q with q|q
  ·obtain⟨_,_,e⟩:=BB.mp q
   cases e
  ·unfold vX at q
   obtain⟨j,_,e⟩:=BB.mp q
   split at e<;>cases e
 have noO:∀(j:Nat)(φ:ObP),(ds.map Sl.some++vX ρ js)[j]? = some (.obj φ)→False:=fun j φ q=>by
  have q:=Bp q
  rcases Bx.mp q with q|q
  ·obtain⟨_,_,e⟩:=BB.mp q
   cases e
  ·unfold vX at q
   obtain⟨j,_,e⟩:=BB.mp q
   split at e<;>cases e
 have noA:∀(j:Nat)(a:Addr)(es:List Dt),(ds.map Sl.some++vX ρ js)[j]? = some (.arg a es)→False:=fun j a es q=>by
  have q:=Bp q
  rcases Bx.mp q with q|q
  ·obtain⟨_,_,e⟩:=BB.mp q
   cases e
  ·unfold vX at q
   obtain⟨j,_,e⟩:=BB.mp q
   split at e<;>cases e
 refine⟨by unfold vX sk;rw[List.length_append,List.length_append,List.length_map,List.length_map,List.length_map,List.length_map,i.length],fun j e q=>?_,fun j ds q=>(no j ds q).elim,fun j j' ds ds' _ q _=>(no j ds q).elim,Same.refl _,(fun _ _ q=>nomatch q),fun j a ds q=>(noA j a ds q).elim,fun j φ q=>(noO j φ q).elim⟩
 by_cases hj:j<ds.length
 ·rw[BH (by rw[A'];exact hj),Bn]at q
  obtain⟨d,hd,e1⟩:=Bw.mp q
  cases e1
  obtain⟨v,hv,iv⟩:=i.get hd
  exact⟨v,by rw[BH (by rw[A',←i.length];exact hj),Bn,hv];rfl,iv⟩
 ·have hj:ds.length≤j:=Nat.le_of_not_lt hj
  rw[BD (by rw[A'];exact hj),A']at q
  rw[BD (by rw[A',←i.length];exact hj),A',←i.length]
  unfold vX at q
  rw[Bn]at q
  obtain⟨k,hk,e2⟩:=Bw.mp q
  split at e2
  ·rename_i d' hd
   cases e2
   obtain⟨u,hu,iu⟩:=r.at_ k e hd
   refine⟨u,?_,Is.mono0 s2 iu⟩
   unfold sk
   rw[Bn,hk]
   show some ((σ[k]?).getD none)=_
   rw[hu]
   rfl
  ·cases e2
abbrev DTI:=DS→(Nat→(Nat→Dt→Prop)→Prop)→Prop
def LiI(K:A_)(Z:Hp)(wi:TI)(di:DTI):Prop:=∀{F:Hp}(ρ:DS)(σ:St)(W:Vw)(Q:Nat→(Nat→Dt→Prop)→Prop),Rl K Z F W ρ σ→di ρ Q→∀R:It→Hp→Prop,
 (∀(J:It)(n:Nat)(vals:Nat→Dt→Prop)(W1:Vw),Le W W1→n≤100000→(∀W2:Vw,Same W1.g W2.g→(∀i,i<n→J.go i W2.h∧∀v H3,J.yld i W2.h v H3→∃W3:Vw,Le W2 W3∧W3.h=H3∧∃e,vals i e∧Is K W3.g e v)∧J.stop n W2.h)→Q n vals→R J W1.h)→wi σ W.h R
def DI(X:Cx)(tg iter:Expr)(di:DTI):Prop:=∃wi,PI X tg iter wi∧LiI X.K (Zx X) wi di
def LiG(K:A_)(k:Nat)(gt:TG)(dg:Dt→List Dt→Prop):Prop:=∀(e:Dt)(v:V)(σ0 τ:St)(W:Vw)(as:List Dt),σ0.length=k→Is K W.g e v→dg e as→∀Q:St→Hp→Prop,
 (∀vs,AllIs K W.g as vs→vs.length=k→Q (vs.map some++τ) W.h)→gt v (σ0++τ) W.h Q
def iw:Dt→List Dt→Prop:=fun e as=>as=[e]
def sy{K:A_}:LiG K 1 (n6 0) iw:=by
 rintro e v σ0 τ W as hl i rfl Q q
 match σ0,hl with
 | [a],_=>exact q [v] (allIs_cons.mpr ⟨v,[],rfl,i,allIs_nil.mpr rfl⟩) rfl
def DC(X:Cx)(ifs:List Expr)(t:DTT):Prop:=∃tt,PC X ifs tt∧LiT X.K (Zx X) tt t
def tF:DTT:=fun _ Q=>Q true
def oM{X:Cx}:DC X [] tF:=⟨_,Td,fun _ _ W _ _ h _ k=>k true W (Le.refl W) h⟩
def V2(K:A_)(t:DTT):TT:=fun σ H R=>∃(F:Hp)(ρ:DS)(W:Vw)(Q:Bool→Prop),W.h=H∧Rl K (fun _=>none) F W ρ σ∧t ρ Q∧∀d W',Le W W'→Q d→R d W'.h
def DC.up{X:Cx}{ifs:List Expr}{t:DTT}(h:DC X ifs t)(hz:X.stack.length=X.outer.length:=by rfl):PC X ifs (V2 X.K t):=by
 obtain⟨te,p,l⟩:=h
 intro Aa s σ H R E hE I q
 obtain⟨F,ρ,W,Q,rfl,r,h,k⟩:=q
 have r':Rl X.K (Zx X) F W ρ σ:=by unfold Zx;rw[if_pos (Or.inl hz)];exact r
 exact p Aa s σ W.h R E hE I (l ρ σ W Q r' h R k)
def dH{K:A_}{t:DTT}:LiT K (fun _=>none) (V2 K t) t:=fun ρ σ H Q r h R k=>⟨_,ρ,H,Q,rfl,r,h,k⟩
def u8(js:List Nat)(di:DTI)(dg:Dt→List Dt→Prop)(tt:DTT)(te:DTE):DTE:=fun ρ Q=>di ρ fun n vals=>∃Pv:Nat→List Dt→Prop,Pv 0 []∧
 (∀(i:Nat) e es,i<n→vals i e→Pv i es→∃as,dg e as∧tt (as.map Sl.some++vX ρ js) fun b=>if b=true then te (as.map Sl.some++vX ρ js) fun y=>Pv (i+1) (es++[y]) else Pv (i+1) es)∧∀es,Pv n es→Q (.lst es)
def dI{K:A_}{wi:TI}{gt:TG}{tt:TT}{te:TE}{di:DTI}{dg:Dt→List Dt→Prop}{dt:DTT}{u:DTE}{k:Nat}{js:List Nat}(h1:LiI K Z wi di)(hg:LiG K k gt dg)(ht':LiT K (fun _=>none) tt dt)(h2:LiE K (fun _=>none) te u):LiF K Z (iZ wi gt tt te k js) (u8 js di dg dt u):=by
 intro F ρ σ H Q r h R kk
 refine h1 ρ σ H _ r h _ fun J n vals W1 s1 hn hJ zz=>?_
 obtain⟨Pv,h0,ht,hd⟩:=zz
 have r1:=r.mono s1
 refine⟨n,BV hn (by decide),fun D hD=>?_⟩
 have gD:W1.g D=none:=W1.sub.free hD
 have stp:∀{W2 W3:Vw}{ys:List V}{es:List Dt},Same W1.g W2.g∧Same W1.h (fun b=>if b=D then none else W2.h b)∧(∀b,W1.h b≠none→W1.g b=none→W2.g b=none)∧W2.h D=some (.lst ys)∧W2.g D=none∧AllIs K W2.g es ys→Le W2 W3→
   Same W1.g W3.g∧Same W1.h (fun b=>if b=D then none else W3.h b)∧(∀b,W1.h b≠none→W1.g b=none→W3.g b=none)∧W3.h D=some (.lst ys)∧W3.g D=none∧AllIs K W3.g es ys:=by
  rintro W2 W3 ys es ⟨s2,sh,sn,q1,q2,q3⟩ s3
  refine⟨s2.trans s3.g,fun b o q=>?_,fun b z1 z2=>?_,s3.h _ _ q1,s3.n D (by rw[q1];intro z;cases z) q2,q3.mono s3⟩
  ·have q':(if b=D then none else W2.h b)=some o:=sh b o q
   have hb:b≠D:=fun e=>by rw[e,hD]at q;cases q
   rw[if_neg hb]at q'
   show(if b=D then none else W3.h b)=some o
   rw[if_neg hb]
   exact s3.h _ _ q'
  ·have hb:b≠D:=fun e=>z1 (e ▸ hD)
   have z3:=sn b z1 z2
   refine s3.n b ?_ z3
   cases q:W1.h b with
   | none=>exact absurd q z1
   | some o=>
    have q':(if b=D then none else W2.h b)=some o:=sh b o q
    rw[if_neg hb]at q'
    rw[q']
    intro z;cases z
 refine⟨fun i ys H2=>∃(W2:Vw)(es:List Dt),W2.h=H2∧(Same W1.g W2.g∧Same W1.h (fun b=>if b=D then none else W2.h b)∧(∀b,W1.h b≠none→W1.g b=none→W2.g b=none)∧W2.h D=some (.lst ys)∧W2.g D=none∧AllIs K W2.g es ys)∧ys.length≤i∧Pv i es,fun i v ys H2=>∃(W2:Vw)(es:List Dt)(e:Dt),W2.h=H2∧(Same W1.g W2.g∧Same W1.h (fun b=>if b=D then none else W2.h b)∧(∀b,W1.h b≠none→W1.g b=none→W2.g b=none)∧W2.h D=some (.lst ys)∧W2.g D=none∧AllIs K W2.g es ys)∧ys.length≤i∧Pv i es∧vals i e∧Is K W2.g e v,?_,?_,?_,?_,?_,?_⟩
 ·refine⟨W1.mine D (.lst []) gD,[],rfl,⟨Same.refl _,fun b o q=>?_,fun b _ q=>q,zr,gD,allIs_nil.mpr rfl⟩,Bg _,h0⟩
  have hb:b≠D:=fun e=>by rw[e,hD]at q;cases q
  show(if b=D then none else upd W1.h D (.lst []) b)=some o
  rw[if_neg hb,zt hb]
  exact q
 ·rintro i ys _ _ ⟨W2,es,rfl,⟨s2,_,_,q1,q2,_⟩,q4,_⟩
  exact⟨q1,q4⟩
 ·rintro i ys _ hi ⟨W2,es,rfl,hW2,q4,q5⟩
  obtain⟨g1,g2⟩:=(hJ W2 hW2.1).1 i hi
  refine⟨g1,fun v H3 y=>?_⟩
  obtain⟨W3,s3,e3,e,he,ie⟩:=g2 v H3 y
  exact⟨W3,es,e,e3,stp hW2 s3,q4,q5,he,ie⟩
 ·rintro ys _ ⟨W2,es,rfl,⟨s2,_⟩,_⟩
  exact(hJ W2 s2).2
 ·rintro i v ys _ σ0 hi ⟨W2,es,e,rfl,hW2,q4,q5,he,ie⟩ hσ0
  obtain⟨as,da,w⟩:=ht i e es hi he q5
  refine hg e v σ0 _ W2 as hσ0 ie da _ fun vs ivs lvs=>⟨⟨vs.map some,rfl,by rw[A'];exact lvs⟩,?_⟩
  refine ht' (F:=W2.h) (as.map Sl.some++vX ρ js) (vs.map some++sk σ js) W2 _ (kq r1 hW2.1 ivs) w _ fun b W3 s3 w3=>?_
  have hW3:=stp hW2 s3
  cases b with
  | false=>exact⟨W3,es,rfl,hW3,Nat.le_succ_of_le q4,w3⟩
  | true=>
   show te _ _ _
   refine h2 (F:=W3.h) (as.map Sl.some++vX ρ js) (vs.map some++sk σ js) W3 _ (kq r1 hW3.1 (ivs.mono s3)) w3 _ fun y w W4 s4 i4 q6=>?_
   obtain⟨a1,a2,a3,a4,a5,a6⟩:=stp hW3 s4
   refine⟨a4,W4.mine D (.lst (ys++[w])) a5,es++[y],rfl,⟨a1,fun b o q=>?_,a3,zr,a5,a6.append (allIs_cons.mpr ⟨w,[],rfl,i4,allIs_nil.mpr rfl⟩)⟩,by rw[Bo];exact Nat.succ_le_succ q4,q6⟩
   have q':(if b=D then none else W4.h b)=some o:=a2 b o q
   have hb:b≠D:=fun e=>by rw[e,hD]at q;cases q
   rw[if_neg hb]at q'
   show(if b=D then none else upd W4.h D (.lst (ys++[w])) b)=some o
   rw[if_neg hb,zt hb]
   exact q'
 ·rintro ys _ ⟨W2,es,rfl,⟨s2,sh,sn,q1,q2,q3⟩,_,q5⟩
  refine kk es D ys W2 (s1.trans ⟨s2,fun b o q=>?_,sn⟩) (s1.h.free hD) q1 q2 q3 (hd es q5)
  have q':(if b=D then none else W2.h b)=some o:=sh b o q
  have hb:b≠D:=fun e=>by rw[e,hD]at q;cases q
  rwa [if_neg hb]at q'
def cO(ta:DTE):DTI:=fun ρ Q=>ta ρ fun d=>∃ds,yK d=some ds∧ds.length≤100000∧Q ds.length fun i e=>ds[i]? = some e
def QO(ta:DTE):DTI:=fun ρ Q=>ta ρ fun d=>∃m:Int,d=.int m∧-(2^62)≤m∧m≤100000∧Q m.toNat fun i e=>e=.int i
section
variable{X:Cx}{osc scope:Scope}{bs caps:List Str}{js:List Nat}{N0:List Str}{L:Addr}{tg iter elt a:Expr}{ifs:List Expr}{ta te:DTE}{di:DTI}{tt:DTT}{dg:Dt→List Dt→Prop}{gt:TG}{p0 pos pos1:Pos}
def kJ(h:DE X iter ta):DI X tg iter (cO ta):=by
 obtain⟨te,p,l⟩:=h
 refine⟨_,su p,fun ρ σ W Q r h R k=>l ρ σ W _ r h _ fun d v W1 s1 i1 zz=>?_⟩
 obtain⟨ds,el,hl,q⟩:=zz
 obtain⟨a,xs,rfl,hq,ha⟩:=vS i1 el
 refine⟨a,rfl,⟨xs,hq W1 (Same.refl _)⟩,k _ _ _ W1 s1 hl (fun W2 s2=>⟨fun i hi=>?_,?_⟩) q⟩
 ·rw[ha.length]at hi
  have hv:=Bh hi
  refine⟨⟨xs,_,hq W2 s2,hv⟩,fun v' H3 ⟨e1,e2⟩=>⟨W2,Le.refl _,e1.symm,?_⟩⟩
  obtain⟨e,he,ie⟩:=ha.get' (e2 xs (hq W2 s2))
  exact⟨e,he,Is.mono0 s2 ie⟩
 ·exact⟨xs,hq W2 s2,by rw[ha.length];exact Bg _⟩
def cC(hg:Gl X "range")(hm:X.mg "range"=none)(h:DE X a ta)(hst:starEach [a] X.env=[(false,eval a X.env)]:=by rfl)(hst2:starEach [a] X.env=(false,eval a X.env)::starEach [] X.env:=by rfl):DI X tg (.Call (.Name "range" p0) [a] [] pos1) (QO ta):=by
 obtain⟨te,p,l⟩:=h
 refine⟨_,jA hg hm p hst hst2,fun ρ σ W Q r h R k=>l ρ σ W _ r h _ fun d v W1 s1 i1 zz=>?_⟩
 obtain⟨m,ed,m1,m2,q⟩:=zz
 subst ed
 refine⟨m,is_int.mp i1,m1,by omega,k _ _ (fun i e=>e=.int i) W1 s1 (by omega) (fun W2 s2=>⟨fun i hi=>⟨hi,fun v H3 ⟨e1,e2⟩=>⟨W2,Le.refl _,e1.symm,.int i,rfl,?_⟩⟩,Bg _⟩) q⟩
 rw[Int.zero_add]at e2
 exact is_int.mpr e2
theorem ul(hc:X.calm=true)(S:oN osc scope bs caps js N0=true)(hN0:X.N=N0)(he':X.env.scope=osc)(hcs:X.env.cells=cellsFrom (L+1) osc.names [])(hl:DI X tg iter di)
  (hg:∀C s H fp Aa,PG (zK X scope (vW X.env.cells scope.names) bs caps C s H fp Aa) tg gt) (lg:LiG X.K bs.length gt dg)
  (ht:∀C s H fp Aa,DC (zK X scope (vW X.env.cells scope.names) bs caps C s H fp Aa) ifs tt)
  (he:∀C s H fp Aa,DE (zK X scope (vW X.env.cells scope.names) bs caps C s H fp Aa) elt te) (hs:∀y,foldedSetIterable iter X.env y=pure y:=by intro _;rfl):
  DF X (.ListComp elt [⟨tg,iter,ifs,0⟩] scope pos) (u8 js di dg tt te):=by
 obtain⟨wi,p,l⟩:=hl
 exact⟨_,gk hc (Vt (hN0 ▸ S) he' hcs) p hg (fun C s H fp Aa=>(ht C s H fp Aa).up) (fun C s H fp Aa=>(he C s H fp Aa).up) hs,dI l lg dH WO⟩
end
end OD
namespace OD
variable{Z:Hp}
open PySem PySem.Spec PyProof.Rows L2
section
variable{K:A_}{F:Hp}{W W' W0:Vw}
def NewL.mono{d:Dt}{v:V}(h:NewL K F W d v)(s:Le W W'):NewL K F W' d v:=by
 obtain⟨es,p,xs,h1,h2,h3,h4,h5,h6⟩:=h
 exact⟨es,p,xs,h1,h2,h3,s.h _ _ h4,s.n p (by rw[h4];intro z;cases z) h5,h6.mono s⟩
def Prt.mono{b:Bool}{d:Dt}{v:V}(h:Prt K F W b d v)(s:Le W W'):Prt K F W' b d v:=by
 cases b with
 | false=>exact Is.mono h s
 | true=>
  rcases h with h|⟨h1,h2⟩
  ·exact .inl (h.mono s)
  ·exact .inr ⟨h1,Is.mono h2 s⟩
theorem Prt.frz{b:Bool}{d:Dt}{u:V}(le:Le W0 W)(h:Prt K W0.h W b d u):∃W1:Vw,W1.h=W.h∧Same W.g W1.g∧Le W0 W1∧Is K W1.g d u∧
  ∀b2 d2 u2,Prt K W0.h W b2 d2 u2→(∀es fs,b=true→b2=true→d=.lst es→d2=.lst fs→u≠u2)→Prt K W0.h W1 b2 d2 u2:=by
 cases b with
 | false=>exact⟨W,rfl,Same.refl _,le,h,fun _ _ _ k _=>k⟩
 | true=>
  rcases h with ⟨es,p,xs,rfl,rfl,h3,h4,h5,h6⟩|⟨_,h2⟩
  ·refine⟨W.frz p _ h4,rfl,zX h5 _,rE le h3 h4 h5,is_lst.mpr ⟨p,xs,rfl,zr,AllIs.mono0 (zX h5 _) h6⟩,fun b2 d2 u2 k ne=>?_⟩
   cases b2 with
   | false=>exact Is.mono0 (zX h5 _) k
   | true=>
    rcases k with ⟨fs,q,ys,rfl,rfl,k3,k4,k5,k6⟩|⟨k1,k2⟩
    ·have hq:q≠p:=fun z=>ne es fs rfl rfl rfl rfl (by rw[z])
     exact .inl ⟨fs,q,ys,rfl,rfl,k3,k4,(zt hq).trans k5,AllIs.mono0 (zX h5 _) k6⟩
    ·exact .inr ⟨k1,Is.mono0 (zX h5 _) k2⟩
  ·exact⟨W,rfl,Same.refl _,le,h2,fun _ _ _ k _=>k⟩
def Tld.frz{fr:Fr}{d:Dt}{v:V}(le:Le W0 W)(h:Tld K W0.h W fr d v):∃W1:Vw,W1.h=W.h∧Le W0 W1∧Is K W1.g d v:=by
 match fr,h with
 | .d,h=>exact⟨W,rfl,le,h⟩
 | .l,⟨es,p,xs,e1,e2,h3,h4,h5,h6⟩=>
  subst e1;subst e2
  exact⟨W.frz p _ h4,rfl,rE le h3 h4 h5,is_lst.mpr ⟨p,xs,rfl,zr,AllIs.mono0 (zX h5 _) h6⟩⟩
 | .t a b,⟨d1,d2,q,u1,u2,e1,e2,hq,p1,p2,ne⟩=>
  subst e1;subst e2
  obtain⟨W1,e1,s1,le1,i1,k1⟩:=p1.frz le
  obtain⟨W2,e2,s2,le2,i2,_⟩:=(k1 b d2 u2 p2 ne).frz le1
  exact⟨W2,e2.trans e1,le2,is_tup.mpr ⟨q,_,rfl,s2 _ _ (s1 _ _ hq),allIs_cons.mpr ⟨u1,_,rfl,Is.mono0 s2 i1,allIs_cons.mpr ⟨u2,_,rfl,i2,allIs_nil.mpr rfl⟩⟩⟩⟩
end
def kS(K:A_)(fr:Fr)(S:DSp):Sp:=fun vs H Q _=>∃(W:Vw)(ds:List Dt)(Qd:Dt→Prop),W.h=H∧AllIs K W.g ds vs∧S ds Qd∧∀d v W',Le W W'→Tld K W.h W' fr d v→Qd d→Q v W'.h
def rY(K:A_)(fr:Fr)(S:z0):Sp:=fun vs H Q E=>∃(W:Vw)(ds:List Dt)(Qd:Dt→Prop)(Ed:Addr→Prop),W.h=H∧AllIs K W.g ds vs∧S ds Qd Ed∧
 (∀d v W',Le W W'→Tld K W.h W' fr d v→Qd d→Q v W'.h)∧∀C H',Same W.h H'→Ed C→E (.ref C) none H'
structure TOk(P:Program)(w:World)(K:A_)(mg:be)(base:Heap)(n:Nat)(x:Str)(fr:Fr)(S:DSp):Prop where
 ex:∃f fd ps,mg x=some (.ref f)∧PySem.W.keepIn K (.ref f)=true∧Binds K fd ps []∧FnOk P w K mg base CX0 n f fd ps (kS K fr S)
structure TOkX(P:Program)(w:World)(K:A_)(mg:be)(base:Heap)(n:Nat)(x:Str)(fr:Fr)(S:z0):Prop where
 ex:∃f fd ps,mg x=some (.ref f)∧PySem.W.keepIn K (.ref f)=true∧Binds K fd ps []∧FnOk P w K mg base (CX1 P w) n f fd ps (rY K fr S)
section
variable{P:Program}{w:World}{K:A_}{mg:be}{base:Heap}{fr:Fr}
def TOkX.dok{x:Str}{n:Nat}{S:z0}(h:TOkX P w K mg base n x fr S):DOkX P w K mg base n x S:=
 let⟨f,fd,ps,h1,h2,h3,h4⟩:=h.ex; ⟨f,fd,ps,h1,h2,h3,h4.imp fun vs H Q E ⟨W,ds,Qd,Ed,a,b,c,k,ke⟩=>⟨W,ds,Qd,Ed,a,b,c,fun d v W' le t q=>by
  obtain⟨W1,e1,le1,i1⟩:=t.frz le
  rw[←e1]
  exact k d v W1 le1 i1 q,ke⟩⟩
theorem okT{x qual:Str}{st:Stmt}{f:Addr}{fd:FuncData}{N ps:List Str}{k:Nat}{S:DSp}(F:Fun K x qual st f fd)(sc:zh N ps (defScope st))(len:∀ds Q,S ds Q→ds.length=ps.length)
  (hbody:∀(cdv:Value)(A:Around)(outer:List Env)(s:Shared)(H:Hp)(E:XK),Room k (A.deeper (envOfC qual (defScope st) s.heap.objs.size f cdv))→∀(ds:List Dt)(Q:Dt→Prop),S ds Q→
   ∃t,DSs (yg CX0 P w K mg base N qual (defScope st) f cdv A outer s H E).nox fr (defBody st) t∧t { nx:=fun _=>False,rt:=Q } (z_ N.length ds)):FnOk P w K mg base CX0 (k+1) f fd ps (kS K fr S):=by
 refine F.ok sc (fun vs H Q E h=>?_) (fun cdv A outer s H vs Q E hr h=>?_)
 ·obtain⟨W,ds,Qd,_,ia,hS,_⟩:=h
  rw[←ia.length]
  exact len ds Qd hS
 obtain⟨W,ds,Qd,rfl,ia,hS,kk⟩:=h
 obtain⟨t,⟨ts,p,l⟩,ht⟩:=hbody cdv A outer s W.h E hr ds Qd hS
 exact⟨ts,p,l W W.g (z_ N.length ds) (start N vs) W { nx:=fun _=>False,rt:=Qd } _ (y0 ia (wJ (BN _))) ⟨fun ρ σ W' a q=>q.elim,kk,fun _ _ _ _ q=>q.elim,fun _ _ _ _ q=>q.elim⟩ ht⟩
theorem PN{x qual:Str}{st:Stmt}{f:Addr}{fd:FuncData}{N ps:List Str}{k:Nat}{S:z0}(F:Fun K x qual st f fd)(sc:zh N ps (defScope st))(len:∀ds Q R,S ds Q R→ds.length=ps.length)
  (hbody:∀(cdv:Value)(A:Around)(outer:List Env)(s:Shared)(H:Hp)(E:XK),Room k (A.deeper (envOfC qual (defScope st) s.heap.objs.size f cdv))→∀(ds:List Dt)(Q:Dt→Prop)(R:Addr→Prop),S ds Q R→
   (∀C,R C→Rz (yg (CX1 P w) P w K mg base N qual (defScope st) f cdv A outer s H E) C)→
   ∃t,DSs (yg (CX1 P w) P w K mg base N qual (defScope st) f cdv A outer s H E) fr (defBody st) t∧t { nx:=fun _=>False,rt:=Q } (z_ N.length ds)):FnOk P w K mg base (CX1 P w) (k+1) f fd ps (rY K fr S):=by
 refine Fun.okX F sc (fun vs H Q E h=>?_) (fun cdv A outer s H vs Q E hr h=>?_)
 ·obtain⟨W,ds,Qd,Ed,_,ia,hS,_⟩:=h
  rw[←ia.length]
  exact len ds Qd Ed hS
 obtain⟨W,ds,Qd,Ed,rfl,ia,hS,kk,ke⟩:=h
 obtain⟨t,⟨ts,p,l⟩,ht⟩:=hbody cdv A outer s W.h E hr ds Qd Ed hS fun C hC=>nr fun H' z=>ke C H' z hC
 exact⟨ts,p,l W W.g (z_ N.length ds) (start N vs) W { nx:=fun _=>False,rt:=Qd } _ (y0 ia (wJ (BN _))) ⟨fun ρ σ W' a q=>q.elim,kk,fun _ _ _ _ q=>q.elim,fun _ _ _ _ q=>q.elim⟩ ht⟩
def TOk.mk'{x qual:Str}{st:Stmt}{f:Addr}{fd:FuncData}{ps:List Str}{n:Nat}{S:DSp}(F:Fun K x qual st f fd)(hm:mg x=some (.ref f))(hb:Binds K fd ps [])(h:FnOk P w K mg base CX0 n f fd ps (kS K fr S)):TOk P w K mg base n x fr S:=
 ⟨f,fd,ps,hm,F.kp,hb,h⟩
def TOkX.mk'{x qual:Str}{st:Stmt}{f:Addr}{fd:FuncData}{ps:List Str}{n:Nat}{S:z0}(F:Fun K x qual st f fd)(hm:mg x=some (.ref f))(hb:Binds K fd ps [])(h:FnOk P w K mg base (CX1 P w) n f fd ps (rY K fr S)):TOkX P w K mg base n x fr S:=
 ⟨f,fd,ps,hm,F.kp,hb,h⟩
end
def LiR(K:A_)(Z:Hp)(fr:Fr)(te:TE)(t:DTE):Prop:=
 ∀{F:Hp}(ρ:DS)(σ:St)(H:Vw)(Q:Dt→Prop),Rl K Z F H ρ σ→t ρ Q→∀R:VK,(∀d v H',Le H H'→Tld K H.h H' fr d v→Q d→R v H'.h)→te σ H.h R
def DR(X:Cx)(fr:Fr)(e:Expr)(t:DTE):Prop:=∃te,PE X e te∧LiR X.K (Zx X) fr te t
def LiP(K:A_)(Z:Hp)(b:Bool)(te:TE)(t:DTE):Prop:=
 ∀{F:Hp}(ρ:DS)(σ:St)(H:Vw)(Q:Dt→Prop),Rl K Z F H ρ σ→t ρ Q→∀R:VK,(∀d v H',Le H H'→Prt K F H' b d v→Q d→R v H'.h)→te σ H.h R
def DP(X:Cx)(b:Bool)(e:Expr)(t:DTE):Prop:=∃te,PE X e te∧LiP X.K (Zx X) b te t
def Uy{K:A_}{F G:Hp}{W:Vw}{fr:Fr}{d:Dt}{v:V}(z:∀p,F p=none→G p=none)(h:Tld K F W fr d v):Tld K G W fr d v:=by
 have pp:∀{b:Bool}{d:Dt}{v:V},Prt K F W b d v→Prt K G W b d v:=fun{b d v} h=>by
  cases b with
  | false=>exact h
  | true=>exact h.imp (fun h=>h.le z) id
 match fr,h with
 | .d,h=>exact h
 | .l,h=>exact NewL.le h z
 | .t a b,⟨d1,d2,q,u1,u2,e1,e2,hq,p1,p2,ne⟩=>exact⟨d1,d2,q,u1,u2,e1,e2,hq,pp p1,pp p2,ne⟩
section
variable{X:Cx}{fr:Fr}{a b:Bool}{e e1 e2:Expr}{es:List Expr}{t t1 t2:DTE}{ta:DTA}{n:Nat}{x y:Str}{S:DSp}{p pos p0 p1 p2:Pos}{i j:Nat}
def Vf(G:TOk X.prog X.w X.K X.mg X.base n x fr S)(hr:Room n X.A)(hg:Gl X x)(ha:DA X (e::es) ta)(hdb:ug x:=by decide)
  (he:J' X.env e es:=by rfl) (hpl:K' X.env pos es:=by rfl):DR X fr (.Call (.Name x p) (e::es) [] pos) (cR S ta):=by
 obtain⟨f,fd,ps,hm,hk,hb,F⟩:=G.ex
 obtain⟨te,p1,l1⟩:=ha
 refine⟨_,vj F hr hg hm hk hb .nil qQ p1 hdb he hpl,fun ρ σ H Q r h R k=>l1 ρ σ H _ r h _ fun ds vs H1 s1 i1 q1=>?_⟩
 rw[Bv]
 exact⟨H1,ds,Q,rfl,i1,q1,fun d v H2 s2 t2 q2=>k d v H2 (s1.trans s2) (Uy (fun _ z=>s1.h.free z) t2) q2⟩
def MO(t:DTE):DTE:=fun ρ Q=>t ρ fun d=>∃d1 es,d=.tup [d1,.lst es]∧Q (.lst es)
def QD{jj}(h:DR X (.t a true) e t)(hs:sI (.Constant (.int 1) jj p0)):DF X (.Subscript e (.Constant (.int 1) jj p0) pos) (MO t):=by
 obtain⟨te,p1,l1⟩:=h
 refine⟨_,gh dR p1 gi hs,fun ρ σ H Q r h R k=>l1 ρ σ H _ r h _ fun d v H1 s1 ⟨d1,d2,q,u1,u2,e1,e2,hq,pt1,pt2,ne⟩ ⟨d1',es,ed,qq⟩=>?_⟩
 subst e2
 rw[ed]at e1
 cases e1
 rcases pt2 with ⟨fs,p,xs,e1,e2,h3,h4,h5,h6⟩|⟨z,_⟩
 ·cases e1;subst e2
  exact .inr (.inl ⟨q,_,1,_,rfl,rfl,.of (H1.sub _ _ hq),rfl,k es p xs H1 s1 h3 h4 h5 h6 qq⟩)
 ·cases z
def MJ(h:DE X e t):DP X false e t:=let⟨te,p,l⟩:=h; ⟨te,p,fun ρ σ H Q r h R k=>l ρ σ H Q r h R k⟩
def MI(h:DF X e t):DP X true e t:=let⟨te,p,l⟩:=h; ⟨te,p,fun ρ σ H Q r h R k=>l ρ σ H Q r h R fun es q xs H' s h0 h1 h2 i z=>k (.lst es) (.ref q) H' s (.inl ⟨es,q,xs,rfl,rfl,r.fr.free h0,h1,h2,i⟩) z⟩
def QQ(i:Nat):DTE:=fun ρ Q=>∃ds,ρ[i]? = some (.own ds)∧Q (.lst ds)
def cN(t1 t2:DTE):DTS:=fun D ρ=>t1 ρ fun d1=>t2 ρ fun d2=>D.rt (.tup [d1,d2])
def W9{x1}(h1:DP X a e1 t1)(h2:DP X b e2 t2)(hne:a=false∨b=false:=by first|exact .inl rfl|exact .inr rfl)
  (hst:starEach [e1,e2] X.env=(false,eval e1 X.env)::starEach [e2] X.env:=by rfl) (hst2:starEach [e2] X.env=(false,eval e2 X.env)::starEach [] X.env:=by rfl):
  DSt X (.t a b) (.Return (some (.Tuple [e1,e2] x1 p0)) pos) (cN t1 t2):=by
 obtain⟨te1,q1,l1⟩:=h1
 obtain⟨te2,q2,l2⟩:=h2
 refine⟨_,uJ (pZ (zB q1 (zB q2 zS hst2) hst)),fun W0 G ρ σ W D D' at_ s h=>?_⟩
 refine l1 ρ σ W _ at_.rl h _ fun d1 u1 W1 s1 pt1 h=>?_
 refine l2 ρ σ W1 _ (at_.rl.mono s1) h _ fun d2 u2 W2 s2 pt2 q=>?_
 refine⟨by show 2≤_;decide,fun p hp=>?_⟩
 have s3:=xX hp (.tup [u1,u2])
 refine s.tl (.tup [d1,d2]) (.ref p) (W2.new p (.tup [u1,u2])) ((at_.le.trans s1).trans (s2.trans s3)) ⟨d1,d2,p,u1,u2,rfl,rfl,zr,(pt1.mono s2).mono s3,pt2.mono s3,fun _ _ z1 z2=>?_⟩ q
 rcases hne with z|z
 ·rw[z1]at z;cases z
 ·rw[z2]at z;cases z
def cA{x1}(i:Nat)(h2:DF X e2 t2)(hN:X.N[i]? = some x:=by rfl)(hv:Vis X.env.scope x:=by walk_at "v")(hd:ug x:=by decide)
  (hcd:we x:=by decide)
  (hst:starEach [.Name x p1,e2] X.env=(false,eval (.Name x p1) X.env)::starEach [e2] X.env:=by rfl) (hst2:starEach [e2] X.env=(false,eval e2 X.env)::starEach [] X.env:=by rfl):
  DSt X (.t true true) (.Return (some (.Tuple [.Name x p1,e2] x1 p0)) pos) (cN (QQ i) t2):=by
 obtain⟨te2,q2,l2⟩:=h2
 refine⟨_,uJ (pZ (zB (yj hN hv hd hcd) (zB q2 zS hst2) hst)),fun W0 G ρ σ W D D' at_ s h=>?_⟩
 obtain⟨ds,e,h⟩:=h
 obtain⟨c,xs,e1,k2,k3,k4,k5⟩:=at_.rl.ow i ds e
 refine⟨.ref c,e1,l2 ρ σ W _ at_.rl h _ fun es q ys W2 s2 h0 h1 h2 i2 qq=>?_⟩
 refine⟨by show 2≤_;decide,fun p hp=>?_⟩
 have s3:=xX hp (.tup [.ref c,.ref q])
 have n1:NewL X.K W0.h W (.lst ds) (.ref c):=⟨ds,c,xs,rfl,rfl,k4,k2,k3,k5⟩
 have n2:NewL X.K W0.h W2 (.lst es) (.ref q):=⟨es,q,ys,rfl,rfl,at_.le.h.free h0,h1,h2,i2⟩
 refine s.tl _ (.ref p) (W2.new p (.tup [.ref c,.ref q])) (at_.le.trans (s2.trans s3)) ⟨_,_,p,_,_,rfl,rfl,zr,.inl ((n1.mono s2).mono s3),.inl (n2.mono s3),fun _ _ _ _ _ _ z=>?_⟩ qq
 cases z
 rw[h0]at k2
 cases k2
def cz{x1}(i j:Nat)(hij:i≠j:=by decide)(hN:X.N[i]? = some x:=by rfl)(hN2:X.N[j]? = some y:=by rfl)(hv:Vis X.env.scope x:=by walk_at "v")(hv2:Vis X.env.scope y:=by walk_at "v")(hd:ug x:=by decide)
  (hcd:we x:=by decide) (hd2:ug y:=by decide) (hcd2:we y:=by decide)
  (hst:starEach [.Name x p1,.Name y p2] X.env=(false,eval (.Name x p1) X.env)::starEach [.Name y p2] X.env:=by rfl) (hst2:starEach [.Name y p2] X.env=(false,eval (.Name y p2) X.env)::starEach [] X.env:=by rfl):
  DSt X (.t true true) (.Return (some (.Tuple [.Name x p1,.Name y p2] x1 p0)) pos) (cN (QQ i) (QQ j)):=by
 refine⟨_,uJ (pZ (zB (yj hN hv hd hcd) (zB (yj hN2 hv2 hd2 hcd2) zS hst2) hst)),fun W0 G ρ σ W D D' at_ s h=>?_⟩
 obtain⟨ds,e,es,e',h⟩:=h
 obtain⟨c,xs,e1,k2,k3,k4,k5⟩:=at_.rl.ow i ds e
 obtain⟨c',ys,e1',k2',k3',k4',k5'⟩:=at_.rl.ow j es e'
 refine⟨.ref c,e1,.ref c',e1',by show 2≤_;decide,fun p hp=>?_⟩
 have s3:=xX hp (.tup [.ref c,.ref c'])
 have n1:NewL X.K W0.h W (.lst ds) (.ref c):=⟨ds,c,xs,rfl,rfl,k4,k2,k3,k5⟩
 have n2:NewL X.K W0.h W (.lst es) (.ref c'):=⟨es,c',ys,rfl,rfl,k4',k2',k3',k5'⟩
 refine s.tl _ (.ref p) (W.new p (.tup [.ref c,.ref c'])) (at_.le.trans s3) ⟨_,_,p,_,_,rfl,rfl,zr,.inl (n1.mono s3),.inl (n2.mono s3),fun _ _ _ _ _ _ z=>?_⟩ h
 exact at_.rl.ne i j ds es hij e e' (by rw[e1,e1',z])
end
end OD
namespace L2
open PySem PySem.Spec PyProof.Rows
def Cx.arg(X:Cx):Cx:={ X with fn:=fun y=>!(y == "") }
section
variable{X:Cx}{Aa:am}{σ:St}{H:Hp}{s:Shared}
def Inv.arg(I:Inv X Aa σ H s)(hf:∀y,X.fn y=true):Inv X.arg Aa σ H s:=
 ⟨⟨I.ok.mod,I.ok.kind,I.ok.glob,I.ok.blt,I.ok.above,I.ok.inj,I.ok.has,fun x c _=>I.ok.cab x c (hf x),I.ok.hd,I.ok.frames,I.ok.stk,I.ok.exf,I.ok.bs,I.ok.bsz,I.ok.noex,I.ok.exfs,I.ok.funs,I.ok.frf⟩,I.os,I.bare,I.base,I.loc,I.cell,I.free,I.freeC,I.pin,I.hok,I.len⟩
def Inv.outA(ok:X.Ok)(I:Inv X.arg Aa σ H s):Inv X Aa σ H s:=⟨ok,I.os,I.bare,I.base,I.loc,I.cell,I.free,I.freeC,I.pin,I.hok,I.len⟩
def SP.outA{D:Ends}{f:Flow}{s':Shared}(ok:X.Ok)(h:SP X.arg Aa D f s'):SP X Aa D f s':=by
 cases f with
 | next=>obtain⟨σ',H',I,q⟩:=h;exact⟨σ',H',I.outA ok,q⟩
 | brk=>obtain⟨σ',H',I,q⟩:=h;exact⟨σ',H',I.outA ok,q⟩
 | cont=>obtain⟨σ',H',I,q⟩:=h;exact⟨σ',H',I.outA ok,q⟩
 | ret u=>obtain⟨v,σ',H',I,r,q⟩:=h;exact⟨v,σ',H',I.outA ok,r,q⟩
def PSs.outA{sts:List Stmt}{ts:TS}(h:PSs X.arg sts ts)(hf:∀y,X.fn y=true):PSs X sts ts:=fun Aa s σ H D I q=>thn (h Aa s σ H D (I.arg hf) q) fun _ _ z=>SP.outA I.ok z
def d8:NS X (fun o i H Q=>∃p xs k v,o=.ref p∧i=.int k∧0≤k∧H p=some (.lst xs)∧xs[k.toNat]? = some v∧Q v H):=by
 intro Aa s σ H o i ov iv Q I ro ri h
 obtain⟨p,xs,k,v,rfl,rfl,h0,hp,hv,q⟩:=h
 cases ro
 obtain⟨t,rfl⟩:=ri
 obtain⟨its,r,pl,hz⟩:=I.list (.of hp)
 obtain⟨w,ew,rw'⟩:=r.get hv
 have hl:=r.length
 have hn:=wU
 have hk:k.toNat<xs.length:=by
  rcases BQ k.toNat xs.length with z|z
  ·exact z
  ·rw[Bt z]at hv;cases hv
 exact wpAny_getItem_list pl.isList h0 (by omega) (by simpa using ew) ⟨v,H,I,rw',q⟩
end
end L2
namespace OD
variable{Z:Hp}
open PySem PySem.Spec PyProof.Rows L2
def Uq{X:Cx}:Zx X.arg=fun _=>none:=if_pos (.inr (by show(!(("":Str) == ""))=false;decide))
def Vw.del(W:Vw)(a:Addr)(hg:W.g a=none):Vw:=⟨W.g,fun b=>if b=a then none else W.h b,fun b o q=>by
 have:b≠a:=fun e=>by rw[e,hg]at q;cases q
 show(if b=a then none else W.h b)=some o
 rw[if_neg this]
 exact W.sub _ _ q⟩
def w_{W:Vw}{a b:Addr}{hg:W.g a=none}(h:b≠a):(W.del a hg).h b=W.h b:=if_neg h
def cE(W:Vw)(a:Addr)(hg:W.g a=none):Le (W.del a hg) W:=⟨Same.refl _,fun b o q=>by
 by_cases e:b=a
 ·subst e
  have q:(if b=b then none else W.h b)=some o:=q
  rw[if_pos rfl]at q
  cases q
 ·rw[←w_ (hg:=hg) e];exact q,fun _ _ h=>h⟩
def Le.undel{W0 W W':Vw}{a:Addr}{hg:W.g a=none}(l0:Le W0 W)(h0:W0.h a=none)(l:Le (W.del a hg) W'):Le W0 W':=
 ⟨l0.g.trans l.g,fun b o q=>by
  have e:b≠a:=fun e=>by rw[e,h0]at q;cases q
  exact l.h b o ((w_ e).trans (l0.h b o q)),fun b h1 h2=>by
  have e:b≠a:=fun e=>h1 (e ▸ h0)
  exact l.n b (by rw[w_ e];exact fun z=>h1 (l0.h.free z)) (l0.n b h1 h2)⟩
theorem Rl.lent{K:A_}{F:Hp}{W W':Vw}{ρ:DS}{σ:St}(r:Rl K Z F W ρ σ){i:Nat}{ds fs:List Dt}{a:Addr}{ys:List V}(hi:ρ[i]? = some (.own ds))(ha:σ[i]? = some (some (.ref a)))(hg:W.g a=none)(hF:F a=none)
  (le:Le (W.del a hg) W') (h1:W'.h a=some (.lst ys)) (h2:W'.g a=none) (h3:AllIs K W'.g fs ys):Rl K Z F W' (ρ.set i (.own fs)) σ:=by
 have other:∀j gs,j≠i→ρ[j]? = some (.own gs)→σ[j]?≠some (some (.ref a)):=fun j gs hj q z=>r.ne j i gs ds hj q hi (z.trans ha.symm)
 have keep:∀b xs,b≠a→W.h b=some (.lst xs)→W.g b=none→W'.h b=some (.lst xs)∧W'.g b=none:=fun b xs hb q1 q2=>
  ⟨le.h b _ ((w_ hb).trans q1),le.n b (by rw[w_ hb,q1];intro z;cases z) q2⟩
 refine⟨by rw[BC];exact r.len,fun j e q=>?_,fun j gs q=>?_,fun j k gs gs' hjk q1 q2=>?_,fun p o q=>?_,r.z,fun j c gs q=>?_,?_⟩
 ·rcases zm q with ⟨_,_,e1⟩|⟨hij,q⟩
  ·cases e1
  ·obtain⟨v,e1,e2⟩:=r.at_ j e q
   exact⟨v,e1,Is.mono0 le.g e2⟩
 ·rcases zm q with ⟨rfl,_,e1⟩|⟨hij,q⟩
  ·cases e1
   exact⟨a,ys,ha,h1,h2,hF,h3⟩
  ·obtain⟨b,xs,e1,e2,e3,e4,e5⟩:=r.ow j gs q
   have hb:b≠a:=fun z=>other j gs (fun z=>hij z.symm) q (z ▸ e1)
   obtain⟨k1,k2⟩:=keep b xs hb e2 e3
   exact⟨b,xs,e1,k1,k2,e4,AllIs.mono0 le.g e5⟩
 ·have k1:∃hs,ρ[j]? = some (.own hs):=by
   rcases zm q1 with ⟨rfl,_,_⟩|⟨_,q⟩
   ·exact⟨_,hi⟩
   ·exact⟨_,q⟩
  have k2:∃hs,ρ[k]? = some (.own hs):=by
   rcases zm q2 with ⟨rfl,_,_⟩|⟨_,q⟩
   ·exact⟨_,hi⟩
   ·exact⟨_,q⟩
  obtain⟨_,k1⟩:=k1
  obtain⟨_,k2⟩:=k2
  exact r.ne j k _ _ hjk k1 k2
 ·have e:p≠a:=fun e=>by rw[e,hF]at q;cases q
  exact le.h p o ((w_ e).trans (r.fr p o q))
 ·rcases zm q with ⟨_,_,e1⟩|⟨hij,q⟩
  ·cases e1
  obtain⟨⟨xs,g1,g2,g3,g4,g5⟩,k1,k2⟩:=r.ar j c gs q
  have hc:c≠a:=fun z=>k1 i ds hi (by rw[z];exact ha)
  obtain⟨m1,m2⟩:=keep c xs hc g2 g3
  refine⟨⟨xs,g1,m1,m2,g4,AllIs.mono0 le.g g5⟩,fun k es' q'=>?_,fun k c' es' q'=>?_⟩
  ·rcases zm q' with ⟨rfl,_,_⟩|⟨_,q'⟩
   ·exact k1 i ds hi
   ·exact k1 k es' q'
  ·rcases zm q' with ⟨_,_,e1⟩|⟨hik,q'⟩
   ·cases e1
   exact k2 k c' es' q'
 ·obtain⟨a',xs0,e1,e2,_⟩:=r.ow i ds hi
  rw[ha]at e1
  cases e1
  refine Obs.slot (fun j φ q=>?_) i (fun φ z=>by cases z)
  obtain⟨⟨b,o,g1,g2,g3,g4,g5,g6⟩,k⟩:=r.ob j φ q
  have hb:b≠a:=fun z=>g3 xs0 (by rw[z,e2]at g2;exact(Option.some.inj g2).symm)
  exact⟨⟨b,o,g1,le.h b _ ((w_ hb).trans g2),g3,le.n b (by rw[w_ hb,g2];intro z;cases z) g4,g5,φ.mono le.g g6⟩,k⟩
theorem Rl.putA{K:A_}{F:Hp}{W:Vw}{ρ:DS}{σ:St}(r:Rl K Z F W ρ σ){i:Nat}{ds es:List Dt}{a:Addr}{ys:List V}(hi:ρ[i]? = some (.arg a ds))(hg:W.g a=none)(hF:F a=none)(h3:AllIs K W.g es ys):
  Rl K Z F (W.mine a (.lst ys) hg) (ρ.set i (.arg a es)) σ:=by
 obtain⟨⟨xs,ha,hh,_⟩,no,on⟩:=r.ar i a ds hi
 refine⟨by rw[BC];exact r.len,fun j e q=>?_,fun j fs q=>?_,fun j k fs fs' hjk q1 q2=>?_,fun p o q=>?_,r.z,fun j c fs q=>?_,(r.ob.mine hh hg).slot i (fun φ z=>by cases z)⟩
 ·rcases zm q with ⟨_,_,e1⟩|⟨hij,q⟩
  ·cases e1
  ·exact r.at_ j e q
 ·rcases zm q with ⟨_,_,e1⟩|⟨hij,q⟩
  ·cases e1
  ·obtain⟨b,xs,e1,e2,e3,e4,e5⟩:=r.ow j fs q
   have hb:b≠a:=fun z=>no j fs q (z ▸ e1)
   exact⟨b,xs,e1,(zt hb).trans e2,e3,e4,e5⟩
 ·rcases zm q1 with ⟨_,_,e1⟩|⟨_,q1⟩
  ·cases e1
  rcases zm q2 with ⟨_,_,e1⟩|⟨_,q2⟩
  ·cases e1
  exact r.ne j k _ _ hjk q1 q2
 ·have e:p≠a:=fun e=>by rw[e,hF]at q;cases q
  exact(zt (H:=W.h) (o:=.lst ys) e).trans (r.fr p o q)
 ·rcases zm q with ⟨rfl,hl,e1⟩|⟨hij,q⟩
  ·cases e1
   refine⟨⟨ys,ha,zr,hg,hF,h3⟩,fun k es' q'=>?_,fun k c' es' q'=>?_⟩
   ·rcases zm q' with ⟨_,_,e1⟩|⟨_,q'⟩
    ·cases e1
    ·exact no k es' q'
   ·rcases zm q' with ⟨rfl,_,_⟩|⟨hik,q'⟩
    ·rfl
    ·exact on k c' es' q'
  ·exact absurd (on j c fs q) (fun z=>hij z.symm)
theorem At.putA{K:A_}{W0 W:Vw}{G:Hp}{ρ:DS}{σ:St}(at_:At K Z W0 G W ρ σ){i:Nat}{ds es:List Dt}{a:Addr}{ys:List V}(hi:ρ[i]? = some (.arg a ds))(hg:W.g a=none)(hF:W0.h a=none)(h3:AllIs K W.g es ys):
  At K Z W0 G (W.mine a (.lst ys) hg) (ρ.set i (.arg a es)) σ:=
 ⟨⟨at_.le.g,fun b o q=>by
   have:b≠a:=fun e=>by rw[e,hF]at q;cases q
   show upd W.h a _ b=some o
   rw[zt this];exact at_.le.h _ _ q,at_.le.n⟩,at_.gs,at_.rl.putA hi hg hF h3⟩
abbrev ASp:=Dt→List Dt→List Dt→(List Dt→Prop)→Prop
def pE(K:A_)(S:ASp):Sp:=fun vs H Q _=>∃(W:Vw)(d0:Dt)(es0 ds:List Dt)(Qd:List Dt→Prop)(v0:V)(a:Addr)(xs vs':List V)(hg:W.g a=none),W.h=H∧vs=v0::.ref a::vs'∧W.h a=some (.lst xs)∧Is K W.g d0 v0∧AllIs K W.g es0 xs∧AllIs K W.g ds vs'∧S d0 es0 ds Qd∧
 ∀es ys W',Le (W.del a hg) W'→W'.h a=some (.lst ys)→W'.g a=none→AllIs K W'.g es ys→Qd es→Q .non W'.h
structure AOk(P:Program)(w:World)(K:A_)(mg:be)(base:Heap)(n:Nat)(x:Str)(S:ASp):Prop where
 ex:∃f fd ps,mg x=some (.ref f)∧PySem.W.keepIn K (.ref f)=true∧Binds K fd ps []∧FnOk P w K mg base CX0 n f fd ps (pE K S)
def u9(n:Nat)(d0:Dt)(a:Addr)(es0 ds:List Dt):DS:=.some d0::.arg a es0::(ds.map Sl.some++List.replicate (n-(ds.length+2)) Sl.none)
section
variable{P:Program}{w:World}{K:A_}{mg:be}{base:Heap}
theorem jx{W:Vw}{N:List Str}{d0:Dt}{v0:V}{a:Addr}{es0 ds:List Dt}{xs vs:List V}(hg:W.g a=none)(ha:W.h a=some (.lst xs))(i0:Is K W.g d0 v0)(i1:AllIs K W.g es0 xs)(i2:AllIs K W.g ds vs):
  Rl K (fun _=>none) (W.del a hg).h W (u9 N.length d0 a es0 ds) (L2.start N (v0::.ref a::vs)):=by
 have hl:=i2.length
 have cls:∀(i:Nat)(y:Sl),(ds.map Sl.some++List.replicate (N.length-(ds.length+2)) Sl.none)[i]? = some y→(∃d,ds[i]? = some d∧y=.some d)∨y=.none:=fun i y e=>by
  by_cases hi:i<ds.length
  ·rw[BH (by rw[A'];exact hi),Bn]at e
   obtain⟨d',h1,h2⟩:=Bw.mp e
   exact .inl ⟨d',h1,h2.symm⟩
  ·rw[BD (by rw[A'];omega),List.getElem?_replicate]at e
   split at e
   ·exact .inr (Option.some.inj e).symm
   ·cases e
 have noOwn:∀(i:Nat)(es:List Dt),(u9 N.length d0 a es0 ds)[i]? = some (.own es)→False:=fun i es e=>by
  match i,e with
  | 0,e=>cases e
  | 1,e=>cases e
  | i+2,e=>
   rcases cls i _ e with ⟨_,_,e1⟩|e1<;>cases e1
 have noObj:∀(i:Nat)(φ:ObP),(u9 N.length d0 a es0 ds)[i]? = some (.obj φ)→False:=fun i φ e=>by
  match i,e with
  | 0,e=>cases e
  | 1,e=>cases e
  | i+2,e=>
   rcases cls i _ e with ⟨_,_,e1⟩|e1<;>cases e1
 have dela:(W.del a hg).h a=none:=if_pos rfl
 refine⟨?_,fun i d e=>?_,fun i es e=>(noOwn i es e).elim,fun i j es fs _ e _=>(noOwn i es e).elim,(cE W a hg).h,(fun _ _ q=>nomatch q),fun i c es e=>?_,fun i φ e=>(noObj i φ e).elim⟩
 ·unfold L2.start u9
  rw[Bm,Bm,Bo,Bo,A',A',List.length_replicate,List.length_replicate,Bm,Bm,hl]
  omega
 ·match i,e with
  | 0,e=>cases e;exact⟨v0,rfl,i0⟩
  | 1,e=>cases e
  | i+2,e=>
   rcases cls i _ e with ⟨d',q,e1⟩|e1
   ·cases e1
    obtain⟨v,h1,h2⟩:=i2.get q
    refine⟨v,?_,h2⟩
    have hi:i<vs.length:=by
     rcases BQ i vs.length with h|h
     ·exact h
     ·rw[Bt h]at h1;cases h1
    unfold L2.start
    show(vs.map some++_)[i]? = _
    rw[BH (by rw[A'];exact hi),Bn,h1]
    rfl
   ·cases e1
 ·have hone:∀(j:Nat)(b:Addr)(es:List Dt),(u9 N.length d0 a es0 ds)[j]? = some (.arg b es)→j=1∧b=a∧es=es0:=fun j b es e=>by
   match j,e with
   | 0,e=>cases e
   | 1,e=>cases e;exact⟨rfl,rfl,rfl⟩
   | j+2,e=>rcases cls j _ e with ⟨_,_,e1⟩|e1<;>cases e1
  obtain⟨rfl,rfl,rfl⟩:=hone i c es e
  exact⟨⟨xs,rfl,ha,hg,dela,i1⟩,fun j es e=>(noOwn j es e).elim,fun j b es e=>(hone j b es e).1⟩
theorem okA{x qual:Str}{st:Stmt}{f:Addr}{fd:FuncData}{N ps:List Str}{k:Nat}{S:ASp}(F:Fun K x qual st f fd)(sc:zh N ps (defScope st))(len:∀d0 es0 ds Q,S d0 es0 ds Q→ds.length+2=ps.length)
  (hbody:∀(cdv:Value)(A:Around)(outer:List Env)(s:Shared)(H:Hp)(E:XK),Room k (A.deeper (envOfC qual (defScope st) s.heap.objs.size f cdv))→∀(d0:Dt)(es0 ds:List Dt)(Q:List Dt→Prop)(a:Addr),S d0 es0 ds Q→
   ∃t,DSs (yg CX0 P w K mg base N qual (defScope st) f cdv A outer s H E).nox.arg .d (defBody st) t∧t { nx:=fun ρ=>∃es,ρ[1]? = some (.arg a es)∧Q es,rt:=fun _=>False } (u9 N.length d0 a es0 ds)):FnOk P w K mg base CX0 (k+1) f fd ps (pE K S):=by
 refine F.ok sc (fun vs H Q E h=>?_) (fun cdv A outer s H vs Q E hr h=>?_)
 ·obtain⟨W,d0,es0,ds,Qd,v0,a,xs,vs',hg,rfl,rfl,h1,h2,h3,h4,hS,_⟩:=h
  rw[Bm,Bm,←h4.length]
  exact len _ _ _ _ hS
 obtain⟨W,d0,es0,ds,Qd,v0,a,xs,vs',hg,rfl,rfl,h1,h2,h3,h4,hS,kk⟩:=h
 obtain⟨t,⟨ts,p,l⟩,ht⟩:=hbody cdv A outer s W.h E hr d0 es0 ds Qd a hS
 rw[Uq]at l
 refine⟨ts,p.outA (fun _=>rfl),l (W.del a hg) W.g _ (start N (v0::.ref a::vs')) W { nx:=fun ρ=>∃es,ρ[1]? = some (.arg a es)∧Qd es,rt:=fun _=>False } _ ⟨cE W a hg,Same.refl _,jx hg h1 h2 h3 h4⟩ ⟨fun ρ σ W' at_ zz=>?_,fun _ _ _ _ _ q=>q.elim,fun _ _ _ _ q=>q.elim,fun _ _ _ _ q=>q.elim⟩ ht⟩
 obtain⟨es,e,q⟩:=zz
 obtain⟨⟨ys,_,g2,g3,_,g5⟩,_,_⟩:=at_.rl.ar 1 a es e
 exact kk es ys W' at_.le g2 g3 g5 q
def AOk.mk'{x qual:Str}{st:Stmt}{f:Addr}{fd:FuncData}{ps:List Str}{n:Nat}{S:ASp}(F:Fun K x qual st f fd)(hm:mg x=some (.ref f))(hb:Binds K fd ps [])(h:FnOk P w K mg base CX0 n f fd ps (pE K S)):AOk P w K mg base n x S:=
 ⟨f,fd,ps,hm,F.kp,hb,h⟩
end
section
variable{X:Cx}{fr:Fr}{e e0 k:Expr}{es:List Expr}{t te tk:DTE}{ta:DTA}{n:Nat}{x y:Str}{S:ASp}{p pos p0 p1 p2:Pos}{i:Nat}
def QX(i:Nat)(S:ASp)(t:DTE)(ta:DTA):DTS:=fun D ρ=>∃ds,ρ[i]? = some (.own ds)∧t ρ fun d0=>ta ρ fun fs=>S d0 ds fs fun es=>D.nx (ρ.set i (.own es))
def mh(i:Nat)(G:AOk X.prog X.w X.K X.mg X.base n x S)(hr:Room n X.A)(hg:Gl X x)(h0:DE X e0 t)(ha:DA X es ta)(hN:X.N[i]? = some y:=by rfl)(hv:Vis X.env.scope y:=by walk_at "v")(hd:ug y:=by decide)
  (hcd:we y:=by decide) (hdb:ug x:=by decide)
  (he:starEach (e0::.Name y p1::es) X.env=(false,eval e0 X.env)::starEach (.Name y p1::es) X.env:=by rfl) (he2:starEach (.Name y p1::es) X.env=(false,eval (.Name y p1) X.env)::starEach es X.env:=by rfl)
  (hpl:(backTo p2 (starEach (.Name y p1::es) X.env)).any (·.1)=false:=by rfl) (hs:swapsWith (.Call (.Name x p) (e0::.Name y p1::es) [] p2) none pos.line X.env=pure false:=by rfl):
  DSt X fr (.Expr (.Call (.Name x p) (e0::.Name y p1::es) [] p2) pos) (QX i S t ta):=by
 obtain⟨f,fd,ps,hm,hk,hb,F⟩:=G.ex
 obtain⟨tt,q0,l0⟩:=h0
 obtain⟨tts,q1,l1⟩:=ha
 refine⟨_,ww (vj F hr hg hm hk hb .nil qQ (zB q0 (zB (yj hN hv hd hcd) q1 he2) he) hdb he hpl) hs,fun W0 G ρ σ W D D' at_ s h=>?_⟩
 obtain⟨ds,ei,h⟩:=h
 obtain⟨a,xs,k1,k2,k3,k4,k5⟩:=at_.rl.ow i ds ei
 refine l0 ρ σ W _ at_.rl h _ fun d0 v0 W1 s1 i0 h=>?_
 refine⟨.ref a,k1,l1 ρ σ W1 _ (at_.rl.mono s1) h _ fun fs vs W2 s2 i2 h=>?_⟩
 have s12:=s1.trans s2
 have hg2:W2.g a=none:=s12.n a (by rw[k2];intro z;cases z) k3
 show pE X.K S ((v0::.ref a::vs)++[]) W2.h _ E0
 rw[Bv]
 refine⟨W2,d0,ds,fs,_,v0,a,xs,vs,hg2,rfl,rfl,s12.h _ _ k2,i0.mono s2,k5.mono s12,i2,h,fun es ys W' le m1 m2 m3 q=>?_⟩
 have a2:=at_.step s12
 exact s.nx _ _ W' ⟨a2.le.undel k4 le,a2.gs.trans le.g,a2.rl.lent ei k1 hg2 k4 le m1 m2 m3⟩ q
def OT(i:Nat):DTE:=fun ρ Q=>∃a ds,ρ[i]? = some (.arg a ds)∧Q (.int ds.length)
def Vk(i:Nat)(hg:Gl X "len")(hm:X.mg "len"=none)(hN:X.N[i]? = some x:=by rfl)(hv:Vis X.env.scope x:=by walk_at "v")(hd:ug x:=by decide)
  (hcd:we x:=by decide) (hs:starEach [.Name x p1] X.env=(false,eval (.Name x p1) X.env)::starEach [] X.env:=by rfl) (hpl:K' X.env pos []:=by rfl):
  DE X (.Call (.Name "len" p0) [.Name x p1] [] pos) (OT i):=by
 refine⟨_,yx wE hg hm PySem.boot_len (zB (yj hN hv hd hcd) zS hs) (by decide) (by decide) hs hpl,fun ρ σ H Q r h R k=>?_⟩
 obtain⟨a,ds,e,q⟩:=h
 obtain⟨⟨xs,e1,e2,e3,e4,e5⟩,_,_⟩:=r.ar i a ds e
 exact⟨.ref a,e1,a,xs,rfl,.inl (.of e2),by rw[←e5.length];exact k _ _ H (Le.refl H) (is_int.mpr rfl) q⟩
def Nd(i:Nat)(te:DTE):DTS:=fun D ρ=>∃a ds,ρ[i]? = some (.arg a ds)∧te ρ fun d=>ds.length≤100000∧D.nx (ρ.set i (.arg a (ds++[d])))
def Ve(i:Nat)(h:DE X e te)(hN:X.N[i]? = some x:=by rfl)(hv:Vis X.env.scope x:=by walk_at "v")(hd:ug x:=by decide)
  (hcd:we x:=by decide) (hst:starEach [e] X.env=(false,eval e X.env)::starEach [] X.env:=by rfl) (hpl:K' X.env p2 []:=by rfl)
  (hfew:((backTo p2 (starEach [e] X.env)).all (fun x=>!x.1)&&(backToKw p2 (keywordEach [] X.env)).all (fun x=>x.1.isSome)
   && decide ([e].length+([]:List Keyword).length+(if([]:List Keyword).isEmpty then 0 else 1)<30))=true:=by rfl)
  (hbase:attributeBase (.Name x p0) "append" X.env (eval (.Name x p0) X.env)=eval (.Name x p0) X.env:=by rfl) (hline:(p1.endLine==p2.line)=true:=by rfl)
  (hs:swapsWith (.Call (.Attribute (.Name x p0) "append" p1) [e] [] p2) none pos.line X.env=pure false:=by rfl):
  DSt X fr (.Expr (.Call (.Attribute (.Name x p0) "append" p1) [e] [] p2) pos) (Nd i te):=by
 obtain⟨tt,p,l⟩:=h
 refine⟨_,ww (sY PySem.F.plainAttrs_list PySem.F.slot_list_append PySem.F.type_list_append vk (yj hN hv hd hcd) (zB p zS hst) hbase hfew hline hst hpl) hs,fun W0 G ρ σ W D D' at_ s h=>?_⟩
 obtain⟨b,ds,ei,h⟩:=h
 obtain⟨⟨xs,e1,e2,e3,e4,e5⟩,_,_⟩:=at_.rl.ar i b ds ei
 refine⟨.ref b,e1,.inl ⟨rfl,xs,.of e2⟩,l ρ σ W _ at_.rl h _ fun d v W1 s1 i1 zz=>?_⟩
 obtain⟨hl,q1⟩:=zz
 have a1:=at_.step s1
 have hg1:W1.g b=none:=s1.n b (by rw[e2];intro z;cases z) e3
 refine⟨b,xs,v,rfl,rfl,s1.h _ _ e2,by rw[←e5.length];exact BV hl (by decide),?_⟩
 exact s.nx _ _ _ (a1.putA ei hg1 e4 ((e5.mono s1).append (allIs_cons.mpr ⟨v,[],rfl,i1,allIs_nil.mpr rfl⟩))) q1
def Nc(i:Nat)(g:Int→Int→Int)(tk te:DTE):DTS:=fun D ρ=>∃a ds,ρ[i]? = some (.arg a ds)∧tk ρ fun z=>∃n m,z=.int n∧0≤n∧ds[n.toNat]? = some (.int m)∧te ρ fun d=>∃y,d=.int y∧D.nx (ρ.set i (.arg a (ds.set n.toNat (.int (g m y)))))
def Qp{n:Int}{k:Nat}(h0:0≤n)(h:n.toNat<k):ixN k n=some n.toNat:=by
 unfold ixN
 rw[if_pos h0,if_pos (by omega)]
def uk(i:Nat){op:Operator}{g:Int→Int→Int}(ho:PIp X op (ipI g))(hk:DE X k tk)(h:DE X e te)(hN:X.N[i]? = some x:=by rfl)(hv:Vis X.env.scope x:=by walk_at "v")(hd:ug x:=by decide)
  (hcd:we x:=by decide)
  (ha:∀ov iv new,augStore k ov iv new=(do holding [new,ov,iv] (setItem ov iv new);release [new,ov,iv] [];pure .next):=by intros;rfl):
  DSt X fr (.AugAssign (.Subscript (.Name x p0) k p1) op e pos) (Nc i g tk te):=by
 obtain⟨tt,p,l⟩:=h
 obtain⟨tk',pk,lk⟩:=hk
 refine⟨_,bN (yj hN hv hd hcd) pk d8 p ho i5 ha,fun W0 G ρ σ W D D' at_ s h=>?_⟩
 obtain⟨b,ds,ei,h⟩:=h
 obtain⟨⟨xs,e1,e2,e3,e4,e5⟩,_,_⟩:=at_.rl.ar i b ds ei
 refine⟨.ref b,e1,lk ρ σ W _ at_.rl h _ fun z v W1 s1 i1 zz=>?_⟩
 obtain⟨n,m,ez,h0,hm,q1⟩:=zz
 subst ez
 obtain rfl:=is_int.mp i1
 obtain⟨u,hu,iu⟩:=e5.get hm
 obtain rfl:=is_int.mp iu
 refine⟨b,xs,n,.int m,rfl,rfl,h0,s1.h _ _ e2,hu,l ρ σ W1 _ (at_.rl.mono s1) q1 _ fun d v W2 s2 i2 zz=>?_⟩
 obtain⟨y,ed,q2⟩:=zz
 subst ed
 have s12:=s1.trans s2
 have hg2:W2.g b=none:=s12.n b (by rw[e2];intro z;cases z) e3
 have hl:n.toNat<xs.length:=by
  rcases BQ n.toNat xs.length with z|z
  ·exact z
  ·rw[Bt z]at hu;cases hu
 refine⟨m,y,rfl,is_int.mp i2,b,xs,n,n.toNat,rfl,rfl,s12.h _ _ e2,Qp h0 hl,?_⟩
 exact s.nx _ _ _ ((at_.step s12).putA ei hg2 e4 ((e5.mono s12).set n.toNat (is_int.mpr rfl))) q2
def M5(i:Nat)(te:DTE):DTS:=fun D ρ=>∃ds,ρ[i]? = some (.own ds)∧te ρ fun d=>∃es,d=.lst es∧ds.length+es.length≤16000000∧D.nx (ρ.set i (.own (ds++es)))
def Qz(i:Nat)(h:DE X e te)(hN:X.N[i]? = some x:=by rfl)(hv:Vis X.env.scope x:=by walk_at "v")(hd:ug x:=by decide)
  (hcd:we x:=by decide) (hst:starEach [e] X.env=(false,eval e X.env)::starEach [] X.env:=by rfl) (hpl:K' X.env p2 []:=by rfl)
  (hfew:((backTo p2 (starEach [e] X.env)).all (fun x=>!x.1)&&(backToKw p2 (keywordEach [] X.env)).all (fun x=>x.1.isSome)
   && decide ([e].length+([]:List Keyword).length+(if([]:List Keyword).isEmpty then 0 else 1)<30))=true:=by rfl)
  (hbase:attributeBase (.Name x p0) "extend" X.env (eval (.Name x p0) X.env)=eval (.Name x p0) X.env:=by rfl) (hline:(p1.endLine==p2.line)=true:=by rfl)
  (hs:swapsWith (.Call (.Attribute (.Name x p0) "extend" p1) [e] [] p2) none pos.line X.env=pure false:=by rfl):
  DSt X fr (.Expr (.Call (.Attribute (.Name x p0) "extend" p1) [e] [] p2) pos) (M5 i te):=by
 obtain⟨tt,p,l⟩:=h
 refine⟨_,ww (sY PySem.F.plainAttrs_list PySem.F.slot_list_extend PySem.F.type_list_extend jW (yj hN hv hd hcd) (zB p zS hst) hbase hfew hline hst hpl) hs,fun W0 G ρ σ W D D' at_ s h=>?_⟩
 obtain⟨ds,ei,h⟩:=h
 obtain⟨b,xs,e1,e2,e3,e4,e5⟩:=at_.rl.ow i ds ei
 refine⟨.ref b,e1,.inl ⟨rfl,xs,.of e2⟩,l ρ σ W _ at_.rl h _ fun d v W1 s1 i1 zz=>?_⟩
 obtain⟨es,ed,hl,q1⟩:=zz
 subst ed
 obtain⟨c,zs,rfl,hc,ic⟩:=is_lst.mp i1
 have a1:=at_.step s1
 have hg1:W1.g b=none:=s1.n b (by rw[e2];intro z;cases z) e3
 refine⟨b,c,xs,zs,rfl,rfl,s1.h _ _ e2,W1.sub _ _ hc,by rw[←e5.length,←ic.length];exact Br hl (by decide),?_⟩
 exact s.nx _ _ _ (a1.put ei e1 hg1 e4 ((e5.mono s1).append ic)) q1
def N7:Dt→Bool
 | .tup ds=>ds.all qL
 | d=>qL d
theorem nj{K:A_}{G G':Hp}:∀{ds:List Dt}{vs:List V},ds.all qL=true→AllIs K G ds vs→AllIs K G' ds vs
 | [],_,_,h=>allIs_nil.mpr (allIs_nil.mp h)
 | d::ds,_,z,h=>by
  obtain⟨x,r,rfl,h1,h2⟩:=allIs_cons.mp h
  rw[List.all_cons,Bb]at z
  exact allIs_cons.mpr ⟨x,r,rfl,pM z.1 h1,nj z.2 h2⟩
def Na(t:DTE):DTE:=fun ρ Q=>t (ρ.map fz) fun d=>N7 d=true∧Q d
def kP(h:DE X e t):DE X e (Na t):=by
 obtain⟨te,p,l⟩:=h
 refine⟨te,p,fun ρ σ H Q r hq R k=>?_⟩
 obtain⟨W',e,sg,r',gl⟩:=r.bor
 have:=l (ρ.map fz) σ W' _ r' hq R fun d v H1 s1 i1 ⟨hs,q1⟩=>by
  obtain⟨H2,e2,_,s2⟩:=rT e s1 sg
  cases d with
  | tup ds=>
   obtain⟨p,xs,rfl,hp,ia⟩:=is_tup.mp i1
   have sub:Same (upd H.g p (.tup xs)) H1.h:=fun b o q=>by
    by_cases hb:b=p
    ·subst hb;rw[zr]at q;rw[←Option.some.inj q];exact H1.sub _ _ hp
    ·rw[zt hb]at q;exact H1.sub _ _ (s1.g _ _ (sg _ _ q))
   have le:Le H ⟨upd H.g p (.tup xs),H1.h,sub⟩:=⟨fun b o q=>by
     show upd H.g p (.tup xs) b=some o
     by_cases hb:b=p
     ·subst hb
      rw[zr]
      have:=s1.g _ _ (sg _ _ q)
      rw[hp]at this
      exact this
     ·rw[zt hb];exact q,e ▸ s1.h,fun b z1 z2=>by
     show upd H.g p (.tup xs) b=none
     have hb:b≠p:=fun hb=>by
      subst hb
      cases hw:W'.g b with
      | none=>
       have:=s1.n b (by rw[e];exact z1) hw
       rw[hp]at this
       cases this
      | some o=>
       rcases gl b o hw with z|⟨ys,rfl⟩
       ·rw[z2]at z;cases z
       ·have:=s1.g _ _ hw
        rw[hp]at this
        cases this
     rw[zt hb];exact z2⟩
   exact k (.tup ds) (.ref p) ⟨upd H.g p (.tup xs),H1.h,sub⟩ le (is_tup.mpr ⟨p,xs,rfl,zr,nj hs ia⟩) q1
  | _=>
   rw[←e2]
   first|(refine k _ v H2 s2 (pM ?_ i1) q1;exact hs)|cases hs
 rw[e]at this
 exact this
end
end OD
namespace OD
open PySem PySem.Spec PyProof.Rows L2
abbrev DTB:=Prop→(Addr→Prop)→DS→Prop
end OD
namespace OD
open PySem L2 PyProof.Rows
section
def Qr{α:Type}{l:List α}{y:α}{i:Nat}(q:l[i]? = some y):i<l.length:=by
 rcases BQ i l.length with h|h
 ·exact h
 ·rw[Bt h]at q;cases q
abbrev DTG:=List Dt→Dt→DTS
end
open PySem L2
section
variable{js:List Nat}{ta te:DTE}{X:Cx}{e:Expr}{i:Nat}
def each_t{s:DS}{P R:Prop}:(tF s fun b=>if b=true then P else R)=P:=by show(if true=true then P else R)=P;rw[if_pos rfl]
def VS{e:Dt}{s:List Dt→DS}{P R:List Dt→Prop}(h:∃as,iw e as∧tF (s as) fun b=>if b=true then P as else R as):P [e]:=by
 obtain⟨as,z,h⟩:=h
 cases z
 exact each_t.mp h
def cT:cP js ta te=u8 js (QO ta) iw tF te:=funext fun ρ=>funext fun Q=>congrArg (ta ρ) (funext fun d=>propext
 ⟨fun⟨m,Pv,h1,h2,h3,h4,h5,h6⟩=>⟨m,h1,h2,h3,Pv,h4,fun i e es hi he hp=>⟨_,rfl,each_t.mpr (he ▸ h5 i es hi hp)⟩,h6⟩,
  fun⟨m,h1,h2,h3,Pv,h4,h5,h6⟩=>⟨m,Pv,h1,h2,h3,h4,fun i es hi hp=>VS (h5 i _ es hi rfl hp),h6⟩⟩)
def cU:kR js ta te=u8 js (cO ta) iw tF te:=funext fun ρ=>funext fun Q=>congrArg (ta ρ) (funext fun d=>propext
 ⟨fun⟨ds,Pv,h1,h3,h4,h5,h6⟩=>⟨ds,h1,h3,Pv,h4,fun i e es _ he hp=>⟨_,rfl,each_t.mpr (h5 i e es he hp)⟩,h6⟩,
  fun⟨ds,h1,h3,Pv,h4,h5,h6⟩=>⟨ds,Pv,h1,h3,h4,fun i e es he hp=>VS (h5 i e es (Qr he) he hp),h6⟩⟩)
def Nh(h:DF X e (u8 js (QO ta) iw tF te)):DF X e (cP js ta te):=cT ▸ h
def Uf(h:DF X e (u8 js (cO ta) iw tF te)):DF X e (kR js ta te):=cU ▸ h
end
open PySem PySem.Spec PyProof.Rows L2
abbrev DTC:=(DS→Prop)→(Addr→Prop)→DS→Prop
end OD
namespace L2
open PySem PySem.Spec PyProof.Rows
section
variable{X:Cx}{a b:Expr}{ta tb:TE}{x1 x2:Str}{p1 p2 p3 p4 pos:Pos}
def NZ(ta tb:TE):TE:=fun σ H Q=>ta σ H fun v H1=>∃i,v=.int i∧i.natAbs.log2<1000∧tb σ H1 fun u H2=>∃j,u=.int j∧j.natAbs.log2<1000∧∀x,Q (.str x) H2
def oB{i:Int}(h:i.natAbs.log2<1000):(Str.ofString (toString i)).length≤1001:=by
 have:=int_text_length_le (k:=1000) (by decide) h
 rw[PySem.ofString_length]
 exact this
theorem U_{k1 k2}(ha:PE X a ta)(hb:PE X b tb)(h1:x1.length≤1000)(h2:x2.length≤1000):
  PE X (.JoinedStr [.Constant (.str x1) k1 p1,.FormattedValue a (-1) none p2,.Constant (.str x2) k2 p3,.FormattedValue b (-1) none p4] pos) (NZ ta tb):=by
 intro Aa s σ H Q I h
 have e0:(Str.empty++x1).length=x1.length:=by rw[strLen_append];exact Nat.zero_add _
 refine wpAny_JoinedStr (Calls.Constant_str ⟨x1,_,rfl,by rw[e0,sizeLine_eq];omega,?_⟩)
 refine wpAny_FormattedValue_plain (thn (ha Aa _ σ H _ (I.tok _) h) fun u s1 zz=>?_)
 obtain⟨v,H1,I1,rv,i,ev,hi,h⟩:=zz
 subst ev
 obtain⟨t,rfl⟩:=(show ∃t,u=Value.int i t from rv)
 have li:=oB hi
 refine wpAny_formatField_int (by omega) ⟨_,_,rfl,by rw[strLen_append,e0,sizeLine_eq];omega,?_⟩
 refine Calls.Constant_str ⟨x2,_,rfl,by rw[strLen_append,strLen_append,e0,sizeLine_eq];omega,?_⟩
 refine wpAny_FormattedValue_plain (thn (hb Aa _ σ H1 _ ((I1.tok _).tok _) h) fun u s2 zz=>?_)
 obtain⟨v,H2,I2,rv,j,ev,hj,h⟩:=zz
 subst ev
 obtain⟨t,rfl⟩:=(show ∃t,u=Value.int j t from rv)
 have lj:=oB hj
 have fin:(((Str.empty++x1)++Str.ofString (toString i))++x2++Str.ofString (toString j)).length≤sizeLine:=by
  rw[strLen_append,strLen_append,strLen_append,e0,sizeLine_eq];omega
 exact wpAny_formatField_int (by omega) ⟨_,_,rfl,fin,fin,.str _,H2,(I2.tok _).tok _,⟨_,rfl⟩,h _⟩
end
end L2
namespace OD
open PySem PySem.Spec PyProof.Rows L2
section
variable{X:Cx}{a b:Expr}{ta tb:DTE}{x1 x2:Str}{p1 p2 p3 p4 pos:Pos}
def MZ(ta tb:DTE):DTE:=fun ρ Q=>ta ρ fun d=>∃i,d=.int i∧i.natAbs.log2<1000∧tb ρ fun e=>∃j,e=.int j∧j.natAbs.log2<1000∧∀x,Q (.str x)
def QI{k1 k2}(ha:DE X a ta)(hb:DE X b tb)(h1:x1.length≤1000:=by decide +kernel)(h2:x2.length≤1000:=by decide +kernel):
  DE X (.JoinedStr [.Constant (.str x1) k1 p1,.FormattedValue a (-1) none p2,.Constant (.str x2) k2 p3,.FormattedValue b (-1) none p4] pos) (MZ ta tb):=by
 obtain⟨te,p,l⟩:=ha
 obtain⟨tf,p',l'⟩:=hb
 refine⟨_,U_ p p' h1 h2,fun ρ σ H Q r h R k=>l ρ σ H _ r h _ fun d v H1 s1 i1 zz=>?_⟩
 obtain⟨i,ed,hi,q1⟩:=zz
 subst ed
 refine⟨i,is_int.mp i1,hi,l' ρ σ H1 _ (r.mono s1) q1 _ fun e u H2 s2 i2 zz=>?_⟩
 obtain⟨j,ee,hj,q2⟩:=zz
 subst ee
 exact⟨j,is_int.mp i2,hj,fun x=>k _ _ H2 (s1.trans s2) (is_str.mpr rfl) (q2 x)⟩
end
def xH(C:Addr)(f:Str)(ok:Int→Prop)(D:Addr):Sp:=fun vs H Q E=>∃p dx i,vs=[.ref p,.int i]∧H p=some (.ins C dx [])∧
 ((ok i∧∀H':Hp,H' p=some (.ins C dx [(f,.int i)])→(∀b o,H b=some o→b≠p→H' b=some o)→Q .non H')∨(¬ok i∧∀H',Same H H'→E (.ref D) none H'))
structure tq(P:Program)(w:World)(K:A_)(mg:be)(base:Heap)(n:Nat)(x:Str)(C:Addr)(f:Str)(ok:Int→Prop)(D:Addr):Prop where
 ex:∃g fd ps,mg x=some (.ref C)∧Mk K C g∧Binds K fd ps []∧FnOk P w K mg base (CX1 P w) n g fd ps (xH C f ok D)
section
variable{X:Cx}{e:Expr}{es:List Expr}{t:DTA}{n:Nat}{x:Str}{p pos:Pos}
def QU(X:Cx)(C:Addr)(f:Str)(ok:Int→Prop)(D:Addr)(t:DTA):DTE:=fun ρ Q=>t ρ fun ds=>∃i,ds=[.int i]∧((ok i∧Q (.way C f i))∨(¬ok i∧Rz X D))
def x_{C D:Addr}{f:Str}{ok:Int→Prop}(G:tq X.prog X.w X.K X.mg X.base n x C f ok D)(hr:Room (n+1) X.A)(hg:Gl X x)(ha:DA X (e::es) t)(hdb:ug x:=by decide)
  (he:J' X.env e es:=by rfl) (hpl:K' X.env pos es:=by rfl):DE X (.Call (.Name x p) (e::es) [] pos) (QU X C f ok D t):=by
 obtain⟨g,fd,ps,hm,M,hb,F⟩:=G.ex
 obtain⟨te,p1,l1⟩:=ha
 refine⟨_,bS M F hr hg hm hb .nil s8 p1 hdb he hpl,fun ρ σ H Q r h R k=>l1 ρ σ H _ r h _ fun ds vs H1 s1 i1 ⟨i,ed,h⟩ y dy ny ndy ne=>?_⟩
 subst ed
 obtain⟨v,rfl,hv⟩:=i1.one
 obtain rfl:=is_int.mp hv
 rcases h with ⟨hok,q1⟩|⟨hno,hR⟩
 ·refine⟨y,dy,i,rfl,zr,.inl ⟨hok,fun H' e1 e2=>⟨rfl,?_⟩⟩⟩
  have keep:Same H1.h H':=fun b o hb=>e2 b o (by rw[zt (zV hb ny),zt (zV hb ndy)];exact hb) (zV hb ny)
  have gy:H1.g y=none:=H1.sub.free ny
  exact k _ _ ⟨upd H1.g y (.ins C dy [(f,.int i)]),H',fun b u q=>by
    by_cases e:b=y
    ·subst e;rw[zr]at q;rw[e1];exact q
    ·rw[zt e]at q;exact keep _ _ (H1.sub _ _ q)⟩
   (s1.trans ⟨zX gy _,keep,fun a z1 z2=>by
    have:a≠y:=fun e=>z1 (e ▸ ny)
    show upd H1.g y _ a=none
    rw[zt this];exact z2⟩) (is_way.mpr ⟨y,dy,rfl,zr⟩) q1
 ·refine⟨y,dy,i,rfl,zr,.inr ⟨hno,fun H' s'=>⟨D,rfl,(hR H' ?_).2⟩⟩⟩
  exact((qN r).trans s1.h).trans fun b o hb=>s' b o (by rw[zt (zV hb ny),zt (zV hb ndy)];exact hb)
end
section
variable{P:Program}{w:World}{K:A_}{mg:be}{base:Heap}
theorem x8{qual:Str}{st:Stmt}{g C D:Addr}{fd:FuncData}{y f:Str}{k:Nat}{ok:Int→Prop}(F:Fun K "__init__" qual st g fd)(sc:zh ["self",y] ["self",y] (defScope st))(cl:Cls K C)(na:NoAttr K C f)
  (hbody:∀(cdv:Value)(A:Around)(outer:List Env)(s:Shared)(H:Hp)(E:XK),Room k (A.deeper (envOfC qual (defScope st) s.heap.objs.size g cdv))→
   ∃te t,PSs (yg (CX1 P w) P w K mg base ["self",y] qual (defScope st) g cdv A outer s H E) (defBody st) (Pq K (iX 0) te f)∧LiE K (Zx (yg (CX1 P w) P w K mg base ["self",y] qual (defScope st) g cdv A outer s H E)) te t∧
    ∀i,(¬ok i→Rz (yg (CX1 P w) P w K mg base ["self",y] qual (defScope st) g cdv A outer s H E) D)→t [.none,.some (.int i)] fun d=>d=.int i∧ok i):
  FnOk P w K mg base (CX1 P w) (k+1) g fd ["self",y] (xH C f ok D):=by
 refine Fun.okX F sc (fun vs H Q E h=>?_) (fun cdv A outer s H vs Q E hr h=>?_)
 ·obtain⟨p,dx,i,rfl,_⟩:=h
  rfl
 obtain⟨p,dx,i,rfl,hp,h⟩:=h
 obtain⟨te,t,ps,l,ht⟩:=hbody cdv A outer s H E hr
 have ht:=ht i fun hno=>nr fun H' z=>h.elim (fun z=>absurd z.1 hno) fun q=>q.2 H' z
 rw[mG]at l
 refine⟨_,ps,l (F:=H) [.none,.some (.int i)] _ ⟨H,H,Same.refl H⟩ _ ⟨rfl,fun j d e=>?_,fun j ds e=>?_,fun j j' ds es _ e _=>?_,Same.refl H,Same.refl H,fun j a ds e=>?_,fun j φ e=>?_⟩ ht _ fun d v W1 s1 i1 ⟨ed,hok⟩=>?_⟩
 ·match j,e with
  | 0,e=>cases e
  | 1,e=>
   have e':Dt.int i=d:=by cases e;rfl
   subst e'
   exact⟨.int i,rfl,is_int.mpr rfl⟩
  | j+2,e=>cases e
 ·match j,e with
  | 0,e=>cases e
  | 1,e=>cases e
  | j+2,e=>cases e
 ·match j,e with
  | 0,e=>cases e
  | 1,e=>cases e
  | j+2,e=>cases e
 ·match j,e with
  | 0,e=>cases e
  | 1,e=>cases e
  | j+2,e=>cases e
 ·match j,e with
  | 0,e=>cases e
  | 1,e=>cases e
  | j+2,e=>cases e
 ·subst ed
  obtain rfl:=is_int.mp i1
  rcases h with ⟨_,q⟩|⟨hno,_⟩
  ·refine⟨.ref p,rfl,p,C,dx,[],rfl,s1.h _ _ hp,cl,na,(by show 0<1000;decide),?_⟩
   refine q _ zr fun b o hb hbp=>?_
   rw[zt hbp]
   exact s1.h _ _ hb
  ·exact absurd hok hno
end
end OD
namespace L2
open PySem PySem.Spec PyProof.Rows
section
variable{X:Cx}
def Vals.oneS{x:Str}{us:List Value}(h:Vals [.str x] us):∃t,us=[.str x t]:=by
 obtain⟨u,rfl,t,rfl⟩:=h.one
 exact⟨t,rfl⟩
def jV:MtR X "str.startswith" (fun x vs H Q=>∃z y,x=.str z∧vs=[.str y]∧Q (.bl (Txt.startswith z y)) H):=by
 intro Aa s σ H x vs v us Q I rx rv h
 obtain⟨z,y,rfl,rfl,q⟩:=h
 obtain⟨t,rfl⟩:=rx
 obtain⟨u,rfl⟩:=rv.oneS
 exact call_gives PySem.F.slot_str_startswith (typeIs_str s z t) PySem.F.entry_str_startswith (PySem.F.args_str_startswith_2 _ _) (gives_str_startswith z y t u) ⟨.bl _,H,I,rfl,q⟩
def lE:MtR X "str.rstrip" (fun x vs H Q=>∃z y,x=.str z∧vs=[.str y]∧z.length≤sizeLine∧Q (.str (Txt.rstripChars z y)) H):=by
 intro Aa s σ H x vs v us Q I rx rv h
 obtain⟨z,y,rfl,rfl,hl,q⟩:=h
 obtain⟨t,rfl⟩:=rx
 obtain⟨u,rfl⟩:=rv.oneS
 exact call_gives PySem.F.slot_str_rstrip (typeIs_str s z t) PySem.F.entry_str_rstrip (PySem.F.args_str_rstrip_2 _ _) (gives_str_rstrip_chars z y t u) (post_val_or_made (fun _=>fits_stripped _ _ _ hl) fun t' k=>⟨.str _,H,I.tok _,⟨_,rfl⟩,q⟩)
def Ma:V→Option Int→Option Int→Hp→VK→Prop:=fun x lo hi H Q=>∃z,x=.str z∧z.length≤sizeLine∧Q (.str (Txt.slice z lo hi)) H
def kr{v:Value}{o:Option Int}(h:IsPart v o):∃l:Option (Int×Tok),partValue l=v∧l.map (·.1)=o:=by
 cases h with
 | none=>exact⟨none,rfl,rfl⟩
 | int i t=>exact⟨some (i,t),rfl,rfl⟩
def UD:SlR X Ma:=by
 intro Aa s σ H x v vl vu lo hi sl Q I rx hs pl pu h
 obtain⟨z,rfl,hl,q⟩:=h
 obtain⟨t,rfl⟩:=rx
 obtain⟨l,rfl,el⟩:=kr pl
 obtain⟨u,rfl,eu⟩:=kr pu
 have hs':s.heap.IsSlice sl l u none:=hs
 refine⟨"str",_,PySem.F.slot_str_getitem.lookup,typeIs_str s z t,wpAny_getItem_str_slice hs' rfl ?_⟩
 have key:∀t' k,EP X Aa σ Q (.str (Txt.slice z (l.map (·.1)) (u.map (·.1))) t') { s with toks:=k }:=fun t' k=>⟨.str _,H,I.tok _,⟨_,rfl⟩,by rw[el,eu];exact q⟩
 exact post_val_or_str ⟨Br (Txt.slice_le z _ _) hl,key⟩
end
end L2
namespace OD
open PySem PySem.Spec PyProof.Rows L2
section
variable{X:Cx}{a b e:Expr}{ta tb:DTE}{pos p0:Pos}{x:Str}
def occ(y x:Str):Bool:=!(Builtin.Str.occurrences x y 0 x.length 1).isEmpty
def gz:DOp X (compareOp .NotIn) (gS fun y x=>.bl (!occ y x)):=by
 refine⟨_,og,fun H x y d e Q i1 i2 ⟨u,v,ed,ee,q⟩ R k=>?_⟩
 subst ed
 subst ee
 exact⟨u,v,is_str.mp i1,is_str.mp i2,k _ _ H (Le.refl H) (is_bl.mpr rfl) q⟩
def OR(ta:DTE):DTE:=fun ρ Q=>ta ρ fun d=>∃x,d=.str x∧x.length≤16777216∧Q (.int x.length)
def kN(hg:Gl X "len")(hm:X.mg "len"=none)(ha:DE X a ta)(hs:starEach [a] X.env=(false,eval a X.env)::starEach [] X.env:=by rfl)(hpl:K' X.env pos []:=by rfl):
  DE X (.Call (.Name "len" p0) [a] [] pos) (OR ta):=by
 obtain⟨te,p1,l1⟩:=ha
 refine⟨_,yx oQ hg hm PySem.boot_len (zB p1 zS hs) (by decide) (by decide) hs hpl,fun ρ σ H Q r h R k=>l1 ρ σ H _ r h _ fun d v H1 s1 i1 zz=>?_⟩
 obtain⟨x,ed,hl,q⟩:=zz
 subst ed
 exact⟨x,by rw[is_str.mp i1],by rw[sizeLine_eq];exact hl,k _ _ H1 s1 (is_int.mpr rfl) q⟩
def MN(ta:DTE):DTE:=fun ρ Q=>ta ρ fun d=>∃i:Int,d=.int i∧i.natAbs.log2<1920∧Q (.str (toString i))
def Vj(hg:Gl X "str")(hm:X.mg "str"=none)(ha:DE X a ta)(hs:starEach [a] X.env=(false,eval a X.env)::starEach [] X.env:=by rfl)(hpl:K' X.env pos []:=by rfl):
  DE X (.Call (.Name "str" p0) [a] [] pos) (MN ta):=by
 obtain⟨te,p1,l1⟩:=ha
 refine⟨_,uL oO hg hm PyProof.Rows.boot_str (zB p1 zS hs) (by decide) (by decide) hs hpl,fun ρ σ H Q r h R k=>l1 ρ σ H _ r h _ fun d v H1 s1 i1 zz=>?_⟩
 obtain⟨i,ed,hl,q⟩:=zz
 subst ed
 exact⟨i,by rw[is_int.mp i1],hl,k _ _ H1 s1 (is_str.mpr rfl) q⟩
def MW(ta tb:DTE):DTE:=dOp (fun d e Q=>∃x i c,d=.str x∧e=.int i∧0≤i∧i<2^63∧i<x.length∧x.cps[i.toNat]? = some c∧Q (.str ⟨#[c]⟩)) ta tb
def QH(ha:DE X a ta)(hb:DE X b tb)(hs:mF b:=by intro _ _;rfl):DE X (.Subscript a b pos) (MW ta tb):=by
 obtain⟨te,p1,l1⟩:=ha
 obtain⟨tf,p2,l2⟩:=hb
 refine⟨_,nH p1 p2 hs,WP l1 l2 fun H x y d e Q i1 i2 ⟨z,i,c,ed,ee,h0,h1,h2,hc,q⟩ R k=>?_⟩
 subst ed
 subst ee
 exact⟨z,i,c,is_str.mp i1,is_int.mp i2,h0,h1,h2,hc,k _ _ H (Le.refl H) (is_str.mpr rfl) q⟩
def Vn{y:Str}{tk:Tok}(hg:Gl X x)(hm:X.mg x=some (.str y tk))(hd:ug x:=by decide):DE X (.Name x pos) (dC (.str y)):=
 ⟨_,sw hg hm (v:=.str y) ⟨tk,rfl⟩ hd,fun ρ σ H Q r h R k=>k (.str y) (.str y) H (Le.refl H) (is_str.mpr rfl) h⟩
def dMt(f:Str→Str→Dt)(ta tb:DTE):DTE:=fun ρ Q=>ta ρ fun d=>∃x,d=.str x∧x.length≤16777216∧tb ρ fun e=>∃y,e=.str y∧Q (f x y)
variable{apos cpos:Pos}
def iq(ha:DE X a ta)(hb:DE X b tb)(hbase:attributeBase a "startswith" X.env (eval a X.env)=eval a X.env:=by rfl)
  (hfew:((backTo cpos (starEach [b] X.env)).all (fun x=>!x.1)&&(backToKw cpos (keywordEach [] X.env)).all (fun x=>x.1.isSome)
   && decide ([b].length+([]:List Keyword).length+(if([]:List Keyword).isEmpty then 0 else 1)<30))=true:=by rfl)
  (hline:(apos.endLine==cpos.line)=true:=by rfl) (hs:starEach [b] X.env=(false,eval b X.env)::starEach [] X.env:=by rfl) (hpl:K' X.env cpos []:=by rfl):
  DE X (.Call (.Attribute a "startswith" apos) [b] [] cpos) (dMt (fun x y=>.bl (Txt.startswith x y)) ta tb):=by
 obtain⟨te,p1,l1⟩:=ha
 obtain⟨tf,p2,l2⟩:=hb
 refine⟨_,sY PySem.F.plainAttrs_str PySem.F.slot_str_startswith PySem.F.type_str_startswith jV p1 (zB p2 zS hs) hbase hfew hline hs hpl,fun ρ σ H Q r h R k=>l1 ρ σ H _ r h _ fun d v H1 s1 i1 zz=>?_⟩
 obtain⟨x,ed,hl,q1⟩:=zz
 subst ed
 obtain rfl:=is_str.mp i1
 refine⟨rfl,l2 ρ σ H1 _ (r.mono s1) q1 _ fun e u H2 s2 i2 zz=>?_⟩
 obtain⟨y,ee,q2⟩:=zz
 subst ee
 obtain rfl:=is_str.mp i2
 exact⟨x,y,rfl,rfl,k _ _ H2 (s1.trans s2) (is_bl.mpr rfl) q2⟩
def lX(ha:DE X a ta)(hb:DE X b tb)(hbase:attributeBase a "rstrip" X.env (eval a X.env)=eval a X.env:=by rfl)
  (hfew:((backTo cpos (starEach [b] X.env)).all (fun x=>!x.1)&&(backToKw cpos (keywordEach [] X.env)).all (fun x=>x.1.isSome)
   && decide ([b].length+([]:List Keyword).length+(if([]:List Keyword).isEmpty then 0 else 1)<30))=true:=by rfl)
  (hline:(apos.endLine==cpos.line)=true:=by rfl) (hs:starEach [b] X.env=(false,eval b X.env)::starEach [] X.env:=by rfl) (hpl:K' X.env cpos []:=by rfl):
  DE X (.Call (.Attribute a "rstrip" apos) [b] [] cpos) (dMt (fun x y=>.str (Txt.rstripChars x y)) ta tb):=by
 obtain⟨te,p1,l1⟩:=ha
 obtain⟨tf,p2,l2⟩:=hb
 refine⟨_,sY PySem.F.plainAttrs_str PySem.F.slot_str_rstrip PySem.F.type_str_rstrip lE p1 (zB p2 zS hs) hbase hfew hline hs hpl,fun ρ σ H Q r h R k=>l1 ρ σ H _ r h _ fun d v H1 s1 i1 zz=>?_⟩
 obtain⟨x,ed,hl,q1⟩:=zz
 subst ed
 obtain rfl:=is_str.mp i1
 refine⟨rfl,l2 ρ σ H1 _ (r.mono s1) q1 _ fun e u H2 s2 i2 zz=>?_⟩
 obtain⟨y,ee,q2⟩:=zz
 subst ee
 obtain rfl:=is_str.mp i2
 exact⟨x,y,rfl,rfl,by rw[sizeLine_eq];exact hl,k _ _ H2 (s1.trans s2) (is_str.mpr rfl) q2⟩
def MP(te:DTE)(tl th:DTO):DTE:=fun ρ Q=>te ρ fun d=>tl ρ fun l=>th ρ fun u=>∃x,d=.str x∧x.length≤16777216∧Q (.str (Txt.slice x l u))
def pe{lo hi:Option Expr}{tl th:DTO}{p2:Pos}(ha:DE X a ta)(hl:DO X lo tl)(hu:DO X hi th):DE X (.Subscript a (.Slice lo hi none p2) pos) (MP ta tl th):=by
 obtain⟨te,p1,l1⟩:=ha
 obtain⟨tf,p2,l2⟩:=hl
 obtain⟨tg,p3,l3⟩:=hu
 refine⟨_,nE UD p1 p2 p3,fun ρ σ H Q r h R k=>l1 ρ σ H _ r h _ fun d v H1 s1 i1 q1=>l2 ρ σ H1 _ (r.mono s1) q1 _ fun l H2 s2 q2=>l3 ρ σ H2 _ (r.mono (s1.trans s2)) q2 _ fun u H3 s3 zz=>?_⟩
 obtain⟨x,ed,hx,q⟩:=zz
 subst ed
 exact⟨x,is_str.mp i1,by rw[sizeLine_eq];exact hx,k _ _ H3 ((s1.trans s2).trans s3) (is_str.mpr rfl) q⟩
end
end OD
namespace L2
open PySem PySem.Spec PyProof.Rows
def ItS(z:Str):It:=⟨fun i _=>i<z.cps.size,fun i H x H'=>H'=H∧∃c,z.cps[i]? = some c∧x=.str ⟨#[c]⟩,fun i _=>z.cps.size≤i⟩
theorem mJ{P:Program}{w:World}{K:A_}{tg:Expr}(it:Addr)(z:Str)(t:Tok):sr P w K tg (ItS z) [it] it (fun i h=>h.IsStrIter it "str_ascii_iterator" z t i) where
 mem:=by simp
 obj:=fun i h st b hb=>by
  have e:b=it:=by simpa using hb
  subst e
  obtain⟨o,e,c,d⟩:=st
  exact⟨o,e,fun v z=>by rw[d]at z;cases z⟩
 keep:=fun i h h' st k=>by
  obtain⟨o,e,r⟩:=st
  exact⟨o,k it (by simp) o e,r⟩
 item:=by
  intro X hP hw hK hc i Aa s σ H E I hf st hg
  subst hP hw hK
  obtain⟨f0,f1,f2,f3,f4,f5⟩:=hf it (by simp)
  have hg:i<z.cps.size:=hg
  have W:=Walks.strAscii (prog:=X.prog) (w:=X.w) (I.ok.hd hc) it z t
  refine W.item i s _ _ hg st fun v h' tk hv st' kk=>?_
  obtain⟨c,u,ec,rfl⟩:=hv
  have I1:Inv X Aa σ H { s with heap:=h',toks:=tk }:=I.turned (fun b o hb e=>kk b o (by simpa using hb) e) f0 f1 f3 f4 f5
  obtain⟨o,e,cl,d⟩:=id st'
  exact⟨_,rfl,n5 (s:={ s with heap:=h',toks:=tk }) e cl d (by decide) ⟨.str ⟨#[c]⟩,H,I1,⟨u,rfl⟩,⟨rfl,c,ec,rfl⟩,st',fun b hb=>(hf b hb).1⟩⟩
 done:=by
  intro X hP hw hK hc i Aa s σ H E I hf st hg
  subst hP hw hK
  obtain⟨f0,f1,f2,f3,f4,f5⟩:=hf it (by simp)
  have hg:z.cps.size≤i:=hg
  exact wpAny_pyNext_ascii_end (I.ok.hd hc) st (by simp;omega) fun h' eb=>⟨rfl,I.turned (t':=s.toks) (fun b o hb e=>eb b o hb e) f0 f1 f3 f4 f5⟩
 self:=fun _ _ _ _ _ st h=>wpAny_pyIter_striter_ascii st h
section
variable{X:Cx}{tg:Expr}
def MC(tl:TE):TI:=fun σ H R=>tl σ H fun v H1=>∃z,v=.str z∧z.cps.all (· < 128)=true∧R (ItS z) H1
def UU{l:Expr}{tl:TE}(hl:PE X l tl):PI X tg l (MC tl):=by
 intro Aa s σ H R I h
 refine thn (hl Aa s σ H _ I h) fun v s1 zz=>?_
 obtain⟨x,H1,I1,r1,q1⟩:=zz
 obtain⟨z,e,ha,q⟩:=q1
 subst e
 obtain⟨t,rfl⟩:=r1
 refine wpAny_pyIter_ascii ha ?_
 refine⟨s1.heap.objs.size,[s1.heap.objs.size],_,_,H1,rfl,I1.kept (t':=s1.toks) fun b o e=>Heap.get?_push_of_some _ e,mJ _ z t,⟨_,Heap.get?_push_size _ rfl,rfl,rfl⟩,fun b hb=>?_,q⟩
 have e:b=s1.heap.objs.size:=by simpa using hb
 subst e
 exact I1.fpOk (Bg _) (I1.hok.fresh (Bg _))
theorem WY{z:Str}{g:TG}{tb:TS}{D:Ends}{σ:St}{H:Hp}(Pv:Nat→St→Hp→Prop)(h0:Pv 0 σ H)
  (hs:∀i c σ H,z.cps[i]? = some c→Pv i σ H→g (.str ⟨#[c]⟩) σ H fun σ2 H2=>tb { D with nx:=Pv (i+1),ct:=Pv (i+1),bk:=D.nx } σ2 H2) (hd:∀σ H,Pv z.cps.size σ H→D.nx σ H):
  ∃W:Nat→Nat→St→Hp→Prop,(∃m,W 0 m σ H)∧∀i m σ H,W i m σ H→
   ((ItS z).stop i H∧D.nx σ H)∨((ItS z).go i H∧∃N:St→Hp→Prop,(∀σ' H',N σ' H'→∃m',m'<m∧W (i+1) m' σ' H')∧∀x H',(ItS z).yld i H x H'→g x σ H' fun σ2 H2=>tb { D with nx:=N,ct:=N,bk:=D.nx } σ2 H2):=by
 refine⟨fun i m σ H=>m=z.cps.size-i∧i≤z.cps.size∧Pv i σ H,⟨z.cps.size,by simp,Nat.zero_le _,h0⟩,?_⟩
 rintro i m σ H ⟨rfl,hi,p⟩
 by_cases hlt:i<z.cps.size
 ·refine .inr ⟨hlt,Pv (i+1),fun σ' H' p'=>⟨z.cps.size-(i+1),by omega,rfl,hlt,p'⟩,fun x H' y=>?_⟩
  obtain⟨e,c,ec,y⟩:=y
  subst e y
  exact hs i c σ _ ec p
 ·have e:i=z.cps.size:=by omega
  subst e
  exact .inl ⟨Bg _,hd σ H p⟩
end
end L2
namespace OD
open PySem PySem.Spec PyProof.Rows L2
section
variable{X:Cx}{fr:Fr}{te:DTE}{pos:Pos}
def O2(j:Nat)(te:DTE)(tb:DTS):DTS:=fun D ρ=>te ρ fun d=>∃(x:Str)(Pv:Nat→DS→Prop),d=.str x∧x.cps.all (· < 128)=true∧Pv 0 ρ∧
 (∀i c ρ',x.cps[i]? = some c→Pv i ρ'→tb { D with nx:=Pv (i+1),ct:=Pv (i+1),bk:=D.nx } (ρ'.set j (.some (.str ⟨#[c]⟩))))∧∀ρ',Pv x.cps.size ρ'→D.nx ρ'
theorem W_{j:Nat}{x:Str}{a:Expr}{body:List Stmt}{tb:DTS}{px:Pos}(hc:X.calm=true)(hN:X.N.Nodup)(hi:X.N[j]? = some x)(hx:Loc X.env.scope x)(hp:PassesOwn (model X.prog X.w) X.A X.env X.xe)
  (h:DE X a te) (hb:DSs X fr body tb) (hs:∀x,foldedSetIterable a X.env x=pure x:=by intro _;rfl)
  (hf:X.fn x=true∨X.env.scope.names.lookup x=some .local:=by walk_at "f"):DSt X fr (.For (.Name x px) a body [] pos) (O2 j te tb):=by
 obtain⟨tt,p,l⟩:=h
 obtain⟨tbs,p2,l2⟩:=hb
 refine⟨_,wR hp hc (UU p) (z4 hN hi hx hf) p2 hs,fun W0 G ρ σ W D D' at_ s h=>l ρ σ W _ at_.rl h _ fun d v W1 s1 i1 zz=>?_⟩
 obtain⟨z,Pv,ed,hz,h0,ht,hd⟩:=zz
 subst ed
 have hg:Same G W1.g:=at_.gs.trans s1.g
 refine⟨z,is_str.mp i1,hz,WY (fun i=>InL X.K (Zx X) W0 W1 (Pv i)) ⟨ρ,W1,rfl,(at_.step s1).now,h0⟩ ?_ ?_⟩
 ·rintro i c σ' _ ec ⟨ρ',W2,rfl,a2,hp2⟩
  exact l2 W0 W1.g _ _ W2 { D with nx:=Pv (i+1),ct:=Pv (i+1),bk:=D.nx } _ (a2.set j (is_str.mpr rfl)) (yD s hg) (ht i c ρ' ec hp2)
 ·rintro σ' _ ⟨ρ',W2,rfl,a2,hp2⟩
  exact s.nx ρ' σ' W2 (a2.weak hg) (hd ρ' hp2)
end
open PySem
local macro_rules | `(tactic| walk_at "ws") => `(tactic| any_goals (first | assumption | wp_step))
def zQ(c:Nat):Prop:=48≤c∧c≤57
def dgs(l:List Nat):Nat:=l.foldl (fun a c=>a*10+(c-48)) 0
def dgVal:List Nat→Int
 | 45::r=>-(dgs r:Int)
 | l=>dgs l
def Numl(l:List Nat):Prop:=l=[48]∨∃c r,49≤c∧c≤57∧(∀x∈r,zQ x)∧(l=c::r∨l=45::c::r)
def Numl.mem{l:List Nat}(h:Numl l):∀c∈l,45≤c∧c≤57:=by
 rcases h with rfl|⟨c,r,c1,c2,hr,rfl|rfl⟩
 ·intro c hc
  rw[By.mp hc];decide
 ·intro x hx
  rcases Bk.mp hx with rfl|hx
  ·omega
  ·have:=hr x hx
   unfold zQ at this;omega
 ·intro x hx
  rcases Bk.mp hx with rfl|hx
  ·decide
  rcases Bk.mp hx with rfl|hx
  ·omega
  ·have:=hr x hx
   unfold zQ at this;omega
def ten{c:Nat}(h:zQ c):c=48∨c=49∨c=50∨c=51∨c=52∨c=53∨c=54∨c=55∨c=56∨c=57:=by
 unfold zQ at h;omega
theorem vz{p:Nat→Bool}:∀{l:List Nat},(∀x∈l,p x=true)→l.takeWhile p=l
 | [],_=>rfl
 | c::r,h=>by rw[List.takeWhile_cons,if_pos (h c Bi),vz fun x hx=>h x (Bd _ hx)]
theorem kF{f:Array Nat×Bool→Nat→Option (Array Nat×Bool)}(hf:∀a b c,zQ c→f (a,b) c=some (a.push (c-48),true)):∀(l:List Nat)(a:Array Nat)(b:Bool),(∀x∈l,zQ x)→l.foldlM f (a,b)=some (a++(l.map (· - 48)).toArray,b || !l.isEmpty)
 | [],a,b,_=>by simp
 | c::r,a,b,h=>by
  rw[List.foldlM_cons,hf a b c (h c Bi)]
  show r.foldlM f (a.push (c-48),true)=_
  rw[kF hf r _ _ fun x hx=>h x (Bd _ hx)]
  simp
def ik{p:Nat→Bool}(hp:∀c,zQ c→p c=false):∀(l:List Nat),(∀x∈l,zQ x)→l≠[]→(l.reverse.dropWhile p).reverse=l:=fun l h hn=>by
 cases e:l.reverse with
 | nil=>simp at e;exact absurd e hn
 | cons c r=>
  rw[List.dropWhile_cons,hp c (h c (by rw[←BE,e];exact Bi))]
  simp only[Bool.false_eq_true,if_false]
  rw[←e,List.reverse_reverse]
theorem qS{N:Type}{R inv lib:N}{tl:Nat→N}{val:Int→N}{p:Nat→Bool}{f:Array Nat×Bool→Nat→Option (Array Nat×Bool)}{g:Array Nat×Bool→Option (Array Nat)}{cs:List Nat}{neg:Bool}
  (hR:R=(match(cs.reverse.dropWhile p).reverse.foldlM f (#[],false) >>= g with
   | none=>inv
   | some ds=>if(![2,4,8,16,32].contains 10&&0 != 0&&decide (ds.size>0))=true then tl ds.size else if(10==10&&decide (ds.size>6000))=true then lib else
    if(false&&ds.foldl (fun acc d=>acc*10+d) 0 != 0)=true then inv else val (if neg=true then -((ds.foldl (fun acc d=>acc*10+d) 0:Nat):Int) else((ds.foldl (fun acc d=>acc*10+d) 0:Nat):Int))))
  (hf:∀a b c,zQ c→f (a,b) c=some (a.push (c-48),true)) (hp:∀c,zQ c→p c=false) (hg:∀a,g (a,true)=some a) (hd:∀x∈cs,zQ x) (hn:cs≠[]) (hl:cs.length≤640):
  R=val (if neg=true then -(dgs cs:Int) else dgs cs):=by
 rw[hR,ik hp cs hd hn,kF hf cs _ _ hd]
 have e:(false || !cs.isEmpty)=true:=by cases cs<;>first|rfl|exact absurd rfl hn
 rw[e]
 show(match g (#[]++(cs.map (· - 48)).toArray,true) with|none=>inv|some ds=>_)=_
 rw[hg]
 have sz:(#[]++(cs.map (· - 48)).toArray:Array Nat).size=cs.length:=by simp
 have fo:(#[]++(cs.map (· - 48)).toArray:Array Nat).foldl (fun acc d=>acc*10+d) 0=dgs cs:=by simp[dgs,List.foldl_map]
 show(if(![2,4,8,16,32].contains 10&&0 != 0&&decide ((#[]++(cs.map (· - 48)).toArray:Array Nat).size>0))=true then _ else _)=_
 rw[if_neg (by simp),if_neg (by rw[sz];simp;omega),if_neg (by simp),fo]
theorem meets_int_new_str(x:Str)(t:Tok)(hx:Numl x.cps.toList)(hl:x.cps.toList.length≤640):
  Meets (Builtin.«int.__new__» ⟨[.type "int",.str x t],[]⟩) (Made.int (dgVal x.cps.toList)).spec:=
 Meets.of_wp fun prog w A R s h=>by
  obtain⟨hp,g,d,tk,os⟩:=s
  have hm:=hx.mem
  have ha:x.cps.all (· < 128)=true:=by
   rw[←Array.all_toList,Bs]
   intro c hc
   have:=hm c hc
   exact decide_eq_true (by omega)
  have hz:x.cps.toList.takeWhile (· != 0)=x.cps.toList:=vz fun c hc=>by
   have:=hm c hc
   simp
   omega
  clear hm
  have f1:=F.conv_sub_int
  have f2:=F.madeHere_int
  have f3:typeLookup (.type "str") "__int__"=pure none:=by rw[typeLookup_type,builtinLookup_eq_fast];kernel_rfl
  have f4:typeLookup (.type "str") "__index__"=pure none:=by rw[typeLookup_type,builtinLookup_eq_fast];kernel_rfl
  have f5:typeLookup (.type "str") "__trunc__"=pure none:=by rw[typeLookup_type,builtinLookup_eq_fast];kernel_rfl
  iterate 48 walk_at "ws"
  simp only[ha,if_true]
  repeat walk_at "ws"
  simp only[hz,hl,if_true]
  repeat walk_at "ws"
  generalize x.cps.toList=l at *
  rcases hx with rfl|⟨c,r,c1,c2,hr,rfl|rfl⟩
  ·split
   ·rename_i heq
    injection heq
   ·rename_i heq
    injection heq
   ·rename_i heq
    injection heq with heq
    subst heq
    repeat walk_at "ws"
    exact⟨_,rfl,h⟩
   ·rename_i heq
    injection heq
  all_goals
   have nn:c=49∨c=50∨c=51∨c=52∨c=53∨c=54∨c=55∨c=56∨c=57:=by omega
   have hd:∀x∈c::r,zQ x:=fun x hx=>by
    rcases Bk.mp hx with rfl|hx
    ·exact⟨by omega,by omega⟩
    ·exact hr x hx
   have hl':(c::r).length≤640:=by simp only[List.length_cons]at hl ⊢; omega
  ·have hv:(if false=true then -(dgs (c::r):Int) else dgs (c::r))=dgVal (c::r):=by
    rcases nn with rfl|rfl|rfl|rfl|rfl|rfl|rfl|rfl|rfl<;>rfl
   split
   all_goals
    rename_i heq
    have e:=(qS (neg:=false) (cs:=c::r) (by rcases nn with rfl|rfl|rfl|rfl|rfl|rfl|rfl|rfl|rfl<;>rfl) (fun a b c h=>by rcases ten h with rfl|rfl|rfl|rfl|rfl|rfl|rfl|rfl|rfl|rfl<;>rfl) (fun c h=>by rcases ten h with rfl|rfl|rfl|rfl|rfl|rfl|rfl|rfl|rfl|rfl<;>rfl) (fun a=>rfl) hd (fun z=>nomatch z) hl').symm.trans heq
   ·injection e
   ·injection e
   ·injection e with e
    rw[hv]at e
    subst e
    repeat walk_at "ws"
    exact⟨_,rfl,h⟩
   ·injection e
  ·split
   all_goals
    rename_i heq
    have e:=(qS (neg:=true) (cs:=c::r) (by rcases nn with rfl|rfl|rfl|rfl|rfl|rfl|rfl|rfl|rfl<;>rfl) (fun a b c h=>by rcases ten h with rfl|rfl|rfl|rfl|rfl|rfl|rfl|rfl|rfl|rfl<;>rfl) (fun c h=>by rcases ten h with rfl|rfl|rfl|rfl|rfl|rfl|rfl|rfl|rfl|rfl<;>rfl) (fun a=>rfl) hd (fun z=>nomatch z) hl').symm.trans heq
   ·injection e
   ·injection e
   ·injection e with e
    subst e
    repeat walk_at "ws"
    exact⟨_,rfl,h⟩
   ·injection e
end OD
namespace L2
open PySem PySem.Spec PyProof.Rows
section
variable{X:Cx}
def oR:wH X (.type "int") (fun xs H Q=>∃z,xs=[.str z]∧OD.Numl z.cps.toList∧z.cps.toList.length≤640∧Q (.int (OD.dgVal z.cps.toList)) H):=by
 intro Aa s σ H xs us Q I r h
 obtain⟨z,rfl,hn,hl,q⟩:=h
 obtain⟨t,rfl⟩:=r.oneS
 exact call_int_1 (OD.meets_int_new_str z t hn hl) ⟨rfl,.int _,H,I.tok _,⟨_,rfl⟩,q⟩
theorem qE:∀{ts:List Str}{us:List Value},Vals (ts.map V.str) us→∃l,us=strValues l∧l.map (·.1)=ts
 | [],us,h=>by cases h;exact⟨[],rfl,rfl⟩
 | x::ts,us,h=>by
  cases h with
  | cons r h=>
   obtain⟨t,rfl⟩:=r
   obtain⟨l,rfl,e⟩:=qE h
   exact⟨(x,t)::l,rfl,by rw[B1,e]⟩
def WN:MtR X "str.join" (fun x vs H Q=>∃z p ts,x=.str z∧vs=[.ref p]∧SqL X.K H p (ts.map V.str)∧JoinOk z ts=true∧Q (.str (Txt.join z ts)) H):=by
 intro Aa s σ H x vs v us Q I rx rv h
 obtain⟨z,p,ts,rfl,rfl,hq,hok,q⟩:=h
 obtain⟨t,rfl⟩:=rx
 obtain⟨u,rfl,ru⟩:=rv.one
 cases ru
 obtain⟨its,r,pl,hz⟩:=I.list hq
 obtain⟨l,rfl,rfl⟩:=qE r
 exact SC.join pl.isList rfl hok fun t' k=>⟨.str _,H,I.tok _,⟨_,rfl⟩,q⟩
theorem qG:∀(tk:Nat)(ts:List Str),Vals (ts.map V.str) (strsFrom tk ts)
 | _,[]=>.nil
 | tk,x::r=>.cons ⟨tk,rfl⟩ (qG (tk+1) r)
def dD:MtR X "str.split" (fun x vs H Q=>∃z y,x=.str z∧vs=[.str y]∧(y.length==0)=false∧z.length≤100000∧∀p,H p=none→Q (.ref p) (upd H p (.lst ((Txt.split z y).map V.str)))):=by
 intro Aa s σ H x vs v us Q I rx rv h
 obtain⟨z,y,rfl,rfl,hy,hz,q⟩:=h
 obtain⟨t,rfl⟩:=rx
 obtain⟨u,rfl⟩:=rv.oneS
 have hs:z.length≤sizeLine:=by rw[sizeLine_eq];omega
 have q:=q _ I.fresh
 unfold Txt.split at q
 cases h1:(decide (z.length<y.length)||decide (Builtin.Str.strKind z<Builtin.Str.strKind y))
 ·rw[h1,if_neg Ba]at q
  cases hf:(Builtin.Str.occurrences z y 0 z.length (z.length+1)).isEmpty
  ·rw[hf,if_neg Ba]at q
   have hn:(Builtin.Str.partsBetween z (Builtin.Str.occurrences z y 0 z.length (z.length+1)) y.length).length≤sizeLine:=by
    rw[length_partsBetween,sizeLine_eq]
    have:=StrLaws.occ_length_le z y 0 z.length (z.length+1)
    omega
   refine call_meets PySem.F.slot_str_split (typeIs_str s z t) PySem.F.entry_str_split (PySem.F.args_str_split_2 _ _) (meets_str_split_sep z y t u h1 hy hf hs hn) ?_
   exact⟨.ref _,_,I.lnew (qG _ _) (by rw[A'];exact hn),rfl,q⟩
  ·rw[hf,if_pos rfl]at q
   refine call_meets PySem.F.slot_str_split (typeIs_str s z t) PySem.F.entry_str_split (PySem.F.args_str_split_2 _ _) (meets_str_split_not_found z y t u h1 hy hf) ?_
   exact⟨.ref _,_,I.lnew (its:=[Value.str z t]) (t':=s.toks) (ys:=[V.str z]) (.cons ⟨t,rfl⟩ .nil) (by rw[sizeLine_eq];show 1≤16777216;decide),rfl,q⟩
 ·rw[h1,if_pos rfl]at q
  refine call_meets PySem.F.slot_str_split (typeIs_str s z t) PySem.F.entry_str_split (PySem.F.args_str_split_2 _ _) (meets_str_split_cannot_occur z y t u h1) ?_
  exact⟨.ref _,_,I.lnew (its:=[Value.str z t]) (t':=s.toks) (ys:=[V.str z]) (.cons ⟨t,rfl⟩ .nil) (by rw[sizeLine_eq];show 1≤16777216;decide),rfl,q⟩
end
end L2
namespace OD
open PySem PySem.Spec PyProof.Rows L2
section
variable{X:Cx}{a b e:Expr}{ta tb:DTE}{p pos p0:Pos}{x:Str}
def ml{y:Str}(hg:Gl X x)(hm:∃tk,X.mg x=some (.str y tk))(hd:ug x:=by decide):DE X (.Name x pos) (dC (.str y)):=by
 obtain⟨tk,hm⟩:=hm
 exact Vn hg hm hd
def OY(ta:DTE):DTE:=fun ρ Q=>ta ρ fun d=>∃x:Str,d=.str x∧Numl x.cps.toList∧x.cps.toList.length≤640∧Q (.int (dgVal x.cps.toList))
def Vm(hg:Gl X "int")(hm:X.mg "int"=none)(ha:DE X a ta)(hs:starEach [a] X.env=(false,eval a X.env)::starEach [] X.env:=by rfl)(hpl:K' X.env pos []:=by rfl):
  DE X (.Call (.Name "int" p0) [a] [] pos) (OY ta):=by
 obtain⟨te,p1,l1⟩:=ha
 refine⟨_,uL oR hg hm iD (zB p1 zS hs) (by decide) (by decide) hs hpl,fun ρ σ H Q r h R k=>l1 ρ σ H _ r h _ fun d v H1 s1 i1 zz=>?_⟩
 obtain⟨x,ed,hn,hl,q⟩:=zz
 subst ed
 exact⟨x,by rw[is_str.mp i1],hn,hl,k _ _ H1 s1 (is_int.mpr rfl) q⟩
variable{apos cpos:Pos}
def OV(ta tb:DTE):DTE:=fun ρ Q=>ta ρ fun d=>∃x,d=.str x∧tb ρ fun e=>∃ts:List Str,yK e=some (ts.map Dt.str)∧JoinOk x ts=true∧Q (.str (Txt.join x ts))
theorem mw{K:A_}{H:Hp}:∀{ts:List Str}{xs:List V},AllIs K H (ts.map Dt.str) xs→xs=ts.map V.str
 | [],xs,h=>allIs_nil.mp h
 | x::ts,xs,h=>by
  obtain⟨v,r,rfl,h1,h2⟩:=allIs_cons.mp h
  rw[mw h2,is_str.mp h1]
  rfl
def kO(ha:DE X a ta)(hb:DE X b tb)(hbase:attributeBase a "join" X.env (eval a X.env)=eval a X.env:=by rfl)
  (hfew:((backTo cpos (starEach [b] X.env)).all (fun x=>!x.1)&&(backToKw cpos (keywordEach [] X.env)).all (fun x=>x.1.isSome)
   && decide ([b].length+([]:List Keyword).length+(if([]:List Keyword).isEmpty then 0 else 1)<30))=true:=by rfl)
  (hline:(apos.endLine==cpos.line)=true:=by rfl) (hs:starEach [b] X.env=(false,eval b X.env)::starEach [] X.env:=by rfl) (hpl:K' X.env cpos []:=by rfl):
  DE X (.Call (.Attribute a "join" apos) [b] [] cpos) (OV ta tb):=by
 obtain⟨te,p1,l1⟩:=ha
 obtain⟨tf,p2,l2⟩:=hb
 refine⟨_,sY PySem.F.plainAttrs_str PySem.F.slot_str_join PySem.F.type_str_join WN p1 (zB p2 zS hs) hbase hfew hline hs hpl,fun ρ σ H Q r h R k=>l1 ρ σ H _ r h _ fun d v H1 s1 i1 zz=>?_⟩
 obtain⟨x,ed,q1⟩:=zz
 subst ed
 obtain rfl:=is_str.mp i1
 refine⟨rfl,l2 ρ σ H1 _ (r.mono s1) q1 _ fun e u H2 s2 i2 zz=>?_⟩
 obtain⟨ts,ee,hok,q2⟩:=zz
 obtain⟨p,xs,rfl,h1,h2⟩:=ox i2 ee
 obtain rfl:=mw h2
 exact⟨x,p,ts,rfl,rfl,h1,hok,k _ _ H2 (s1.trans s2) (is_str.mpr rfl) q2⟩
def QN(ta tb:DTE):DTE:=fun ρ Q=>ta ρ fun d=>∃x,d=.str x∧x.length≤100000∧tb ρ fun e=>∃y,e=.str y∧(y.length==0)=false∧Q (.lst ((Txt.split x y).map Dt.str))
theorem nc{K:A_}{H:Hp}:∀ts:List Str,AllIs K H (ts.map Dt.str) (ts.map V.str)
 | []=>allIs_nil.mpr rfl
 | x::ts=>allIs_cons.mpr ⟨_,_,rfl,is_str.mpr rfl,nc ts⟩
def rR(ha:DE X a ta)(hb:DE X b tb)(hbase:attributeBase a "split" X.env (eval a X.env)=eval a X.env:=by rfl)
  (hfew:((backTo cpos (starEach [b] X.env)).all (fun x=>!x.1)&&(backToKw cpos (keywordEach [] X.env)).all (fun x=>x.1.isSome)
   && decide ([b].length+([]:List Keyword).length+(if([]:List Keyword).isEmpty then 0 else 1)<30))=true:=by rfl)
  (hline:(apos.endLine==cpos.line)=true:=by rfl) (hs:starEach [b] X.env=(false,eval b X.env)::starEach [] X.env:=by rfl) (hpl:K' X.env cpos []:=by rfl):
  DF X (.Call (.Attribute a "split" apos) [b] [] cpos) (QN ta tb):=by
 obtain⟨te,p1,l1⟩:=ha
 obtain⟨tf,p2,l2⟩:=hb
 refine⟨_,sY PySem.F.plainAttrs_str PySem.F.slot_str_split PySem.F.type_str_split dD p1 (zB p2 zS hs) hbase hfew hline hs hpl,fun ρ σ H Q r h R k=>l1 ρ σ H _ r h _ fun d v H1 s1 i1 zz=>?_⟩
 obtain⟨x,ed,hl,q1⟩:=zz
 subst ed
 obtain rfl:=is_str.mp i1
 refine⟨rfl,l2 ρ σ H1 _ (r.mono s1) q1 _ fun e u H2 s2 i2 zz=>?_⟩
 obtain⟨y,ee,hy,q2⟩:=zz
 subst ee
 obtain rfl:=is_str.mp i2
 refine⟨x,y,rfl,rfl,hy,hl,fun p hp=>?_⟩
 exact k _ p _ (H2.mine p _ (H2.sub.free hp)) ((s1.trans s2).trans (ud hp _)) ((s1.trans s2).h.free hp) zr (H2.sub.free hp) (nc _) q2
end
end OD
namespace L2
open PySem PySem.Spec PyProof.Rows
structure bj(P:Program)(w:World)(stack:List Env)(H:Hp)(h0:Heap)(H':Hp)(e:Addr)(cls:Value)(L:Addr)(h:Heap):Prop where
 ex:∃B a0,Heap.HeldW B stack e cls a0 L h∧(∀b o,h0.get? b=some o→H b=none→b∉frs stack→B.get? b=some o)∧(∀b o,h0.get? b=some o→b∉frs stack→∃o',B.get? b=some o')∧HOk P w H' B
 slot:∀b o,h0.get? b=some o→b∈frs stack→∃sl,h.get? b=some { o with slots:=sl }
 free:∀b o,h0.get? b=some o→H b=none→H' b=none
 tups:∀b xs,H b=some (.tup xs)→H' b=some (.tup xs)
 frzs:∀b o u,H b=some (.frz o u)→H' b=some (.frz o u)
 tbls:∀b ps,H b=some (.tbl ps)→∃more,H' b=some (.tbl (ps++more))
 new:h0.get? e=none
structure VL(P:Program)(w:World)(stack:List Env)(H:Hp)(h0:Heap)(H':Hp)(e:Addr)(cls:Value)(L:Addr)(h:Heap):Prop extends bj P w stack H h0 H' e cls L h where
 chn:∃n,Chn h n (.ref e)
def K2.sameBut{h h':Heap}{C:Addr}(hC:∃m,h.Ns C m)(sb:Heap.SameBut C h h'):K2 h h':=fun b o vs hb hd=>by
 obtain⟨m,oC,es,ep,hoC,hdC,_⟩:=hC
 refine⟨o,vs,(sb.2 b fun z=>?_).trans hb,hd,rfl⟩
 rw[z,hoC]at hb
 cases hb
 rw[hdC]at hd
 cases hd
def qW{α:Type}(what:String)(e:Value)(env:Env):Kp2 (PySem.passOn what e env:Sem α):=by
 unfold PySem.passOn
 refine zI (wW _ _) fun _=>xZ (zI (xD _) fun _=>?_) ?_
 all_goals exact zI (xi _ _) fun _=>dM _
def si{e:Value}{env env':Env}(h:env'.frame=env.frame):noteFrame e env'=noteFrame e env:=by
 unfold noteFrame PySem.frameOf
 rw[h]
def p8{α:Type}{what:String}{e:Value}{env env':Env}(h:env'.frame=env.frame):(PySem.passOn what e env':Sem α)=PySem.passOn what e env:=by
 unfold PySem.passOn
 rw[h]
section
variable{h:Heap}{e L:Addr}{cls:Value}
theorem FunFrames.less{h h' B B':Heap}(k:∀b,B.get? b=none→B'.get? b=none):∀{l:List Env},(∀b∈l.filterMap (·.frame),h'.get? b=h.get? b)→h.FunFrames B l→h'.FunFrames B' l
 | [],_,_=>trivial
 | env::yG,hk,⟨h1,⟨L,o,h2,h3,h4,h5⟩,h6⟩=>by
  have hm:L∈(env::yG).filterMap (·.frame):=BO.mpr ⟨env,Bi,h2⟩
  refine⟨h1,⟨L,o,h2,k L h3,(hk L hm).trans h4,h5⟩,FunFrames.less k (fun b hb=>hk b ?_) h6⟩
  obtain⟨x,x1,x2⟩:=BO.mp hb
  exact BO.mpr ⟨x,Bd _ x1,x2⟩
theorem vG{α:Type}{M:Model}{A:Around}{E:cp}{s:Shared}{base:Heap}{l:List Env}{env:Env}{a0:Value}{what:String}{Q:α→Shared→Prop}(hf:env.frame=some L)(hh:Heap.HeldW base l e cls a0 L s.heap)
  (hE:∀h',Heap.HeldW base l e cls a0 L h'→(∀b o,s.heap.get? b=some o→(∀vs,o.data≠.fields vs)→h'.get? b=some o)→E (.ref e) { s with heap:=h' }):wpAny M A (PySem.passOn what (.ref e) env:Sem α) Q E s:=by
 obtain⟨f1,f2,hl,oe,vs,T,oT,ts,he,hcls,hd,h1,hnT,hTe,hT,hdT,h3⟩:=hh
 have hsz3:3<ts.size:=(Array.getElem?_eq_some_iff.mp h3).1
 have other:∀b,b≠T→(s.heap.update T (Obj.mapFields (·.setIfInBounds 3 (rawInt L)))).get? b=s.heap.get? b:=fun b hb=>Heap.get?_update_other _ _ (Ne.symm hb)
 have noRecord:∀b o,s.heap.get? b=some o→(∀vs,o.data≠.fields vs)→b≠T:=fun b o hb hnf q=>by
  rw[q,hT]at hb;injection hb with hb;subst hb;exact hnf ts hdT
 unfold PySem.passOn setFlight
 refine wpAny_bind (wpAny_field he hd h1 ?_)
 rw[if_neg (show ¬((Value.ref T==Value.none)=true) from by simp)]
 refine wpAny_bind (wpAny_bind (wpAny_field he hd h1 ?_))
 rw[if_pos (show(Value.ref T != Value.none)=true from by simp),hf]
 refine wpAny_setField hT hdT hsz3 (wpAny_throw (hE _ ?_ fun b o hb hnf=>(other b (noRecord b o hb hnf)).trans hb))
 refine⟨fun b o hbo=>(other b fun q=>by rw[q,hnT]at hbo;cases hbo).trans (f1 b o hbo),f2,hl.of_keeps fun b o hb hnf=>⟨o,(other b (noRecord b o hb hnf)).trans hb,rfl⟩,?_⟩
 exact⟨oe,vs,T,_,_,(other e (Ne.symm hTe)).trans he,hcls,hd,h1,hnT,hTe,Heap.get?_update_self _ hT (Obj.isFreed_of_fields (Obj.data_mapFields hdT _)),Obj.data_mapFields hdT _,by simp[hsz3]⟩
def HeldW.letGo{base h h':Heap}{l:List Env}{a0:Value}{C:Addr}(hh:Heap.HeldW base l e cls a0 L h)(hC:∃m,h.Ns C m)(hl:C∉l.filterMap (·.frame))(sb:Heap.SameBut C h h'):Heap.HeldW (PySem.W.hideAll base [C]) l e cls a0 L h':=by
 obtain⟨f1,f2,f3,oe,vs,T,oT,ts,he,hcls,hd,h1,hnT,hTe,hT,hdT,h3⟩:=hh
 obtain⟨m,oC,es,ep,hoC,hdC,_⟩:=hC
 have notC:∀b o vs,h.get? b=some o→o.data=.fields vs→b≠C:=fun b o vs hb hv z=>by
  rw[z,hoC]at hb
  cases hb
  rw[hdC]at hv
  cases hv
 have hn:∀b,base.get? b=none→(PySem.W.hideAll base [C]).get? b=none:=fun b z=>by
  cases q:(PySem.W.hideAll base [C]).get? b with
  | none=>rfl
  | some o=>rw[PySem.W.of_hideAll _ q]at z;cases z
 refine⟨fun b o q=>?_,hn e f2,FunFrames.less hn (fun b hb=>sb.2 b fun z=>hl (z ▸ hb)) f3,oe,vs,T,oT,ts,(sb.2 e (notC e oe vs he hd)).trans he,hcls,hd,h1,hn T hnT,hTe,(sb.2 T (notC T oT ts hT hdT)).trans hT,hdT,h3⟩
 have q':=PySem.W.of_hideAll _ q
 refine(sb.2 b fun z=>?_).trans (f1 b o q')
 rw[PySem.W.hideAll_none [C] (By.mpr z)]at q
 cases q
end
section
variable{X:Cx}{Aa:am}{σ:St}{H H':Hp}{s s':Shared}{M:Model}{E:cp}{e:Addr}{cls:Value}
theorem nZ{Q:Unit→Shared→Prop}(I:Inv X Aa σ H s)(hstk:X.stack=X.env::X.outer)(hf:X.env.frame=some X.env.locals)(f:VL X.prog X.w X.stack X.H₀ X.s₀.heap H' e cls X.env.locals s'.heap)
  (hQ:∀h',tJ X.prog X.w X.outer X.H₀ X.s₀.heap H' e cls h'→Q () { s' with heap:=h' }):wpAny M X.A (leaving X.env (.ref e)) Q E s':=by
 have hfs:frs X.stack=X.env.locals::frs X.outer:=by rw[hstk];unfold frs;rw[List.filterMap_cons,hf]
 have nst:∀b o,X.s₀.heap.get? b=some o→b∉frs X.outer→b∉frs X.stack:=fun b o q nb z=>by
  rw[hfs]at z
  rcases Bk.mp z with z|z
  ·exact I.neL q z
  ·exact nb z
 obtain⟨B,a0,hh,k1,k2,k3⟩:=f.ex
 have hm:=hh.2.2.1
 rw[hstk]at hh
 obtain⟨cn,ch⟩:=f.chn
 refine vy (vT _ _) ?_
 unfold leaving
 refine wpAny_bind (wpAny_noteFrame_againW hf hh.2.2.2 (wpAny_landsW hh fun h' hfl up k2'=>hQ h' ⟨?_,cn,ch.k2 k2'⟩))
 obtain⟨q1,q2,⟨_,_,q3⟩,q4⟩:=hfl
 refine⟨⟨B,a0,⟨q1,q2,q3,q4⟩,fun b o q n nb=>k1 b o q n (nst b o q nb),fun b o q nb=>k2 b o q (nst b o q nb),k3⟩,fun b o q hb=>?_,f.free,f.tups,f.frzs,f.tbls,f.new⟩
 have hb':b∈frs X.stack:=by rw[hfs];exact Bd _ hb
 obtain⟨sl,z⟩:=f.slot b o q hb'
 obtain⟨_,ob,ho,hd⟩:=hm.mem hb'
 rw[z]at ho
 cases ho
 obtain⟨sl',z'⟩:=up b _ z hd
 exact⟨sl',z'⟩
end
end L2
namespace OD
open PySem PySem.Spec PyProof.Rows L2
section
variable{X:Cx}{Aa pins1:am}{σ σ1:L2.St}{H3 H1 H':Hp}{s3 s1 s':Shared}{scope:Scope}{x:Str}{fp:List Addr}{C a:Addr}{cls:Value}
theorem iz(I3:Inv X Aa σ H3 s3)(hex:X.ex=[])(hstk:X.stack=X.env::X.outer)(hf:X.env.frame=some X.env.locals)(hfp:∀b∈fp,xG X Aa H3 b)(I1:Inv (yc X scope x C s3 H3 fp Aa) pins1 σ1 H1 s1)(fl:tJ X.prog X.w X.stack H1 s1.heap H' a cls s'.heap):
  C∉frs X.stack∧∃B a0,Heap.FlyingW B X.stack a cls a0 s'.heap∧(∃m,∀h4,B.StaysIn h4→h4.Ns C m)∧∀h4 h5 h6,Heap.HeldW B X.stack a cls a0 X.env.locals h4→s'.heap.UpToSlots h4→Heap.SameBut C h4 h5→Heap.HeldW (PySem.W.hideAll B [C]) X.stack a cls a0 X.env.locals h6→
   (∀b o,h5.get? b=some o→(∀vs,o.data≠.fields vs)→h6.get? b=some o)→bj X.prog X.w X.stack X.H₀ X.s₀.heap H' a cls X.env.locals h6:=by
 obtain⟨B,a0,flW,k1,k2,k3⟩:=fl.ex
 have nC:C∉frs X.stack:=fun z=>by
  obtain⟨_,ob,ho,_⟩:=I3.stack.mem z
  exact absurd (Bj (Heap.lt_size ho) (show s3.heap.objs.size≤C from I1.ok.above)) (BM _)
 refine⟨nC,B,a0,flW,?_,fun h4 h5 h6 _ up sb hh6 kp=>?_⟩
 ·obtain⟨m,⟨o,es,ep,ho,hdt,hm⟩,_⟩:=I1.loc
  exact⟨m,fun h4 st=>⟨o,es,ep,st C o (k1 C o ho I1.free nC),hdt,hm⟩⟩
 have hfs:frs X.stack=X.env.locals::frs X.outer:=by rw[hstk];unfold frs;rw[List.filterMap_cons,hf]
 have nx:∀b,b∉X.ex:=fun b z=>by rw[hex]at z;cases z
 have sub:∀b,b∉frs X.stack→b∉frs X.outer:=fun b nb z=>nb (by rw[hfs];exact Bd _ z)
 have nfp:∀b o,X.s₀.heap.get? b=some o→b∉fp:=fun b o q hb=>by
  obtain⟨_,_,_,h4,_⟩:=hfp b hb
  rcases h4 with h4|h4
  ·exact nx b h4
  ·exact absurd (Heap.lt_size q) (Nat.not_lt.mpr h4)
 have ab:s3.heap.objs.size≤C:=I1.ok.above
 have neC:∀b o,s3.heap.get? b=some o→b≠C:=fun b o q=>Bl (Bj (Heap.lt_size q) ab)
 have hid:∀b o,B.get? b=some o→b≠C→(PySem.W.hideAll B [C]).get? b=some o:=fun b o q n=>PySem.W.hideAll_get _ q fun z=>n (By.mp z)
 have fC:H' C=none:=by
  obtain⟨m,⟨o,_,_,ho,_⟩,_⟩:=I1.loc
  exact fl.free C o ho I1.free
 refine⟨⟨_,a0,hh6,fun b o q n nb=>?_,fun b o q nb=>?_,?_⟩,fun b o q hb=>?_,fun b o q n=>?_,fun b xs q=>fl.tups b xs (I1.base.tups b xs (I3.base.tups b xs q)),fun b o u q=>fl.frzs b o u (I1.base.frzs b o u (I3.base.frzs b o u q)),fun b ps q=>?_,?_⟩
 ·have q3:=I3.base.keep b o q n (sub b nb) (nx b)
  have n3:=I3.base.free b o q n (nx b)
  have q1:=I1.base.keep b o q3 n3 nb (nfp b o q)
  have n1:=I1.base.free b o q3 n3 (nfp b o q)
  exact hid b o (k1 b o q1 n1 nb) (neC b o q3)
 ·obtain⟨o1,q3⟩:=I3.base.there b o q (nx b)
  obtain⟨o2,q1⟩:=I1.base.there b o1 q3 (nfp b o q)
  obtain⟨o3,z⟩:=k2 b o2 q1 nb
  exact⟨o3,hid b o3 z (neC b o1 q3)⟩
 ·exact k3.part fun b u hb q=>hid b u q fun z=>hb (z ▸ fC)
 ·have hb2:b∈frs X.outer:=by
   rw[hfs]at hb
   rcases Bk.mp hb with z|z
   ·exact absurd z (I3.neL q)
   ·exact z
  obtain⟨l1,q3⟩:=I3.base.slot b o q (I3.ok.frf b hb2) hb2 (nx b)
  obtain⟨l2,q1⟩:=I1.base.slot b _ q3 (I3.stkFree b hb) hb (nfp b o q)
  obtain⟨l3,q2⟩:=fl.slot b _ q1 hb
  obtain⟨_,ob,ho,hd⟩:=flW.2.2.1.mem hb
  rw[q2]at ho
  cases ho
  obtain⟨l4,q4⟩:=up b _ q2 hd
  exact⟨l4,kp b _ ((sb.2 b (neC b _ q3)).trans q4) hd⟩
 ·obtain⟨o1,q3⟩:=I3.base.there b o q (nx b)
  obtain⟨o2,q1⟩:=I1.base.there b o1 q3 (nfp b o q)
  exact fl.free b o2 q1 (I1.base.free b o1 q3 (I3.base.free b o q n (nx b)) (nfp b o q))
 ·obtain⟨m1,e1⟩:=I3.base.tbls b ps q
  obtain⟨m2,e2⟩:=I1.base.tbls b _ e1
  obtain⟨m3,e3⟩:=fl.tbls b _ e2
  exact⟨m1++(m2++m3),by rw[e3];simp only[Array.append_assoc]⟩
 ·cases q:X.s₀.heap.get? a with
  | none=>rfl
  | some o=>
   obtain⟨o1,q3⟩:=I3.base.there a o q (nx a)
   obtain⟨o2,q1⟩:=I1.base.there a o1 q3 (nfp a o q)
   rw[fl.new]at q1;cases q1
end
def XOh(X:Cx)(C:Addr)(H':Hp):Prop:=∀(Aa:am)(σ:L2.St)(H:Hp)(s:Shared)(a:Addr)(s':Shared),Inv X Aa σ H s→s'.os=s.os→AllBare s'.gens→VL X.prog X.w X.stack X.H₀ X.s₀.heap H' a (.ref C) X.env.locals s'.heap→X.xe (.ref a) s'
def RzH(X:Cx)(C:Addr):Prop:=Rz X C∧∀H',Same (Zx X) H'→XOh X C H'
section
variable{P:Program}{w:World}{K:A_}{mg:be}{base:Heap}{N:List Str}{qual:Str}{scope:Scope}{f C:Addr}{cd:Value}{A:Around}{outer:List Env}{s:Shared}{H:Hp}{E:XK}
def i7(h:∀H',Same H H'→E (.ref C) none H'):RzH (yg (CX1 P w) P w K mg base N qual scope f cd A outer s H E) C:=⟨nr h,fun H' z Aa σ H2 s2 a s' I os bare fl=>by
 rw[mG]at z
 exact nZ (X:=yg (CX1 P w) P w K mg base N qual scope f cd A outer s H E) I rfl rfl fl fun h' fl'=>⟨a,C,H',rfl,os.trans I.os,bare,fl',h H' z⟩⟩
end
abbrev TEX:=L2.St→Hp→VK→XK→Prop
def PEX(X:Cx)(e:Expr)(t:TEX):Prop:=∀(Aa:am)(s:Shared)(σ:L2.St)(H:Hp)(Q:VK)(E:XK),Inv X Aa σ H s→t σ H Q E→wpAny (model X.prog X.w) X.A (eval e X.env) (EP X Aa σ Q) (XPx X Aa σ E) s
theorem ge{X:Cx}{k:Nat}{f:Addr}{fd:FuncData}{ps:List Str}{sp:Sp}{x:Str}{p pos:Pos}{e:Expr}{es:List Expr}{t:TA}(F:FnOk X.prog X.w X.K X.mg X.base (CX1 X.prog X.w) k f fd ps sp)(hr:Room k X.A)(hg:Gl X x)(hm:X.mg x=some (.ref f))(hk:PySem.W.keepIn X.K (.ref f)=true)(hb:Binds X.K fd ps [])
  (ha:PA X.nox (e::es) t) (hdb:ug x:=by decide) (he:J' X.env e es:=by rfl) (hpl:K' X.env pos es:=by rfl):
  PEX X (.Call (.Name x p) (e::es) [] pos) (fun σ H Q E=>t σ H fun vs H1=>sp vs H1 Q E):=fun _ _ _ _ _ _ I h=>l8 F hr hg hm hk hb ha I h hdb he hpl
def m_(K:A_)(te:TEX)(Q:V→Hp→Prop)(E:XK):It→Hp→Prop:=fun J H1=>∃a xs,J=Itl K a∧SqL K H1 a xs∧xs.length<sizeLine∧∀D,H1 D=none→∃Pv:Nat→List V→Hp→Prop,
 Pv 0 [] (upd H1 D (.lst []))∧(∀i ys H2,i≤xs.length→Pv i ys H2→SqL K H2 a xs∧H2 D=some (.lst ys)∧ys.length=i)∧
 (∀i v ys H2,xs[i]? = some v→Pv i ys H2→te [some v] H2 (fun y H3=>H3 D=some (.lst ys)∧Pv (i+1) (ys++[y]) (upd H3 D (.lst (ys++[y])))) E)∧∀ys H2,Pv xs.length ys H2→Q (.ref D) H2
section
variable{X:Cx}{Aa:am}{σ:L2.St}{H:Hp}{s:Shared}{scope:Scope}{x:Str}{fp:List Addr}
theorem mt{elt iter:Expr}{px pos:Pos}{a it D:Addr}{xs:List V}{tn:Nat→Heap→Prop}{te:TEX}{E:XK}{R:Result→Shared→Prop}{s₄:Shared}{Pv:Nat→List V→Hp→Prop}{C:Addr}(hc:X.calm=true)(S:qa scope x)
  (he:PEX (yc X scope x C s H fp Aa) elt te) (I:Inv (yc X scope x C s H fp Aa) [] [none] H s₄) (T:sr X.prog X.w X.K (.Name x px) (Itl X.K a) fp it tn) (t0:tn 0 s₄.heap)
  (hfp:∀b∈fp,xG (yc X scope x C s H fp Aa) [] H b) (hx:xs.length<sizeLine)
  (h0:Pv 0 [] H) (hl:∀i ys H2,i≤xs.length→Pv i ys H2→SqL X.K H2 a xs∧H2 D=some (.lst ys)∧ys.length=i)
  (ht:∀i v ys H2,xs[i]? = some v→Pv i ys H2→te [some v] H2 (fun y H3=>H3 D=some (.lst ys)∧Pv (i+1) (ys++[y]) (upd H3 D (.lst (ys++[y])))) E)
  (hRe:∀pins1 σ1 e s',XPx (yc X scope x C s H fp Aa) pins1 σ1 E e s'→notedBy (model X.prog X.w) X.A (compEnv scope C X.env) (fun e s'=>R (.error e) s') e s')
  (hR:∀σ' H' ys s',Inv (yc X scope x C s H fp Aa) [] σ' H' s'→Pv xs.length ys H'→R (.ok .next) s'):
  codeAny (model X.prog X.w) X.A (.compStart (.ListComp elt [⟨.Name x px,iter,[],0⟩] scope pos) 0 (.ref it) (.ref D) (compEnv scope C X.env)) R s₄:=by
 have loop:codeAny (model X.prog X.w) X.A (.compLoop (.ListComp elt [⟨.Name x px,iter,[],0⟩] scope pos) 0 (.ref it) (.ref D) (compEnv scope C X.env)) R s₄:=by
  refine codeAny_compLoop_list (fun n s'=>∃i ys σ' H',n=xs.length+1-i∧i≤xs.length∧Inv (yc X scope x C s H fp Aa) [] σ' H' s'∧tn i s'.heap∧(∀b∈fp,xG (yc X scope x C s H fp Aa) [] H' b)∧Pv i ys H'∧σ'.length=1) ?_ (xs.length+1) ⟨0,[],[none],H,rfl,BY _,I,t0,hfp,h0,rfl⟩
  rintro n s' ⟨i,ys,σ',H',rfl,hi,I',tn',hfp',hp,hσ⟩
  obtain⟨q1,q2,q3⟩:=hl i ys H' hi hp
  by_cases hlt:i<xs.length
  ·have g:xs[i]? = some xs[i]:=Bh hlt
   refine wpAny_mono (T.item (yc X scope x C s H fp Aa) rfl rfl rfl hc i [] s' σ' H' (fun _ _=>False) I' hfp' tn' ⟨xs,xs[i],q1,g⟩) (fun r s1 zz=>?_) fun _ _ z=>z.elim
   obtain⟨u,er,hq⟩:=zz
   subst er
   show wpAny (model X.prog X.w) X.A (assign (.Name x px) (compEnv scope C X.env) u) _ _ s1
   intro Γ p hΓ
   have hq':∃v H1,Inv (yc X scope x C s H fp Aa) [] σ' H1 s1∧RelV v u∧(Itl X.K a).yld i H' v H1∧tn (i+1) s1.heap∧∀b∈fp,H1 b=none:=hq Γ p hΓ
   obtain⟨v,H1,I1,rv,⟨eH,yv⟩,tn1,fn1⟩:=hq'
   subst eH
   refine(?_:wpAny (model X.prog X.w) X.A (assign (.Name x px) (compEnv scope C X.env) u) _ _ s1) Γ p hΓ
   have hv:xs[i]? = some v:=yv xs q1
   obtain⟨v0,eσ⟩:∃v0,σ'=[v0]:=by
    match σ',hσ with
    | [v0],_=>exact⟨v0,rfl⟩
   subst eσ
   have hpin:∀b∈fp,∃o,s1.heap.get? b=some o∧∀v,o.data≠.cell v:=T.obj (i+1) s1.heap tn1
   have IP:Inv (yc X scope x C s H fp Aa) (yH fp s1.heap) [v0] H1 s1:=by
    have:=I1.pinned hfp' hpin
    rw[List.nil_append]at this
    exact this
   refine wpAny_mono (z4 (X:=yc X scope x C s H fp Aa) (i:=0) (x:=x) (pos:=px) (by simp[yc]) rfl (.inl S.loc) (.inl rfl) (yH fp s1.heap) s1 [v0] H1 v u (fun σ2 H2=>σ2=[some v]∧H2=H1) IP rv ⟨rfl,rfl⟩) (fun _ s2 h2=>?_) fun _ _ z=>z.elim
   obtain⟨σ2,H2,I2,e1,e2⟩:=h2
   subst e1
   subst e2
   refine wpAny_mono (he (yH fp s1.heap) s2 [some v] H2 _ _ I2 (ht i v ys H2 hv hp)) (fun y s3 h3=>?_) fun e s3 h3=>hRe _ _ e s3 h3
   obtain⟨y',H3,I3,ry,hD,hp3⟩:=h3
   refine wpAny_mono (vk (X:=yc X scope x C s H fp Aa) (yH fp s1.heap) s3 [some v] H3 (.ref D) [y'] (.ref D) [y] (fun _ H4=>H4=upd H3 D (.lst (ys++[y']))) I3 rfl (.cons ry .nil) ⟨D,ys,y',rfl,rfl,hD,by omega,rfl⟩) (fun _ s4 h4=>?_) fun _ _ z=>z.elim
   obtain⟨_,H4,I4,_,e4⟩:=h4
   subst e4
   have pinned:∀b∈fp,∀o,s1.heap.get? b=some o→s4.heap.get? b=some o∧(upd H3 D (.lst (ys++[y']))) b=none:=fun b hb o e=>
    have z:=I4.pin (b,o) (BK _ (wz hb e))
    ⟨z.1,z.2.1⟩
   refine⟨xs.length+1-(i+1),by omega,i+1,ys++[y'],[some v],_,rfl,hlt,I4.pins_of (fun p z=>nomatch z),T.keep _ _ _ tn1 fun b hb o e=>(pinned b hb o e).1,fun b hb=>⟨?_,(hfp' b hb).2⟩,hp3,rfl⟩
   obtain⟨o,e,_⟩:=hpin b hb
   exact(pinned b hb o e).2
  ·have e:i=xs.length:=by omega
   subst e
   refine wpAny_mono (T.done (yc X scope x C s H fp Aa) rfl rfl rfl hc xs.length [] s' σ' H' (fun _ _=>False) I' hfp' tn' ⟨xs,q1,Bg _⟩) (fun r s1 zz=>?_) fun _ _ z=>z.elim
   obtain⟨er,I1⟩:=zz
   subst er
   exact hR σ' H' ys s1 I1 hp
 exact codeAny_compStart_list loop (T.self X.A 0 s₄ _ _ t0 loop)
theorem l5{elt iter:Expr}{px pos:Pos}{te:TEX}{Q:V→Hp→Prop}{EX:XK}{s2:Shared}{it:Addr}{tn:Nat→Heap→Prop}{J:It}{H':Hp}{RR:Value→Env→Result→Shared→Prop}{E:cp}(hc:X.calm=true)(S:qa scope x)
  (hex:X.ex=[]) (hstk:X.stack=X.env::X.outer) (hfr:X.env.frame=some X.env.locals) (hX:∀cls o H',EX cls o H'→∃C,cls=.ref C∧XOh X C H')
  (he:∀C s H fp Aa,PEX (yc X scope x C s H fp Aa) elt te) (I2:Inv X Aa σ H' s2) (T:sr X.prog X.w X.K (.Name x px) J fp it tn) (t0:tn 0 s2.heap) (hfp:∀b∈fp,xG X Aa H' b) (hr:m_ X.K te Q EX J H')
  (hRe:∀D C e s',(∃m,s'.heap.Ns C m∧∀h',Heap.SameBut C s'.heap h'→∀{α:Type}(Q:α→Shared→Prop),wpAny (model X.prog X.w) X.A (PySem.passOn "comprehension.variables-let-go" e (compEnv scope C X.env):Sem α) Q X.xe { s' with heap:=h' })→RR D (compEnv scope C X.env) (.error e) s')
  (hRR:∀D C H3 s',Inv X Aa σ H3 s'→(∃m,s'.heap.Ns C m)→H3 C=none→C≠X.env.locals→X.s₀.heap.objs.size≤C→(∀y c,X.env.cells.lookup y=some c→c≠C)→(∀p∈X.pn++Aa,p.1≠C)→Q (.ref D) H3→
   RR (.ref D) (compEnv scope C X.env) (.ok .next) s'):
  wpAny (model X.prog X.w) X.A (newList []) (fun acc s₃=>wpAny (model X.prog X.w) X.A (newFunctionEnv scope X.env.globals [] [] X.env.qual none .none (some X.env)) (fun cenv s₄=>
   codeAny (model X.prog X.w) X.A (.compStart (.ListComp elt [⟨.Name x px,iter,[],0⟩] scope pos) 0 (.ref it) acc { cenv with scope:=scope }) (RR acc { cenv with scope:=scope }) s₄) E s₃) E s2:=by
 obtain⟨a,xs,rfl,hq,hx,hD⟩:=hr
 obtain⟨Pv,h0,hl,ht,hd⟩:=hD s2.heap.objs.size I2.fresh
 refine wpAny_newObj_type (wpAny_newFunctionEnv S.cell (by intro y hy;simp at hy) (fun h₁ hns₁ hsb₁=>?_) S.kind)
 dsimp only at hns₁ hsb₁ ⊢
 have I3:Inv X Aa σ (upd H' s2.heap.objs.size (.lst [])) { s2 with heap:=s2.heap.push { cls:=.type "list",data:=.seq ([]:List Value).toArray } }:=I2.lnew (its:=[]) (t':=s2.toks) .nil (by show 0≤sizeLine;omega)
 have hob:=T.obj 0 s2.heap t0
 have keep:∀b o,(s2.heap.push { cls:=.type "list",data:=.seq ([]:List Value).toArray }).get? b=some o→h₁.get? b=some o:=fun b o e=>
  hsb₁.extBut b o (Bl (Heap.lt_size e)) (Heap.get?_push_of_some _ e)
 have fp3:∀b∈fp,xG X Aa (upd H' s2.heap.objs.size (.lst [])) b:=fun b hb=>by
  obtain⟨o,e,_⟩:=hob b hb
  exact⟨(zt (Bl (Heap.lt_size e))).trans (hfp b hb).1,(hfp b hb).2⟩
 have IY:=dY (x:=x) (t:=s2.toks+([]:List (Str×Value)).length) I3 S fp3 (fun b hb=>by
  obtain⟨o,e,_⟩:=hob b hb
  exact⟨o,Heap.get?_push_of_some _ e⟩) hns₁ keep
 refine mt (a:=a) (D:=s2.heap.objs.size) (xs:=xs) (Pv:=Pv) (E:=EX) hc S (he _ _ _ _ _) IY T (T.keep _ _ _ t0 fun b hb o e=>keep b o (Heap.get?_push_of_some _ e)) (fun b hb=>?_) hx h0 hl ht (fun pins1 σ1 e s' hxp=>?_) (fun σ' H3 ys s' I' hp=>?_)
 ·obtain⟨f1,f2,f3,f4,f5,f6⟩:=fp3 b hb
  obtain⟨o,e,_⟩:=hob b hb
  refine⟨f1,Bl (Heap.lt_size (Heap.get?_push_of_some _ e)),fun z=>?_,.inl hb,fun y c h=>(by cases h),fun p hp=>?_⟩
  ·rcases Bk.mp (I3.stkSub b z) with q|q
   ·exact f2 q
   ·exact f3 q
  ·rcases Bx.mp hp with q|q
   ·exact f6 p q
   ·cases q
 ·obtain⟨ae,Ce,He,H1,s1,rfl,I1,os,bare,fl,hE⟩:=hxp
  obtain⟨Cx',ec,hxo⟩:=hX _ _ _ hE
  cases ec
  obtain⟨nC,B,a0,flW,⟨m4,hm4⟩,done⟩:=iz I3 hex hstk hfr fp3 I1 fl
  have hfrm:X.A.frames=some (X.env::X.outer):=by rw[←hstk];exact I2.ok.frames
  have flW':=flW
  rw[hstk]at flW'
  show wpAny _ _ (noteFrame (.ref ae) (compEnv scope _ X.env)) _ _ s'
  rw[si (env':=compEnv scope _ X.env) (env:=X.env) rfl]
  obtain⟨cn,ch⟩:=fl.chn
  refine vy (sB _ _) ?_
  refine wpAny_looks_onW hfrm hfr flW' fun h4 hh4 up4 k4=>hRe _ _ _ _ ?_
  rw[←hstk]at hh4
  refine⟨m4,hm4 h4 hh4.1,fun h5 sb {α} Q'=>?_⟩
  rw[p8 (env':=compEnv scope _ X.env) (env:=X.env) rfl]
  refine vy (qW _ _ _) ?_
  exact vG hfr (HeldW.letGo hh4 ⟨m4,hm4 h4 hh4.1⟩ nC sb) fun h6 hh6 kp k6=>hxo _ _ _ _ ae _ I3 (os.trans I1.os) bare ⟨done h4 h5 h6 hh4 up4 sb hh6 kp,cn,((ch.k2 k4).k2 (K2.sameBut ⟨m4,hm4 h4 hh4.1⟩ sb)).k2 k6⟩
 ·obtain⟨m,hn,_⟩:=I'.loc
  refine hRR _ _ H3 s' (dZ I3 fp3 I') ⟨m,hn⟩ I'.free (Nat.ne_of_gt I3.lt) I3.sz (fun y c h z=>?_) (fun p hp z=>?_) (hd ys H3 hp)
  ·obtain⟨v,q⟩:=I3.cell y c h
   exact absurd q.lt (by rw[z];exact BM _)
  ·exact absurd (Heap.lt_size (I3.pin p hp).1) (by rw[z];exact BM _)
def Ehx(X:Cx):XK:=fun cls _ H'=>∃C,cls=.ref C∧XOh X C H'
def UG(X:Cx)(tl:TE)(te:TEX)(i:Nat):TS:=fun D σ H=>tl σ H fun v H1=>∃a,v=.ref a∧(∃xs,SqL X.K H1 a xs)∧m_ X.K te (fun v H2=>n6 i v σ H2 D.nx) (Ehx X) (Itl X.K a) H1
theorem nB{elt iter:Expr}{y:Str}{i:Nat}{px py pos spos:Pos}{tl:TE}{te:TEX}(hc:X.calm=true)(hex:X.ex=[])(hstk:X.stack=X.env::X.outer)(hfr:X.env.frame=some X.env.locals)(S:qa scope x)(hN:X.N.Nodup)(hi:X.N[i]? = some y)(hy:Loc X.env.scope y)(hl:PE X iter tl)(he:∀C s H fp Aa,PEX (yc X scope x C s H fp Aa) elt te)
  (hsw:swapsWith (.ListComp elt [⟨.Name x px,iter,[],0⟩] scope pos) (some (.Name y py)) spos.line X.env=pure true) (hs:∀y,foldedSetIterable iter X.env y=pure y:=by intro _;rfl)
  (hf:X.fn y=true∨X.env.scope.names.lookup y=some .local:=by walk_at "f"):
  PS X (.Assign [.Name y py] (.ListComp elt [⟨.Name x px,iter,[],0⟩] scope pos) spos) (UG X tl te i):=by
 intro Aa s σ H D I h
 rw[exec_Assign_Name_used _ _ _ _ hsw]
 refine wpAny_bind (wpAny_standAt (wpAny_bind ?_))
 show wpAny _ X.A (do let _ ←comprehension (.ListComp elt [⟨.Name x px,iter,[],0⟩] scope pos) scope X.env _ (newList []) false (eval iter X.env) (some (assign (.Name y py) X.env))) _ _ s
 refine wpAny_bind (wpAny_mono (wpAny_comprehension_use (Q:=fun _ s'=>SP X Aa D .next s') rfl hs S.free S.kind S.names (thn (su (tg:=.Name x px) hl Aa s σ H (m_ X.K te (fun v H1=>n6 i v σ H1 D.nx) (Ehx X)) I h) fun v s1 h1=>thn h1 fun itv s2 h2=>?_))
  (fun _ s' hq=>wpAny_pure (wpAny_pure hq)) fun _ _ e=>e)
 obtain⟨it,fp,tn,J,H',rfl,I2,T,t0,hfp,hr⟩:=h2
 refine l5 (RR:=fun acc cenv r s'=>match r with
   | .ok _=>wpAny (model X.prog X.w) X.A (assign (.Name y py) X.env acc) (fun _ s''=>∃m,s''.heap.Ns cenv.locals m∧∀h',Heap.SameBut cenv.locals s''.heap h'→SP X Aa D .next { s'' with heap:=h' }) X.xe s'
   | .error x=>∃m,s'.heap.Ns cenv.locals m∧∀h',Heap.SameBut cenv.locals s'.heap h'→wpAny (model X.prog X.w) X.A (PySem.passOn "comprehension.variables-let-go" x cenv) (fun _ s'=>SP X Aa D .next s') X.xe { s' with heap:=h' }) hc S hex hstk hfr (fun _ _ _ z=>z) he I2 T t0 hfp hr ?_ ?_
 ·rintro D' C e s' ⟨m,hn,hp⟩
  exact⟨m,hn,fun h' sb=>hp h' sb _⟩
 intro A C H3 s' I' ⟨m,hn⟩ hC h1 h2 h3 h4 q
 refine wpAny_assign_Name (qH I' hN hi hy (v:=.ref A) rfl (fun s3 I3 zz=>?_) hf)
 obtain⟨b,hb,hbb⟩:=zz
 have hCb:C≠b:=by
  rcases hbb with e|e
  ·rw[e];exact h1
  ·exact fun z=>h3 y b e z.symm
 exact⟨m,hn.sameBut hb hCb,fun h' hs'=>⟨_,H3,I3.turned (it:=C) (fun b o hb e=>hs'.extBut b o hb e) hC h1 (.inr h2) h3 h4,q⟩⟩
end
section
variable{X:Cx}{fr:Fr}{scope:Scope}{x g:Str}{iter:Expr}{px pv pf pos cpos:Pos}{tl:DTE}{S:z0}{n:Nat}
def QW(X:Cx)(S:z0)(ta:DTE):DTE:=fun ρ Q=>ta ρ fun d=>∃(ds:List Dt)(Pv:Nat→List Dt→Prop),yK d=some ds∧ds.length≤100000∧Pv 0 []∧
 (∀i e es,ds[i]? = some e→Pv i es→S [e] (fun y=>Pv (i+1) (es++[y])) (RzH X))∧∀es,Pv ds.length es→Q (.lst es)
theorem md{y:Str}{i:Nat}{py spos:Pos}(hc:X.calm=true)(hex:X.ex=[])(hstk:X.stack=X.env::X.outer)(hfr:X.env.frame=some X.env.locals)(Sc:l7 scope x=true)(hN:X.N.Nodup)(hi:X.N[i]? = some y)(hy:Loc X.env.scope y)(hl:DE X iter tl)
  (G:DOkX X.prog X.w X.K X.mg X.base n g S) (hr:Room n X.A) (hg:∀C s H fp Aa,Gl (yc X scope x C s H fp Aa) g) (hxd:ug x:=by decide) (hxc:we x:=by decide) (hdb:ug g:=by decide)
  (hsw:swapsWith (.ListComp (.Call (.Name g pf) [.Name x pv] [] cpos) [⟨.Name x px,iter,[],0⟩] scope pos) (some (.Name y py)) spos.line X.env=pure true:=by rfl) (hs:∀y,foldedSetIterable iter X.env y=pure y:=by intro _;rfl)
  (hf:X.fn y=true∨X.env.scope.names.lookup y=some .local:=by walk_at "f"):
  DSt X fr (.Assign [.Name y py] (.ListComp (.Call (.Name g pf) [.Name x pv] [] cpos) [⟨.Name x px,iter,[],0⟩] scope pos) spos) (Uc i (QW X S tl)):=by
 obtain⟨f,fd,ps,hm,hk,hb,F⟩:=G.ex
 obtain⟨tt,p,l⟩:=hl
 have sc:=QY Sc
 refine⟨_,nB (te:=fun σ H Q E=>VQ (iX 0) UA σ H fun vs H1=>z9 X.K S vs H1 Q E) hc hex hstk hfr sc hN hi hy p (fun C s H fp Aa=>ge F hr (hg C s H fp Aa) hm hk hb (zB (yj (i:=0) rfl (.inl sc.loc) hxd hxc) zS) hdb) hsw hs hf,fun W0 G0 ρ σ W D D' a s h=>?_⟩
 refine l ρ σ W _ a.rl h _ fun d v W1 s1 i1 zz=>?_
 obtain⟨ds,Pv,el,hlen,h0,ht,hd⟩:=zz
 obtain⟨aa,xs,rfl,hq,ha⟩:=vS i1 el
 have zx:Same (Zx X) W1.h:=(qN a.rl).trans s1.h
 refine⟨aa,rfl,⟨xs,hq W1 (Same.refl _)⟩,aa,xs,rfl,hq W1 (Same.refl _),by rw[←ha.length];exact BV hlen (by decide),fun D1 hD=>?_⟩
 have gD:W1.g D1=none:=W1.sub.free hD
 refine⟨fun i ys H2=>∃(W2:Vw)(es:List Dt),W2.h=H2∧Same W1.g W2.g∧Same W1.h (fun b=>if b=D1 then none else W2.h b)∧(∀b,W1.h b≠none→W1.g b=none→W2.g b=none)∧W2.h D1=some (.lst ys)∧W2.g D1=none∧AllIs X.K W2.g es ys∧ys.length=i∧Pv i es,?_,?_,?_,?_⟩
 ·refine⟨W1.mine D1 (.lst []) gD,[],rfl,Same.refl _,fun b o q=>?_,fun b _ q=>q,zr,gD,allIs_nil.mpr rfl,rfl,h0⟩
  have hb:b≠D1:=fun e=>by rw[e,hD]at q;cases q
  show(if b=D1 then none else upd W1.h D1 (.lst []) b)=some o
  rw[if_neg hb,zt hb]
  exact q
 ·rintro i ys _ _ ⟨W2,es,rfl,s2,_,_,q1,q2,_,q4,_⟩
  exact⟨hq W2 s2,q1,q4⟩
 ·rintro i v ys _ hv ⟨W2,es,rfl,s2,sh,sn,q1,q2,q3,q4,q5⟩
  obtain⟨e,he,ie⟩:=ha.get' hv
  have zx2:Same (Zx X) W2.h:=fun b o q=>by
   have q':=sh b o (zx b o q)
   have hb:b≠D1:=fun e=>by have z:=zx b o q;rw[e,hD]at z;cases z
   dsimp only at q'
   rwa [if_neg hb]at q'
  refine⟨v,rfl,W2,[e],_,_,rfl,allIs_cons.mpr ⟨v,[],rfl,Is.mono0 s2 ie,allIs_nil.mpr rfl⟩,ht i e es he q5,fun y w W3 s3 i3 q6=>?_,fun C H' s' hC=>⟨C,rfl,hC.2 H' (zx2.trans s')⟩⟩
  have g3:W3.g D1=none:=s3.n D1 (by rw[q1];intro z;cases z) q2
  refine⟨s3.h _ _ q1,W3.mine D1 (.lst (ys++[w])) g3,es++[y],rfl,s2.trans s3.g,fun b o q=>?_,fun b z1 z2=>?_,zr,g3,(q3.mono s3).append (allIs_cons.mpr ⟨w,[],rfl,i3,allIs_nil.mpr rfl⟩),by rw[Bo,q4];rfl,q6⟩
  ·have q':(if b=D1 then none else W2.h b)=some o:=sh b o q
   have hb:b≠D1:=fun e=>by rw[e,hD]at q;cases q
   rw[if_neg hb]at q'
   show(if b=D1 then none else upd W3.h D1 (.lst (ys++[w])) b)=some o
   rw[if_neg hb,zt hb]
   exact s3.h _ _ q'
  ·have hb:b≠D1:=fun e=>z1 (e ▸ hD)
   have z3:=sn b z1 z2
   refine s3.n b ?_ z3
   cases q:W1.h b with
   | none=>exact absurd q z1
   | some o=>
    have q':(if b=D1 then none else W2.h b)=some o:=sh b o q
    rw[if_neg hb]at q'
    rw[q']
    intro z;cases z
 ·rintro ys _ ⟨W2,es,rfl,s2,sh,sn,q1,q2,q3,_,q5⟩
  obtain⟨ds',ed,q6⟩:=hd es (by rw[ha.length];exact q5)
  cases ed
  refine s.nx _ _ W2 (a.own (s1.trans ⟨s2,fun b o q=>?_,sn⟩) i (s1.h.free hD) q1 q2 q3) q6
  have q':(if b=D1 then none else W2.h b)=some o:=sh b o q
  have hb:b≠D1:=fun e=>by rw[e,hD]at q;cases q
  rwa [if_neg hb]at q'
end
section
variable{P:Program}{w:World}{K:A_}{mg:be}{base:Heap}
theorem PP{x qual:Str}{st:Stmt}{f:Addr}{fd:FuncData}{N ps:List Str}{k:Nat}{S:z0}(F:Fun K x qual st f fd)(sc:zh N ps (defScope st))(len:∀ds Q R,S ds Q R→ds.length=ps.length)
  (hbody:∀(cdv:Value)(A:Around)(outer:List Env)(s:Shared)(H:Hp)(E:XK),Room k (A.deeper (envOfC qual (defScope st) s.heap.objs.size f cdv))→∀(ds:List Dt)(Q:Dt→Prop)(R:Addr→Prop),S ds Q R→
   (∀C,R C→RzH (yg (CX1 P w) P w K mg base N qual (defScope st) f cdv A outer s H E) C)→
   ∃t,DSs (yg (CX1 P w) P w K mg base N qual (defScope st) f cdv A outer s H E) .l (defBody st) t∧t { nx:=fun _=>False,rt:=Q } (z_ N.length ds)):FnOk P w K mg base (CX1 P w) (k+1) f fd ps (yd K S):=by
 refine Fun.okX F sc (fun vs H Q E h=>?_) (fun cdv A outer s H vs Q E hr h=>?_)
 ·obtain⟨W,ds,Qd,Ed,_,ia,hS,_⟩:=h
  rw[←ia.length]
  exact len ds Qd Ed hS
 obtain⟨W,ds,Qd,Ed,rfl,ia,hS,kk,ke⟩:=h
 obtain⟨t,⟨ts,p,l⟩,ht⟩:=hbody cdv A outer s W.h E hr ds Qd Ed hS fun C hC=>i7 fun H' z=>ke C H' z hC
 exact⟨ts,p,l W W.g (z_ N.length ds) (start N vs) W { nx:=fun _=>False,rt:=Qd } _ (y0 ia (wJ (BN _))) ⟨fun ρ σ W' a q=>q.elim,fun d v W' s' ⟨es,p,xs,e1,e2,e3,e4,e5,e6⟩ q=>by subst e1;subst e2;exact kk es p xs W' s' e3 e4 e5 e6 q,fun _ _ _ _ q=>q.elim,fun _ _ _ _ q=>q.elim⟩ ht⟩
end
section
variable{X:Cx}{a e:Expr}{tg:Expr}{ta:DTA}{te:DTE}{p0 pos1:Pos}
def OG(ta:DTA):DTI:=fun ρ Q=>ta ρ fun ds=>∃d xs,ds=[d]∧yK d=some xs∧xs.length≤100000∧Q xs.length fun i e=>xs.reverse[i]? = some e
def QB(hg:Gl X "reversed")(hm:X.mg "reversed"=none)(h:DA X [a] ta)(hst:starEach [a] X.env=(false,eval a X.env)::starEach [] X.env:=by rfl)(hpl:K' X.env pos1 []:=by rfl):DI X tg (.Call (.Name "reversed" p0) [a] [] pos1) (OG ta):=by
 obtain⟨te,p,l⟩:=h
 refine⟨_,UV hg hm p hst hpl,fun ρ σ W Q r h R k=>l ρ σ W _ r h _ fun ds vs W1 s1 i1 zz=>?_⟩
 obtain⟨d,xs,ed,el,hl,q⟩:=zz
 subst ed
 obtain⟨v1,rfl,j1⟩:=i1.one
 obtain⟨l1,us,rfl,hq,ha⟩:=vS j1 el
 refine⟨l1,us,rfl,hq W1 (Same.refl _),k _ _ _ W1 s1 hl (fun W2 s2=>⟨fun i hi=>?_,?_⟩) q⟩
 ·rw[ha.length]at hi
  have hv:us.reverse[i]? = some (us.reverse[i]'(by rw[Bz];exact hi)):=Bh _
  refine⟨⟨us,_,rfl,hq W2 s2,hv⟩,fun v' H3 ⟨e1,e2⟩=>⟨W2,Le.refl _,e1.symm,?_⟩⟩
  obtain⟨e,he,ie⟩:=ha.rev.get' (e2 us (hq W2 s2))
  exact⟨e,he,Is.mono0 s2 ie⟩
 ·exact⟨us,rfl,hq W2 s2,by rw[ha.length];exact Bg _⟩
end
end OD
namespace L2
open PySem PySem.Spec PyProof.Rows
def vB:entryFor table "proto.unchain"=some Builtin.«proto.unchain»:=entryFor_of_tree (by kernel_rfl)
section
variable{prog:Program}{w:World}{A:Around}{s:Shared}{h0:Heap}{e:Addr}{R:Result→Shared→Prop}
def mH(k:K2 h0 s.heap)(hn:h0.get? e=none)(hR:R (.ok (.ret .none)) s):∀(n j:Nat)(o slow:Value)(tg:Bool),n≤j→Chn h0 (n+1) o→Chn h0 (j+1) slow→codeAny (model prog w) A (.builtin "proto.unchain" ⟨[.ref e,o,slow,.bool tg],[]⟩) R s:=by
 intro n
 induction n with
 | zero=>
  intro j o slow tg hj ⟨a,ob,vs,x,eo,ho,hd,hx,cx⟩ cs
  subst eo
  cases cx
  obtain⟨o',vs',ho',hd',hx'⟩:=k a ob vs ho hd
  refine codeAny_builtin vB ?_
  unfold Builtin.«proto.unchain»
  refine wpAny_bind (wpAny_field ho' hd' (hx'.trans hx) ?_)
  rw[if_pos (by rfl)]
  show wpAny _ _ (pure (Fin.done (.ret .none))) _ _ _
  exact wpAny_pure hR
 | succ n ih=>
  intro j o slow tg hj ⟨a,ob,vs,x,eo,ho,hd,hx,cx⟩ cs
  subst eo
  obtain⟨o',vs',ho',hd',hx'⟩:=k a ob vs ho hd
  have cx0:=cx
  obtain⟨a2,ob2,vs2,x2,e2,ho2,hd2,hx2,cx2⟩:=cx
  subst e2
  have ne:a2≠e:=fun z=>by rw[z,hn]at ho2;cases ho2
  refine codeAny_builtin vB ?_
  unfold Builtin.«proto.unchain»
  refine wpAny_bind (wpAny_field ho' hd' (hx'.trans hx) ?_)
  rw[if_neg (by simp)]
  rw[if_neg (by simpa using ne)]
  refine wpAny_ite ?_
  split
  ·refine wpAny_bind (wpAny_rule ?_)
   show wpAny _ _ (pure (Fin.done (.ret .none))) _ _ _
   exact wpAny_pure hR
  ·obtain⟨j,rfl⟩:∃j',j=j'+1:=⟨j-1,by omega⟩
   cases tg with
   | true=>
    obtain⟨b,ob3,ws,y,eb,hb,hdb,hy,cy⟩:=cs
    subst eb
    obtain⟨o3,ws',hb',hdb',hy'⟩:=k b ob3 ws hb hdb
    refine wpAny_bind (wpAny_field hb' hdb' (hy'.trans hy) ?_)
    show wpAny _ _ (pure (Fin.again _)) _ _ _
    exact wpAny_pure ⟨Code.quiet_builtin _ (by decide +kernel),ih j _ _ _ (by omega) cx0 cy⟩
   | false=>
    show wpAny _ _ (pure (Fin.again _)) _ _ _
    exact wpAny_pure ⟨Code.quiet_builtin _ (by decide +kernel),ih (j+1) _ _ _ (by omega) cx0 cs⟩
theorem sX{α:Type}{E:cp}{Q:α→Shared→Prop}{a:Addr}{n:Nat}{oe:Obj}{vs:Array Value}(hh:A.handled=some (.ref a))(k:K2 h0 s.heap)(hn:h0.get? e=none)(ch:Chn h0 (n+1) (.ref a))
  (he:s.heap.get? e=some oe) (hd:oe.data=.fields vs) (hz:2<vs.size) (h:E (.ref e) { s with heap:=s.heap.update e (Obj.mapFields (·.setIfInBounds 2 (.ref a))) }):wpAny (model prog w) A (raiseNew (.ref e):Sem α) Q E s:=by
 have ne:a≠e:=fun z=>by
  obtain⟨b,ob,_,_,eb,hb,_⟩:=ch
  cases eb
  rw[z,hn]at hb;cases hb
 unfold raiseNew
 refine wpAny_bind (wpAny_handled ?_)
 rw[hh]
 dsimp only
 rw[if_pos (by simpa using ne)]
 refine wpAny_bind (wpAny_holding (wpAny_runValue (mH k hn ?_ n n _ _ _ (Bg _) ch ch)))
 show wpAny _ _ _ _ _ _
 refine wpAny_bind ?_
 show wpAny _ _ (setField (.ref e) 2 (.ref a)) _ _ _
 exact wpAny_setField he hd hz (wpAny_throw h)
end
structure bh(h h2:Heap)(e:Addr)(cls ctx:Value):Prop where
 keeps:∀b o,h.get? b=some o→h2.get? b=some o
 new:h.get? e=none
 there:∃oe vs a0,h2.get? e=some oe∧oe.cls=cls∧oe.data=.fields vs∧vs[0]? = some a0∧vs[1]? = some .none∧vs[2]? = some ctx
theorem m9{X:Cx}{C a:Addr}{x m:Str}{np cpos pos mpos npos:Pos}{j j':Nat}{n:Nat}{Aa:am}{σ:St}{H:Hp}{s:Shared}{Q:Flow→Shared→Prop}{E:cp}(hg:Gl X x)(hm:X.mg x=some (.ref C))(hC:ExcK X.K C)(I:Inv (X.inH a) Aa σ H s)
  (ch:Chn s.heap (n+1) (.ref a)) (h:∀h2 e,bh s.heap h2 e (.ref C) (.ref a)→E (.ref e) { s with heap:=h2,toks:=s.toks+1 }) (hdb:ug x:=by decide):
  wpAny (model X.prog X.w) (X.inH a).A (exec (.Raise (some (.Call (.Name x np) [.Constant (.str m) j mpos] [] cpos)) (some (.Constant .none j' npos)) pos) X.env) Q E s:=by
 obtain⟨bm,N,nm,qn,bs,hdct,sn,sub,ab,col,dd,k0,k1,k2,k3,k5,mN,hO,hN,hni,T⟩:=kH I.ok.mod.kin hC
 have hO:=I.bk _ _ hO
 have hN:=hN.keeps I.bk
 have T:=T.keeps I.bk
 rw[arm_exec_Raise]
 refine wpAny_bind (wpAny_standAt ?_)
 unfold raiseStmt
 simp only[evalOpt,Option.map]
 refine wpAny_bind (wpAny_bind (wpAny_Call_ofName (yT (X:=X.inH a) I hg hm ?_ hdb)))
 unfold callWith
 refine wpAny_bind (wpAny_holding (Calls.evalArgs_plain (Calls.spliced_cons (Calls.Constant_str (k:=j) (pos:=mpos) ?_))))
 refine Calls.spliced_nil (wpAny_bind (wpAny_standAt ?_))
 refine wpAny_bind (wpAny_keeperOf_exc hO ?_)
 refine wpAny_bind (PySem.wpAny_call_exc_subU PySem.F.excBase_ValueError (by decide) PySem.F.excBase_ValueError T hO hN hni (fun h' e hm=>wpAny_bind (wpAny_holding (wpAny_point (wpAny_pure ?_)))) (hrest:=by show 1≤sizeLine;decide))
 refine wpAny_bind (wpAny_standAt (wpAny_pure ?_))
 obtain⟨t,he,ht,_⟩:=hm.there
 have hO':=hm.keeps _ _ hO
 refine wpAny_bind (wpAny_holding (wpAny_bind (Constant_none (wpAny_bind (wpAny_standAt (wpAny_pure (wpAny_bind (wpAny_pure ?_))))))))
 dsimp only
 have hcB:(Value.ref C::bm).contains (.type "BaseException")=true:=by rw[List.contains_cons,T.hasType PySem.F.excBase_ValueError.hasBase,Bool.or_true]
 repeat(first|with_reducible refine wpAny_loadPart_at he ?_|with_reducible refine wpAny_loadPart_at hO' ?_|(with_reducible refine wpAny_isSubtype_exc hO' ?_;rw[hcB])|wp_step)
 have neC:e≠C:=fun z=>by
  have q:=hm.new
  rw[z]at q
  exact absurd (hO.symm.trans q) (by simp)
 have he2:((h'.update e (Obj.mapFields fun x=>x.setIfInBounds 3 Value.none)).update e (Obj.mapFields fun x=>x.setIfInBounds 4 (Value.bool true))).get? e=some { cls:=.ref C,data:=.fields #[.ref t,.none,.none,.none,.bool true,.none] }:=
  Heap.get?_update_self (o:={ cls:=.ref C,data:=.fields #[.ref t,.none,.none,.none,.bool false,.none] }) _ (Heap.get?_update_self _ he rfl) rfl
 have oth:∀b,e≠b→((h'.update e (Obj.mapFields fun x=>x.setIfInBounds 3 Value.none)).update e (Obj.mapFields fun x=>x.setIfInBounds 4 (Value.bool true))).get? b=h'.get? b:=fun b n=>(Heap.get?_update_other _ _ n).trans (Heap.get?_update_other _ _ n)
 have hO2:=(oth C neC).trans hO'
 generalize ((h'.update e (Obj.mapFields fun x=>x.setIfInBounds 3 Value.none)).update e (Obj.mapFields fun x=>x.setIfInBounds 4 (Value.bool true)))=h2 at he2 oth hO2 ⊢
 refine wpAny_loadPart_at hO2 ?_
 refine wpAny_pure ?_
 rw[if_pos (by rfl)]
 refine wpAny_pure (wpAny_bind ?_)
 unfold setFlight
 refine wpAny_bind (wpAny_field he2 rfl rfl ?_)
 rw[if_neg (by simp)]
 refine wpAny_pure (sX (h0:=s.heap) (n:=n) rfl ?_ hm.new ch he2 rfl (by simp) (h _ e ⟨fun b o q=>?_,hm.new,_,_,_,Heap.get?_update_self _ he2 rfl,rfl,rfl,rfl,rfl,rfl⟩))
 ·exact K2.keeps fun b o q=>(oth b fun z=>by rw[←z,hm.new]at q;cases q).trans (hm.keeps b o q)
 ·have nb:e≠b:=fun z=>by rw[←z,hm.new]at q;cases q
  exact(Heap.get?_update_other _ _ nb).trans ((oth b nb).trans (hm.keeps b o q))
section
variable{X:Cx}{Aa:am}{σ:St}{H H':Hp}{s s':Shared}{M:Model}{A:Around}{E:cp}{e:Addr}{cls:Value}
theorem jT{h1:Heap}{ctx:Value}{t n:Nat}{E2:cp}(I:Inv X Aa σ H s)(hstk:X.stack=X.env::X.outer)(hf:X.env.frame=some X.env.locals)(hex:X.ex=[])(hA:A.frames=X.A.frames)(hx:bh s.heap h1 e cls ctx)(hc:Chn h1 n (.ref e))
  (hQ:∀h',VL X.prog X.w X.stack X.H₀ X.s₀.heap H e cls X.env.locals h'→E (.ref e) { s with heap:=h',toks:=t }):wpAny M A (noteFrame (.ref e) X.env) (fun _ s'=>cameBackBy M X.A X.env E (.ref e) s') E2 { s with heap:=h1,toks:=t }:=by
 have hfr:A.frames=some (X.env::X.outer):=by rw[hA,←hstk];exact I.ok.frames
 have hfs:frs X.stack=X.env.locals::frs X.outer:=by rw[hstk];unfold frs;rw[List.filterMap_cons,hf]
 have hl0:s.heap.FunFrames (PySem.W.hideAll s.heap (frs X.stack)) (X.env::X.outer):=by
  have z:=I.stack
  rw[hstk]at z
  refine PySem.W.funFrames_hide z fun env he a ha=>?_
  rw[hstk]
  exact BO.mpr ⟨env,he,ha⟩
 have hl:h1.FunFrames (PySem.W.hideAll s.heap (frs X.stack)) (X.env::X.outer):=hl0.of_keeps fun b o hb _=>⟨o,hx.keeps b o hb,rfl⟩
 have nx:∀b,b∉X.ex:=fun b z=>by rw[hex]at z;cases z
 have hkb:(PySem.W.hideAll s.heap (frs X.stack)).StaysIn h1:=fun b o q=>hx.keeps b o (PySem.W.of_hideAll _ q)
 have hen:(PySem.W.hideAll s.heap (frs X.stack)).get? e=none:=by
  cases q:(PySem.W.hideAll s.heap (frs X.stack)).get? e with
  | none=>rfl
  | some o=>have z:=PySem.W.of_hideAll _ q;rw[hx.new]at z;cases z
 obtain⟨oe,vs,a0,he,hcl,hd,v0,v1,v2⟩:=hx.there
 subst hcl
 refine vy (sB _ _) ?_
 unfold noteFrame
 simp only[hf]
 refine wpAny_bind (wpAny_field he hd v1 ?_)
 rw[if_neg (by decide)]
 refine PySem.wpAny_entryW (base:=PySem.W.hideAll s.heap (frs X.stack)) hfr hl hf he hkb hen hd (Array.getElem?_eq_some_iff.mp v1).1 v0 fun h2 ⟨x1,x2,x3,x4⟩ k2=>?_
 have hh:Heap.HeldW (PySem.W.hideAll s.heap (frs X.stack)) (X.env::X.outer) e oe.cls a0 X.env.locals h2:=⟨x1,hen,x2,x3⟩
 have out:∀h3,Heap.HeldW (PySem.W.hideAll s.heap (frs X.stack)) (X.env::X.outer) e oe.cls a0 X.env.locals h3→(∀b o,h2.get? b=some o→(∀vs,o.data≠.fields vs)→h3.get? b=some o)→K2 h2 h3→VL X.prog X.w X.stack X.H₀ X.s₀.heap H e oe.cls X.env.locals h3:=fun h3 hh3 kp k3=>by
  rw[←hstk]at hh3
  refine⟨⟨⟨_,a0,hh3,fun b o q n nb=>?_,fun b o q nb=>?_,?_⟩,fun b o q hb=>?_,fun b o q n=>I.base.free b o q n (nx b),I.base.tups,I.base.frzs,I.base.tbls,?_⟩,n,(hc.k2 k2).k2 k3⟩
  ·exact PySem.W.hideAll_get _ (I.base.keep b o q n (fun z=>nb (by rw[hfs];exact Bd _ z)) (nx b)) nb
  ·obtain⟨o',z⟩:=I.base.there b o q (nx b)
   exact⟨o',PySem.W.hideAll_get _ z nb⟩
  ·exact I.hok.part fun b u hb q=>PySem.W.hideAll_get _ q fun z=>hb (I.stkFree b z)
  ·have hb2:b∈frs X.outer:=by
    rw[hfs]at hb
    rcases Bk.mp hb with z|z
    ·exact absurd z (I.neL q)
    ·exact z
   obtain⟨sl,z⟩:=I.base.slot b o q (I.ok.frf b hb2) hb2 (nx b)
   obtain⟨_,ob,ho,hdo⟩:=I.funs.mem hb2
   rw[z]at ho
   cases ho
   obtain⟨sl',z'⟩:=x4 b _ (hx.keeps b _ z) hdo
   exact⟨sl',kp b _ z' hdo⟩
  ·cases q:X.s₀.heap.get? e with
   | none=>rfl
   | some o=>
    obtain⟨o',z⟩:=I.base.there e o q (nx e)
    rw[hx.new]at z;cases z
 obtain⟨oe2,vs2,T,oT,ts,he2,hc2,hd2,w1,hnT,hTe,hT,hdT,h3⟩:=x3
 have hsz3:3<ts.size:=(Array.getElem?_eq_some_iff.mp h3).1
 have other:∀b,b≠T→(h2.update T (Obj.mapFields (·.setIfInBounds 3 (rawInt X.env.locals)))).get? b=h2.get? b:=fun b hb=>Heap.get?_update_other _ _ (Ne.symm hb)
 have noRecord:∀b o,h2.get? b=some o→(∀vs,o.data≠.fields vs)→b≠T:=fun b o hb hnf q=>by
  rw[q,hT]at hb;injection hb with hb;subst hb;exact hnf ts hdT
 unfold cameBackBy
 refine wpAny_bind (wpAny_field he2 hd2 w1 ?_)
 rw[if_neg (show ¬((Value.ref T==Value.none)=true) from by simp)]
 unfold setFlight
 refine wpAny_bind (wpAny_field he2 hd2 w1 ?_)
 rw[if_pos (show(Value.ref T != Value.none)=true from by simp),hf]
 refine wpAny_setField hT hdT hsz3 (hQ _ (out _ ⟨fun b o hbo=>(other b fun q=>by rw[q,hnT]at hbo;cases hbo).trans (x1 b o hbo),hen,hh.2.2.1.of_keeps fun b o hb hnf=>⟨o,(other b (noRecord b o hb hnf)).trans hb,rfl⟩,?_⟩ (fun b o hb hnf=>(other b (noRecord b o hb hnf)).trans hb) (K2.update hT fun us hu=>?_)))
 ·exact⟨oe2,vs2,T,_,_,(other e (Ne.symm hTe)).trans he2,hc2,hd2,w1,hnT,hTe,Heap.get?_update_self _ hT (Obj.isFreed_of_fields (Obj.data_mapFields hdT _)),Obj.data_mapFields hdT _,by simp[hsz3]⟩
 ·exact⟨_,Obj.data_mapFields hu _,Array.getElem?_setIfInBounds_ne (by decide)⟩
theorem WV{L:Addr}{h:Heap}(I:Inv X Aa σ H s)(hstk:X.stack=X.env::X.outer)(hf:X.env.frame=some X.env.locals)(hex:X.ex=[])(f:FliesB X.prog X.w X.stack H s.heap H' e cls h){B:Heap}{a0:Value}
  (fl:Heap.FlyingW B X.stack e cls a0 h) (k1:∀b o,s.heap.get? b=some o→H b=none→b∉frs X.stack→B.get? b=some o) (k2:∀b o,s.heap.get? b=some o→b∉frs X.stack→∃o',B.get? b=some o') (k3:HOk X.prog X.w H' B):
  ∀h',Heap.HeldW B X.stack e cls a0 L h'→h.UpToSlots h'→bj X.prog X.w X.stack X.H₀ X.s₀.heap H' e cls L h':=by
 have hfs:frs X.stack=X.env.locals::frs X.outer:=by rw[hstk];unfold frs;rw[List.filterMap_cons,hf]
 have nx:∀b,b∉X.ex:=fun b z=>by rw[hex]at z;cases z
 refine fun h' hh up=>⟨⟨B,a0,hh,fun b o q n nb=>?_,fun b o q nb=>?_,k3⟩,fun b o q hb=>?_,fun b o q n=>?_,fun b xs q=>f.tups b xs (I.base.tups b xs q),fun b o u q=>f.frzs b o u (I.base.frzs b o u q),fun b ps q=>?_,?_⟩
 ·exact k1 b o (I.base.keep b o q n (fun z=>nb (by rw[hfs];exact Bd _ z)) (nx b)) (I.base.free b o q n (nx b)) nb
 ·obtain⟨o',z⟩:=I.base.there b o q (nx b)
  exact k2 b o' z nb
 ·have hb2:b∈frs X.outer:=by
   rw[hfs]at hb
   rcases Bk.mp hb with z|z
   ·exact absurd z (I.neL q)
   ·exact z
  obtain⟨sl,z⟩:=I.base.slot b o q (I.ok.frf b hb2) hb2 (nx b)
  obtain⟨sl',z'⟩:=f.slot b _ z hb
  obtain⟨_,ob,ho,hd⟩:=fl.2.2.1.mem hb
  rw[z']at ho
  cases ho
  obtain⟨sl2,z2⟩:=up b _ z' hd
  exact⟨sl2,z2⟩
 ·obtain⟨o',z⟩:=I.base.there b o q (nx b)
  exact f.free b o' z (I.base.free b o q n (nx b))
 ·obtain⟨m1,e1⟩:=I.base.tbls b ps q
  obtain⟨m2,e2⟩:=f.tbls b _ e1
  exact⟨m1++m2,by rw[e2,Array.append_assoc]⟩
 ·cases q:X.s₀.heap.get? e with
  | none=>rfl
  | some o=>
   obtain⟨o',z⟩:=I.base.there e o q (nx e)
   rw[f.new]at z;cases z
end
end L2
namespace OD
open PySem PySem.Spec PyProof.Rows L2
section
variable{X:Cx}{k n:Nat}{f Cz:Addr}{fd:FuncData}{ps:List Str}{sp:Sp}{x y z m:Str}{p pos rpos py hpos np cpos mpos npos zpos tpos:Pos}{j j':Nat}{e:Expr}{es:List Expr}{t:TA}{c:Value}
def Qw(X:Cx)(c:Value)(Cz:Addr):XK:=fun cls _ H'=>∃C,cls=.ref C∧((PySem.W.exmOne X.K cls c=some true∧XOh X Cz H')∨(PySem.W.exmOne X.K cls c=some false∧XOh X C H'))
theorem hZ(hstk:X.stack=X.env::X.outer)(hf:X.env.frame=some X.env.locals)(hex:X.ex=[])(F:FnOk X.prog X.w X.K X.mg X.base (CX1 X.prog X.w) k f fd ps sp)(hr:Room k X.A)(hg:Gl X x)(hm:X.mg x=some (.ref f))(hk:PySem.W.keepIn X.K (.ref f)=true)(hb:Binds X.K fd ps [])
  (ha:PA X.nox (e::es) t) (hgy:Gl X y) (hmy:X.mg y=some c) (hgz:Gl X z) (hmz:X.mg z=some (.ref Cz)) (hCz:ExcK X.K Cz) (hdb:ug x:=by decide) (hdy:ug y:=by decide) (hdz:ug z:=by decide)
  (he:J' X.env e es:=by rfl) (hpl:K' X.env pos es:=by rfl):
  PS X (.Try [.Return (some (.Call (.Name x p) (e::es) [] pos)) rpos] [.ExceptHandler (some (.Name y py)) none [.Raise (some (.Call (.Name z np) [.Constant (.str m) j mpos] [] cpos)) (some (.Constant .none j' npos)) zpos] hpos] [] [] tpos)
   (fun D σ H=>t σ H fun vs H1=>sp vs H1 D.rt (Qw X c Cz)):=by
 intro Aa s σ H D I h
 have hfr:X.A.frames=some (X.env::X.outer):=by rw[←hstk];exact I.ok.frames
 refine wpAny_Try_except (wpAny_mono (wpAny_execs_cons (wpAny_Return_some (wpAny_mono (l8 F hr hg hm hk hb ha I h hdb he hpl) (fun v s1 q=>?A) fun _ _ q=>q))) (fun _ _ q=>q) fun e s1 hx=>?B)
 case A=>
  obtain⟨x,H1,I1,r1,q1⟩:=q
  exact⟨x,σ,H1,I1,r1,q1⟩
 case B=>
  obtain⟨a,C,H',H1,s2,rfl,I1,os,bare,fl,C',eC,hex2⟩:=hx
  cases eC
  obtain⟨cn,ch⟩:=fl.chn
  obtain⟨cn,rfl⟩:∃n',cn=n'+1:=by
   cases cn with
   | zero=>cases ch
   | succ n'=>exact⟨n',rfl⟩
  obtain⟨B,a0,fl0,k1,k2,k3⟩:=fl.ex
  have inv:∀h',Heap.FlyingW B X.stack a (.ref C) a0 h'→s1.heap.UpToSlots h'→Inv X Aa σ H' { s1 with heap:=h' }:=fun h' x1 x2=>by
   have f':FliesB X.prog X.w X.stack H1 s2.heap H' a (.ref C) h':=⟨⟨B,a0,x1,k1,k2,k3⟩,fun b o q hb=>by
    obtain⟨sl,z⟩:=fl.slot b o q hb
    obtain⟨_,ob,ho,hd⟩:=fl0.2.2.1.mem hb
    rw[z]at ho
    cases ho
    obtain⟨sl',z'⟩:=x2 b _ z hd
    exact⟨sl',z'⟩,fl.free,fl.tups,fl.frzs,fl.tbls,fl.new⟩
   exact I1.call' (s':={ s1 with heap:=h' }) os f'.un f'.hok bare (fun _ z=>nomatch z)
  have fl0':=fl0
  rw[hstk]at fl0
  refine vy (sB _ _) (wpAny_looks_onW hfr hf fl0 fun h4 held4 up4 kk4=>?_)
  refine vy (xi _ _) (wpAny_landsW held4 fun h5 fl5 up5 kk5=>?_)
  have I5:=inv h5 (by rw[hstk];exact fl5) (up4.trans up5)
  obtain⟨ob,hob,hoc⟩:=fl5.there
  have ty:PySem.W.Looks (model X.prog X.w) h5 (typeOf (.ref a)) (.ref C):=by rw[←hoc];exact(PySem.W.Looks.ld hob).andThen .now
  rcases hex2 with ⟨hxm,hxo⟩|⟨hxm,hxo⟩
  ·refine wpAny_handleBy_cons (codeAny_handlers_test (yT (X:=X.inH a) (I5.inH a) hgy hmy ((PySem.W.exm_one I5.kIn ty hxm).here ?_) hdy)) (by intro q;cases q)
   refine codeAny_handlers_suite ?_
   refine vy (xi _ _) (lands_againW fl5 fun h6 fl6 up6 kk6=>?_)
   have I6:=inv h6 (by rw[hstk];exact fl6) ((up4.trans up5).trans up6)
   have ch6:Chn h6 (cn+1) (.ref a):=((ch.k2 kk4).k2 kk5).k2 kk6
   refine wpAny_execs_cons (m9 hgz hmz hCz (I6.inH a) ch6 (fun h7 e7 mk=>?_) hdz)
   obtain⟨oe,vs,v0,q1,q2,q3,q4,q5,q6⟩:=mk.there
   refine jT (n:=cn+2) I6 hstk hf hex rfl mk ⟨e7,oe,vs,.ref a,rfl,q1,q3,q6,ch6.k2 (K2.keeps mk.keeps)⟩ fun h8 hl8=>?_
   exact hxo Aa σ H' _ e7 _ I6 rfl bare hl8
  ·refine wpAny_handleBy_cons (codeAny_handlers_test (yT (X:=X.inH a) (I5.inH a) hgy hmy ((PySem.W.exm_one I5.kIn ty hxm).here ?_) hdy)) (by intro q;cases q)
   refine wpAny_handleBy_nil ?_
   obtain⟨_,_,_,oe,ws,T,oT,ts,he5,hc5,hd5,h15,_⟩:=id fl5
   have done:=WV (L:=X.env.locals) I1 hstk hf hex fl.toFliesB fl0' k1 k2 k3
   refine vy (qW _ _ _) ?_
   unfold PySem.passOn
   refine wpAny_bind (wpAny_field he5 hd5 h15 ?_)
   rw[if_neg (show ¬((Value.ref T==Value.none)=true) from by simp),hf]
   refine wpAny_bind (PySem.W.setFlight_onW fl5 fun h6 hh6 up6=>wpAny_throw fun kk6=>?_)
   rw[←hstk]at hh6
   exact hxo Aa σ H1 s2 a _ I1 os bare ⟨done h6 hh6 ((up4.trans up5).trans up6),cn+1,((ch.k2 kk4).k2 kk5).k2 kk6⟩
def QL(X:Cx)(c:Value)(Cz:Addr)(S:z0)(t:DTA):DTS:=fun D ρ=>t ρ fun ds=>S ds D.rt fun C=>(PySem.W.exmOne X.K (.ref C) c=some true∧RzH X Cz)∨(PySem.W.exmOne X.K (.ref C) c=some false∧RzH X C)
theorem cu{S:z0}{td:DTA}(hstk:X.stack=X.env::X.outer)(hf:X.env.frame=some X.env.locals)(hex:X.ex=[])(G:DOkX X.prog X.w X.K X.mg X.base n x S)(hr:Room n X.A)(hg:Gl X x)(ha:DA X.nox (e::es) td)(hgy:Gl X y)(hmy:X.mg y=some c)(hgz:Gl X z)(hmz:X.mg z=some (.ref Cz))(hCz:ExcK X.K Cz)
  (hdb:ug x:=by decide) (hdy:ug y:=by decide) (hdz:ug z:=by decide)
  (he:J' X.env e es:=by rfl) (hpl:K' X.env pos es:=by rfl):
  DSt X .d (.Try [.Return (some (.Call (.Name x p) (e::es) [] pos)) rpos] [.ExceptHandler (some (.Name y py)) none [.Raise (some (.Call (.Name z np) [.Constant (.str m) j mpos] [] cpos)) (some (.Constant .none j' npos)) zpos] hpos] [] [] tpos) (QL X c Cz S td):=by
 obtain⟨f,fd,ps,hm,hk,hb,F⟩:=G.ex
 obtain⟨te,p1,l1⟩:=ha
 refine⟨_,hZ hstk hf hex F hr hg hm hk hb p1 hgy hmy hgz hmz hCz hdb hdy hdz he hpl,fun W0 G ρ σ W D D' at_ s h=>?_⟩
 refine l1 ρ σ W _ at_.rl h _ fun ds vs W1 s1 i1 q1=>⟨W1,ds,_,_,rfl,i1,q1,fun d v W2 s2 i2 q2=>s.tl d v W2 ((at_.le.trans s1).trans s2) i2 q2,fun C H' s' hC=>⟨C,rfl,?_⟩⟩
 have zz:=((qN at_.rl).trans s1.h).trans s'
 rcases hC with ⟨e1,e2⟩|⟨e1,e2⟩
 ·exact .inl ⟨e1,e2.2 H' zz⟩
 ·exact .inr ⟨e1,e2.2 H' zz⟩
end
section
variable{P:Program}{w:World}{K:A_}{mg:be}{base:Heap}
theorem PQ{x qual:Str}{st:Stmt}{f:Addr}{fd:FuncData}{N ps:List Str}{k:Nat}{S:z0}(F:Fun K x qual st f fd)(sc:zh N ps (defScope st))(len:∀ds Q R,S ds Q R→ds.length=ps.length)
  (hbody:∀(cdv:Value)(A:Around)(outer:List Env)(s:Shared)(H:Hp)(E:XK),Room k (A.deeper (envOfC qual (defScope st) s.heap.objs.size f cdv))→∀(ds:List Dt)(Q:Dt→Prop)(R:Addr→Prop),S ds Q R→
   (∀C,R C→RzH (yg (CX1 P w) P w K mg base N qual (defScope st) f cdv A outer s H E) C)→
   ∃t,DSs (yg (CX1 P w) P w K mg base N qual (defScope st) f cdv A outer s H E) .d (defBody st) t∧t { nx:=fun _=>False,rt:=Q } (z_ N.length ds)):FnOk P w K mg base (CX1 P w) (k+1) f fd ps (z9 K S):=by
 refine Fun.okX F sc (fun vs H Q E h=>?_) (fun cdv A outer s H vs Q E hr h=>?_)
 ·obtain⟨W,ds,Qd,Ed,_,ia,hS,_⟩:=h
  rw[←ia.length]
  exact len ds Qd Ed hS
 obtain⟨W,ds,Qd,Ed,rfl,ia,hS,kk,ke⟩:=h
 obtain⟨t,⟨ts,p,l⟩,ht⟩:=hbody cdv A outer s W.h E hr ds Qd Ed hS fun C hC=>i7 fun H' z=>ke C H' z hC
 exact⟨ts,p,l W W.g (z_ N.length ds) (start N vs) W { nx:=fun _=>False,rt:=Qd } _ (y0 ia (wJ (BN _))) ⟨fun ρ σ W' a q=>q.elim,fun d v W' s' i q=>kk d v W' s' i q,fun _ _ _ _ q=>q.elim,fun _ _ _ _ q=>q.elim⟩ ht⟩
end
section
variable{X:Cx}{K:A_}{y:Str}{a:Expr}{ta:DTE}{p0 p' pos:Pos}{D:Addr}
theorem yf(hK:X.K=K)(hm:X.mg "isinstance"=none)(hmc:X.mg y=some (.ref D))(ha:DE X a ta)
  (hg:Gl X "isinstance":=by rfl) (hgc:Gl X y:=by rfl) (hdy:ug y:=by decide)
  (hs:starEach [a,.Name y p'] X.env=(false,eval a X.env)::starEach [.Name y p'] X.env:=by rfl) (hs2:starEach [.Name y p'] X.env=(false,eval (.Name y p') X.env)::starEach [] X.env:=by rfl)
  (hpl:K' X.env pos [.Name y p']:=by rfl):
  DE X (.Call (.Name "isinstance" p0) [a,.Name y p'] [] pos) (kQ K (.ref D) ta):=hK ▸ Vl hm hmc ha hg hgc hdy hs hs2 hpl
theorem ir(hK:X.K=K)(hm:X.mg "isinstance"=none)(hmc:X.mg "ValueError"=none)(ha:DE X a ta)
  (hg:Gl X "isinstance":=by rfl) (hgc:Gl X "ValueError":=by rfl)
  (hs:starEach [a,.Name "ValueError" p'] X.env=(false,eval a X.env)::starEach [.Name "ValueError" p'] X.env:=by rfl) (hs2:starEach [.Name "ValueError" p'] X.env=(false,eval (.Name "ValueError" p') X.env)::starEach [] X.env:=by rfl)
  (hpl:K' X.env pos [.Name "ValueError" p']:=by rfl):
  DE X (.Call (.Name "isinstance" p0) [a,.Name "ValueError" p'] [] pos) (kQ K (.type "ValueError") ta):=hK ▸ cL hm hmc ha hg hgc hs hs2 hpl
end
end OD
namespace L2
open PySem PySem.Spec PyProof.Rows
section
variable{P:Program}{w:World}
theorem items_int:∀{l:List Int}{its:List Value},Vals (l.map V.int) its→ItemsAre (intKind P w) l its
 | [],_,.nil=>.nil
 | n::l,_,.cons ⟨t,e⟩ r=>by
  subst e
  exact .cons (by simp[intKind,Value.isInt]) (items_int r)
end
end L2
namespace OD
open PySem PySem.Spec PyProof.Rows L2
def noObj(ρ:DS):Bool:=ρ.all fun s=>match s with|.obj _=>false|_=>true
end OD
namespace L2
open PySem PySem.Spec PyProof.Rows
section
variable{X:Cx}{e:Expr}{te:TE}{apos cpos p0:Pos}{x:Str}{a:Addr}{o:Obj}{kvs:List (Str×Value)}
def bT(hg:Gl X x)(hm:X.mg x=some (.ref a))(ho:X.K.lookup a=some o)(hd:o.IsDictOf (strKind X.prog X.w) kvs)(ha:(a==sysModules)=false)(he:PE X e te)(hdb:ug x:=by decide)
  (hbase:attributeBase (.Name x p0) "get" X.env (eval (.Name x p0) X.env)=eval (.Name x p0) X.env:=by rfl)
  (hfew:((backTo cpos (starEach [e] X.env)).all (fun x=>!x.1)&&(backToKw cpos (keywordEach [] X.env)).all (fun x=>x.1.isSome)
   && decide ([e].length+([]:List Keyword).length+(if([]:List Keyword).isEmpty then 0 else 1)<30))=true:=by rfl)
  (hline:(apos.endLine==cpos.line)=true:=by rfl) (hs:starEach [e] X.env=[(false,eval e X.env)]:=by rfl):
  PE X (.Call (.Attribute (.Name x p0) "get" apos) [e] [] cpos) (fun σ H Q=>te σ H fun y H1=>∃k,y=.str k∧∃v,RelV v ((valueAt kvs k).getD .none)∧Q v H1):=by
 intro Aa s σ H Q I h
 refine wpAny_Call_method_late hbase hfew hline rfl (thn (sw (v:=.ref a) hg hm rfl hdb Aa s σ H (fun x H1=>x=.ref a∧te σ H1 fun y H1=>∃k,y=.str k∧∃v,RelV v ((valueAt kvs k).getD .none)∧Q v H1) I ⟨rfl,h⟩) fun v s1 zz=>?_)
 obtain⟨x,H1,I1,r1,ex,q1⟩:=zz
 subst ex
 cases(show v=Value.ref a from r1)
 have hd':∀{h:Heap},h.get? a=some o→h.DictOf (strKind X.prog X.w) a kvs:=fun hh=>Heap.dictOf_iff.mpr ⟨o,hh,hd⟩
 have h1:=(hd' (I1.kIn a o ho)).mapOf
 obtain⟨es,ep,hx,_⟩:=hd
 refine⟨"dict","dict.get",PySem.F.plainAttrs_dict,PySem.F.slot_dict_get,PySem.F.type_dict_get,h1.typeIs,fun b eb=>by cases eb;exact⟨o,I1.kIn a o ho,hx.2.1⟩,?_⟩
 rw[hs]
 refine wpAny_dict_get1 (knd:=strKind X.prog X.w) ha (thn (he Aa s1 σ H1 _ I1 q1) fun u s2 zz=>?_)
 obtain⟨y,H2,I2,r2,k,ey,v,rv,q⟩:=zz
 subst ey
 obtain⟨t,rfl⟩:=(show ∃t,u=.str k t from r2)
 exact⟨k,_,strKind_is _ _ _ _,(hd' (I2.kIn a o ho)).mapOf,v,H2,I2.tok _,rv,q⟩
end
end L2
namespace OD
open PySem PySem.Spec PyProof.Rows L2
def y_(ns:List (Str×Int))(k:Str):Dt:=((ns.find? fun p=>decide (p.1=k)).map fun p=>Dt.int p.2).getD .non
structure GDi(P:Program)(w:World)(K:A_)(mg:be)(x:Str)(ns:List (Str×Int)):Prop where
 ex:∃a o kvs,mg x=some (.ref a)∧K.lookup a=some o∧o.IsDictOf (strKind P w) kvs∧(a==sysModules)=false∧∀k,(∃i,y_ ns k=.int i∧RelV (.int i) ((valueAt kvs k).getD .none))∨(y_ ns k=.non∧(valueAt kvs k).getD .none=.none)
section
variable{X:Cx}{e:Expr}{t:DTE}{apos cpos p0:Pos}{x:Str}{ns:List (Str×Int)}
def OZ(ns:List (Str×Int))(t:DTE):DTE:=fun ρ Q=>t ρ fun d=>∃k,d=.str k∧Q (y_ ns k)
def Vo(G:GDi X.prog X.w X.K X.mg x ns)(hg:Gl X x)(he:DE X e t)(hdb:ug x:=by decide)
  (hbase:attributeBase (.Name x p0) "get" X.env (eval (.Name x p0) X.env)=eval (.Name x p0) X.env:=by rfl)
  (hfew:((backTo cpos (starEach [e] X.env)).all (fun x=>!x.1)&&(backToKw cpos (keywordEach [] X.env)).all (fun x=>x.1.isSome)
   && decide ([e].length+([]:List Keyword).length+(if([]:List Keyword).isEmpty then 0 else 1)<30))=true:=by rfl)
  (hline:(apos.endLine==cpos.line)=true:=by rfl) (hs:starEach [e] X.env=[(false,eval e X.env)]:=by rfl):
  DE X (.Call (.Attribute (.Name x p0) "get" apos) [e] [] cpos) (OZ ns t):=by
 obtain⟨a,o,kvs,h1,h2,h3,h4,h5⟩:=G.ex
 obtain⟨te,p,l⟩:=he
 refine⟨_,bT hg h1 h2 h3 h4 p hdb hbase hfew hline hs,fun ρ σ W Q r h R k=>l ρ σ W _ r h _ fun d v W1 s1 i1 zz=>?_⟩
 obtain⟨kk,ed,q1⟩:=zz
 subst ed
 refine⟨kk,is_str.mp i1,?_⟩
 rcases h5 kk with ⟨i,e1,e2⟩|⟨e1,e2⟩
 ·rw[e1]at q1
  exact⟨.int i,e2,k _ _ W1 s1 (is_int.mpr rfl) q1⟩
 ·rw[e1]at q1
  rw[e2]
  exact⟨.non,rfl,k _ _ W1 s1 (is_non.mpr rfl) q1⟩
end
end OD
namespace L2
open PySem PySem.Spec PyProof.Rows
def ip{P:Program}{w:World}(l:List (Str×Tok×Value)){ep:Nat}(hn:(l.map (·.1)).Nodup):Obj.IsDictOf (strKind P w) ⟨.type "dict",none,.dict (l.map fun p=>(⟨PyData.keyHash w.params p.1,.str p.1 p.2.1,p.2.2⟩:DictEntry)).toArray ep,#[]⟩ (l.map fun p=>(p.1,p.2.2)):=by
 refine⟨_,_,⟨rfl,rfl,rfl⟩,rfl,fun e he=>?_,?_,?_⟩
 ·obtain⟨p,_,rfl⟩:=BB.mp (List.mem_toArray.mp he)
  exact⟨p.1,strKind_is _ _ _ _,rfl⟩
 ·rw[List.toList_toArray]
  induction l with
  | nil=>exact .nil
  | cons p l ih=>exact .cons (strKind_is _ _ _ _) rfl (ih (List.nodup_cons.mp hn).2)
 ·rw[List.map_map]
  exact hn
end L2
namespace OD
open PySem PySem.Spec PyProof.Rows L2
theorem qT(k:Str):∀l:List (Str×Tok×Int×Tok),(∃i,y_ (l.map fun p=>(p.1,p.2.2.1)) k=.int i∧RelV (.int i) ((valueAt (l.map fun p=>(p.1,Value.int p.2.2.1 p.2.2.2)) k).getD .none))∨(y_ (l.map fun p=>(p.1,p.2.2.1)) k=.non∧(valueAt (l.map fun p=>(p.1,Value.int p.2.2.1 p.2.2.2)) k).getD .none=.none)
 | []=>.inr ⟨rfl,rfl⟩
 | p::l=>by
  by_cases e:p.1=k
  ·refine .inl ⟨p.2.2.1,?_,p.2.2.2,?_⟩
   ·simp[y_,e]
   ·simp[valueAt,e]
  ·have ih:=qT k l
   have e1:y_ ((p::l).map fun p=>(p.1,p.2.2.1)) k=y_ (l.map fun p=>(p.1,p.2.2.1)) k:=by simp[y_,e]
   have e2:valueAt ((p::l).map fun p=>(p.1,Value.int p.2.2.1 p.2.2.2)) k=valueAt (l.map fun p=>(p.1,Value.int p.2.2.1 p.2.2.2)) k:=by simp[valueAt,e]
   rw[e1,e2]
   exact ih
theorem GDi.of{P:Program}{w:World}{K:A_}{mg:be}{x:Str}{a:Addr}{ep:Nat}(l:List (Str×Tok×Int×Tok))(hm:mg x=some (.ref a))
  (ho:K.lookup a=some ⟨.type "dict",none,.dict (l.map fun p=>(⟨PyData.keyHash w.params p.1,.str p.1 p.2.1,.int p.2.2.1 p.2.2.2⟩:DictEntry)).toArray ep,#[]⟩) (hs:(a==sysModules)=false) (hn:(l.map (·.1)).Nodup):GDi P w K mg x (l.map fun p=>(p.1,p.2.2.1)):=by
 have h:=ip (P:=P) (w:=w) (ep:=ep) (l.map fun p=>(p.1,p.2.1,Value.int p.2.2.1 p.2.2.2)) (by rw[List.map_map];exact hn)
 rw[List.map_map,List.map_map]at h
 exact⟨a,_,_,hm,ho,h,hs,fun k=>qT k l⟩
end OD
namespace L2
open PySem PySem.Spec PyProof.Rows
abbrev TJ:=St→Hp→(Str→Hp→Prop)→Prop
def PJ(X:Cx)(es:List Expr)(B:Nat)(t:TJ):Prop:=
 ∀(Aa:am)(s:Shared)(σ:St)(H:Hp)(acc:Str)(Q:Str→Hp→Prop),Inv X Aa σ H s→acc.length+B≤sizeLine→t σ H (fun y H'=>Q (acc++y) H')→
  Joins (model X.prog X.w) X.A X.xe (evalEach es X.env) acc (fun out s1=>out.length≤sizeLine∧∃H1,Inv X Aa σ H1 s1∧Q out H1) s
def VC(x:Str):x++Str.empty=x:=by
 cases x;show Str.mk (_++#[])=_;rw[Array.append_empty]
def pC(x y z:Str):x++y++z=x++(y++z):=by
 cases x;cases y;cases z;show Str.mk (_++_++_)=Str.mk (_++(_++_));rw[Array.append_assoc]
section
variable{X:Cx}{e:Expr}{es:List Expr}{B:Nat}{x:Str}{p pos:Pos}
def Mv:TJ:=fun _ H Q=>Q Str.empty H
def Mu(x:Str)(t:TJ):TJ:=fun σ H Q=>t σ H fun y H'=>Q (x++y) H'
def Mw(te:TE)(t:TJ):TJ:=fun σ H Q=>te σ H fun v H1=>∃i,v=.int i∧i.natAbs.log2<1000∧t σ H1 fun y H'=>Q (Str.ofString (toString i)++y) H'
def UR:PJ X [] 0 Mv:=fun Aa s σ H acc Q I hl h=>by
 have h':Q (acc++Str.empty) H:=h
 rw[VC]at h'
 exact⟨hl,H,I,h'⟩
def UQ{k}{t:TJ}(h1:PJ X es B t):PJ X (.Constant (.str x) k p::es) (x.length+B) (Mu x t):=fun Aa s σ H acc Q I hl h=>by
 refine Calls.Constant_str ⟨x,_,rfl,by rw[strLen_append];omega,?_⟩
 exact h1 Aa _ σ H (acc++x) Q (I.tok _) (by rw[strLen_append];omega) (by show t σ H fun y H'=>Q (acc++x++y) H';simp only[pC];exact h)
def US{te:TE}{t:TJ}(he:PE X e te)(h1:PJ X es B t):PJ X (.FormattedValue e (-1) none p::es) (1001+B) (Mw te t):=fun Aa s σ H acc Q I hl h=>by
 refine wpAny_FormattedValue_plain (thn (he Aa _ σ H _ I h) fun u s1 zz=>?_)
 obtain⟨v,H1,I1,rv,i,ev,hi,h⟩:=zz
 subst ev
 obtain⟨t',rfl⟩:=(show ∃t,u=Value.int i t from rv)
 have li:=oB hi
 refine wpAny_formatField_int (by omega) ⟨_,_,rfl,by rw[strLen_append];omega,?_⟩
 exact h1 Aa _ σ H1 (acc++Str.ofString (toString i)) Q ((I1.tok _).tok _) (by rw[strLen_append];omega) (by show t σ H1 fun y H'=>Q (acc++Str.ofString (toString i)++y) H';simp only[pC];exact h)
def bU{e1:Expr}{t:TJ}(h1:PJ X (e::e1::es) B t)(hB:B≤sizeLine):PE X (.JoinedStr (e::e1::es) pos) (fun σ H Q=>t σ H fun y H'=>Q (.str y) H'):=fun Aa s σ H Q I h=>by
 refine wpAny_JoinedStr ?_
 have e0:Str.empty.length=0:=rfl
 have z:∀y:Str,Str.empty++y=y:=fun y=>by cases y;show Str.mk (#[]++_)=_;rw[Array.empty_append]
 have:=h1 Aa s σ H Str.empty (fun y H'=>Q (.str y) H') I (by omega) (by simp only[z];exact h)
 refine joins_mono this fun out s1 ⟨hl,H1,I1,q⟩=>⟨hl,.str out,H1,I1.tok _,⟨_,rfl⟩,q⟩
where
 joins_mono {M:Model} {A:Around} {E:cp} {Q Q':Str→Shared→Prop}:∀{ms:List (Sem Value)}{acc:Str}{s:Shared},Joins M A E ms acc Q s→(∀o s,Q o s→Q' o s)→Joins M A E ms acc Q' s
  | [],_,_,h,k=>k _ _ h
  | _::_,_,_,h,k=>thn h fun _ _ ⟨y,t,e,hl,r⟩=>⟨y,t,e,hl,joins_mono r k⟩
def Ta{te:TE}(h:PE X e te):PE X (.JoinedStr [e] pos) te:=fun Aa s σ H Q I q=>wpAny_JoinedStr_one (h Aa s σ H Q I q)
end
end L2
namespace OD
open PySem PySem.Spec PyProof.Rows L2
abbrev DTJ:=DS→(Str→Prop)→Prop
def LiJ(K:A_)(Z:Hp)(te:TJ)(t:DTJ):Prop:=
 ∀{F:Hp}(ρ:DS)(σ:St)(H:Vw)(Q:Str→Prop),Rl K Z F H ρ σ→t ρ Q→∀R:Str→Hp→Prop,(∀y H',Le H H'→Q y→R y H'.h)→te σ H.h R
def DJ(X:Cx)(es:List Expr)(B:Nat)(t:DTJ):Prop:=∃te,PJ X es B te∧LiJ X.K (Zx X) te t
def Oz:DTJ:=fun _ Q=>Q Str.empty
def Oy(x:Str)(t:DTJ):DTJ:=fun ρ Q=>t ρ fun y=>Q (x++y)
def OA(te:DTE)(t:DTJ):DTJ:=fun ρ Q=>te ρ fun d=>∃i,d=.int i∧i.natAbs.log2<1000∧t ρ fun y=>Q (Str.ofString (toString i)++y)
def O0(t:DTJ):DTE:=fun ρ Q=>t ρ fun y=>Q (.str y)
section
variable{X:Cx}{e:Expr}{es:List Expr}{B:Nat}{x:Str}{p pos:Pos}
def zN:DJ X [] 0 Oz:=⟨_,UR,fun _ _ H _ _ h _ k=>k _ H (Le.refl H) h⟩
def zy{k}{t:DTJ}(h:DJ X es B t):DJ X (.Constant (.str x) k p::es) (x.length+B) (Oy x t):=let⟨_,h1,l⟩:=h
 ⟨_,UQ h1,fun ρ σ H _ r q _ k=>l ρ σ H _ r q _ fun y H' s z=>k _ H' s z⟩
def zF{te:DTE}{t:DTJ}(he:DE X e te)(h:DJ X es B t):DJ X (.FormattedValue e (-1) none p::es) (1001+B) (OA te t):=let⟨_,h1,l⟩:=h;let⟨_,h2,l2⟩:=he
 ⟨_,US h2 h1,fun ρ σ H _ r q _ k=>l2 ρ σ H _ r q _ fun d v H1 s1 i1 ⟨i,ed,hi,q1⟩=>by
  subst ed
  exact⟨i,is_int.mp i1,hi,l ρ σ H1 _ (r.mono s1) q1 _ fun y H' s z=>k _ H' (s1.trans s) z⟩⟩
def zH{e1:Expr}{t:DTJ}(h:DJ X (e::e1::es) B t)(hB:B≤sizeLine:=by decide +kernel):DE X (.JoinedStr (e::e1::es) pos) (O0 t):=let⟨_,h1,l⟩:=h
 ⟨_,bU h1 hB,fun ρ σ H _ r q _ k=>l ρ σ H _ r q _ fun y H' s z=>k _ _ H' s (is_str.mpr rfl) z⟩
def QJ{te:DTE}(h:DE X e te):DE X (.JoinedStr [e] pos) te:=let⟨_,h1,l⟩:=h; ⟨_,Ta h1,l⟩
end
end OD
namespace My
open PySem L2 OD
local macro_rules | `(tactic| walk_at "sc") => `(tactic| exact ⟨rfl, rfl, rfl, by decide +kernel, rfl, by decide +kernel, by decide +kernel⟩)
local macro_rules | `(tactic| walk_at "ln") => `(tactic| (intros; rename_i h; repeat (first | (obtain ⟨e, _⟩ := h; subst e; rfl) | obtain ⟨_, h⟩ := h)))
def rom{n k:Nat}{A:Around}(hr:Room k A)(h:n≤k:=by decide):Room n A:=hr.mono h
local macro_rules | `(tactic| walk_at "rd1") => `(tactic| first | refine ⟨_, rfl, ?_⟩ | refine ⟨_, _, rfl, rfl, ?_⟩ | refine ⟨_, _, _, _, rfl, rfl, rfl, ?_⟩ | refine ⟨_, _, _, rfl, rfl, rfl, ?_⟩ | refine Mx ?_ | refine Mz ?_ | refine ⟨rfl, rfl, ?_⟩ | refine ⟨rfl, ?_⟩ | refine ⟨Ug (by decide), ?_⟩ | refine ⟨ph (by decide), ?_⟩ | refine ⟨Ue (by decide), ?_⟩ | refine ⟨Oi (by decide), ?_⟩ | refine ⟨Qf (by decide), ?_⟩ | refine ⟨_, _, rfl, ?_⟩)
local macro_rules | `(tactic| walk_at "rd") => `(tactic| repeat (walk_at "rd1"))
def ifT{b:Bool}{A B:Prop}(e:b=true)(h:A):if b=true then A else B:=by rw[if_pos e];exact h
def ifF{b:Bool}{A B:Prop}(e:b=false)(h:B):if b=true then A else B:=by rw[if_neg (by rw[e];exact Ba)];exact h
def ifB{b:Bool}{A B:Prop}(h1:b=true→A)(h2:b=false→B):if b=true then A else B:=by
 cases b with
 | true=>exact ifT rfl (h1 rfl)
 | false=>exact ifF rfl (h2 rfl)
def eqI{a b:Int}(h:a=b):eqD (.int a) (.int b)=true:=by rw[vo];exact beq_iff_eq.mpr h
def neI{a b:Int}(h:a≠b):eqD (.int a) (.int b)=false:=by rw[vo];exact beq_eq_false_iff_ne.mpr h
def lC{a b:Int}(h:eqD (.int a) (.int b)=true):a=b:=by rw[vo]at h;exact beq_iff_eq.mp h
def lB{a b:Int}(h:eqD (.int a) (.int b)=false):a≠b:=by rw[vo]at h;exact beq_eq_false_iff_ne.mp h
def nT{b:Bool}(h:b=true):(!b)=false:=by rw[h];rfl
def nF{b:Bool}(h:b=false):(!b)=true:=by rw[h];rfl
def ku{b:Bool}(h:(!b)=true):b=false:=by cases b<;>first|rfl|cases h
def qR{b:Bool}(h:(!b)=false):b=true:=by cases b<;>first|rfl|cases h
def zM(ns:List Int):Dt:=.lst (ns.map Dt.int)
def wb(ns:List Int):List Int:=(ns.reverse.dropWhile (· == 0)).reverse
def bg:DSp:=fun ds Q=>∃ns k,ds=[.scr ns,.int k]∧0≤k∧∀z:Int,Q (.int z)
def jd:DSp:=fun ds Q=>∃ns:List Int,ds=[.scr ns]∧ns.length≤63∧Q (.bl true)
def sG{xs:List Int}{k:Int}(h0:0≤k)(h:k<xs.length):atI (xs.map Dt.int) k=some (.int (xs.getD k.toNat 0)):=by
 have e:((k.toNat:Nat):Int)=k:=Int.toNat_of_nonneg h0
 have hl:k.toNat<xs.length:=by omega
 have:=oS (j:=k.toNat) (xs:=xs.map Dt.int) (v:=.int (xs.getD k.toNat 0)) (by
  rw[Bn,Bh hl,Bq,Bh hl]
  rfl)
 rwa [e]at this
def WU{n:Nat}{k:Int}(h0:0≤k)(h:k<n):ixN n k=some k.toNat:=by
 unfold ixN
 rw[if_pos h0,if_pos h]
def dS{n:Nat}(h:0<n):ixN n (-1)=some (n-1):=by
 unfold ixN
 rw[if_neg (by decide),if_pos (by omega)]
 congr 1
 omega
def atI_last{xs:List Int}{z:Int}:atI ((xs++[z]).map Dt.int) (-1)=some (.int z):=by
 unfold atI
 rw[dS (by rw[A',Bo];exact Nat.succ_pos _)]
 show((xs++[z]).map Dt.int)[((xs++[z]).map Dt.int).length-1]? = _
 rw[A',Bo,BI,BD (by rw[A'];exact Nat.le_of_eq (Nat.add_sub_cancel ..).symm)]
 rw[List.length_map,show xs.length+[z].length-1-xs.length=0 by simp]
 rfl
def Vq{ds:List Dt}{lo hi:Option Int}{e:Dt}(h:e∈Vr ds lo hi):e∈ds:=List.mem_of_mem_drop (List.mem_of_mem_take h)
def dE{ns:List Int}{e:Dt}(h:e∈ns.map Dt.int):∃z,e=.int z:=by
 obtain⟨z,_,q⟩:=BB.mp h
 exact⟨z,q.symm⟩
def d9{ns:List Int}{i:Nat}{x:Dt}(h:(ns.map Dt.int)[i]? = some x):x=.int (ns.getD i 0)∧i<ns.length:=by
 rw[Bn]at h
 cases q:ns[i]? with
 | none=>rw[q]at h;cases h
 | some z=>
  rw[q]at h
  have hl:i<ns.length:=by
   rcases BQ i ns.length with h|h
   ·exact h
   ·rw[Bt h]at q;cases q
  rw[Bq,q]
  exact⟨(Option.some.inj h).symm,hl⟩
def rW(xs:List Int)(z:Int):xs.map Dt.int++[.int z]=(xs++[z]).map Dt.int:=by rw[BI];rfl
def io(xs:List Int):(xs.map Dt.int).dropLast=xs.dropLast.map Dt.int:=by rw[List.map_dropLast]
def yL(xs:List Int):(xs.map Dt.int).length=xs.length:=A' _
def iR:wb []=[]:=rfl
def jn(xs:List Int):wb (xs++[0])=wb xs:=by
 unfold wb
 rw[List.reverse_append]
 rfl
def bu{xs:List Int}{z:Int}(h:z≠0):wb (xs++[z])=xs++[z]:=by
 unfold wb
 rw[List.reverse_append]
 show(List.dropWhile _ (z::xs.reverse)).reverse=_
 rw[List.dropWhile_cons,if_neg (by simpa using h),List.reverse_cons,List.reverse_reverse]
def sN(xs:List Int):xs=[]∨∃l z,xs=l++[z]:=by
 rcases List.eq_nil_or_concat xs with h|⟨l,z,h⟩
 ·exact .inl h
 ·exact .inr ⟨l,z,by rw[h,List.concat_eq_append]⟩
def iT(xs:List Int):(wb xs).length≤xs.length:=by
 unfold wb
 rw[Bz]
 refine Br (List.dropWhile_sublist _).length_le ?_
 rw[Bz]
 exact Bg _
theorem o8{i:Nat}{D:DEnds}{ρ:DS}{ms:List Int}(hi:ρ[i]? = some (.own (ms.map Dt.int)))(q:D.nx (ρ.set i (.own ((wb ms).map Dt.int)))):
  cM (Ng (Ub i) (mm (dOp gEq (OW i (ON (dC (Dt.int 1)))) (dC (Dt.int 0))))) (OJ i) D ρ:=by
 have hl:i<ρ.length:=by
  rcases BQ i ρ.length with h|h
  ·exact h
  ·rw[Bt h]at hi;cases hi
 refine⟨fun m ρ'=>∃l:List Int,ρ'=ρ.set i (.own (l.map Dt.int))∧l.length=m∧wb l=wb ms,⟨_,ms,?_,rfl,rfl⟩,?_⟩
 ·apply List.ext_getElem?
  intro j
  by_cases hj:i=j
  ·subst hj;rw[Bu hl];exact hi
  ·rw[Be hj]
 ·rintro m ρ' ⟨l,rfl,rfl,ht⟩
  have hg:(ρ.set i (.own (l.map Dt.int)))[i]? = some (.own (l.map Dt.int)):=Bu hl
  refine⟨_,hg,?_⟩
  rcases sN l with rfl|⟨l',z,rfl⟩
  ·refine ifF rfl (ifF rfl ?_)
   rw[←ht,iR]at q
   exact q
  ·refine ifT (by simp) ?_
   refine⟨_,hg,_,rfl,_,_,rfl,atI_last,rfl,rfl,_,rfl,?_⟩
   by_cases hz:z=0
   ·refine ifT (eqI hz) ?_
    subst hz
    refine⟨_,hg,by simp,l'.length,by rw[List.length_append];exact Nat.lt_succ_self _,l',?_,rfl,?_⟩
    ·rw[io,List.dropLast_concat,List.set_set]
    ·rw[←ht,jn]
   ·refine ifF (neI hz) ?_
    rw[←ht,bu hz]at q
    exact q
inductive Kd where|plain|below|balanced|growing|falling|pairs
def Kd.num:Kd→Int
 | .plain=>0|.below=>1|.balanced=>2|.growing=>3|.falling=>4|.pairs=>5
def Kd.fld:Kd→Str
 | .plain=>"base" | .below=>"base" | .balanced=>"half" | .growing=>"first" | .falling=>"most" | .pairs=>"most"
def Kd.lo:Kd→Int
 | .plain=>2|.below=>2|.balanced=>1|.growing=>2|.falling=>1|.pairs=>1
def Kd.hi:Kd→Int
 | .plain=>60|.below=>60|.balanced=>30|.growing=>60|.falling=>9|.pairs=>9
def Kd.ok(k:Kd)(n:Int):Prop:=k.lo≤n∧n≤k.hi
def whole:Dt→Option Bool
 | .int _=>some true
 | .bl _=>some false
 | .tup _=>some false
 | .lst _=>some false
 | _=>none
def xk:DSp:=fun ds Q=>∃d b,ds=[d]∧whole d=some b∧Q (.bl b)
inductive Nm where|i (n:Int)|p (a b:Int)
deriving DecidableEq
def Nm.dt:Nm→Dt
 | .i n=>.int n
 | .p a b=>.tup [.int a,.int b]
def Nm.re:Nm→Int
 | .i n=>n
 | .p a _=>a
def Nm.im:Nm→Int
 | .i _=>0
 | .p _ b=>b
def Nm.mul:Nm→Nm→Nm
 | .i a,.i b=>.i (a*b)
 | m,n=>.p (m.re*n.re-m.im*n.im) (m.re*n.im+m.im*n.re)
def Nm.mulOk(m n:Nm):Prop:=IntMulOk m.re n.re∧IntMulOk m.im n.im∧IntMulOk m.re n.im∧IntMulOk m.im n.re
def qB:Dt→Option Nm
 | .int a=>some (.i a)
 | .tup [.int a,.int b]=>some (.p a b)
 | _=>none
def vw:DSp:=fun ds Q=>∃d m,ds=[d]∧qB d=some m∧Q (.tup [.int m.re,.int m.im])
def o0:DSp:=fun ds Q=>∃d e m n,ds=[d,e]∧qB d=some m∧qB e=some n∧m.mulOk n∧Q (m.mul n).dt
def yS{d:Dt}{m:Nm}(h:qB d=some m):d=m.dt:=by
 unfold qB at h
 split at h
 ·cases h;rfl
 ·cases h;rfl
 ·cases h
def xh(m:Nm):qB m.dt=some m:=by cases m<;>rfl
def small{n:Int}(h0:-1000000≤n)(h1:n≤1000000)(c:Int):IntMulOk c n:=Oi (by rw[decide_eq_true_iff];omega)
def pJ{n:Int}(h0:-1000000≤n)(h1:n≤1000000)(c:Int):IntMulOk n c:=Qf (by rw[decide_eq_true_iff];omega)
def Kd.four:Kd→Bool
 | .plain=>true|.below=>true|.balanced=>true|.growing=>true|_=>false
def Kd.five:Kd→Bool
 | .falling=>false|_=>true
def Kd.low:Kd→Int→Int→Int
 | .balanced,n,_=>-n
 | _,_,_=>0
def Kd.high:Kd→Int→Int→Int
 | .plain,n,_=>n-1
 | .below,n,_=>n-1
 | .balanced,n,_=>n
 | .growing,n,p=>n+p-1
 | .falling,n,_=>n
 | .pairs,n,_=>n*n
def Kd.rat:Kd→Int→Int→Int
 | .plain,n,_=>n
 | .below,n,_=>-n
 | .balanced,n,_=>2*n+1
 | .growing,n,p=>n+p
 | _,_,_=>0
def Kd.ratN:Kd→Int→Int→Nm
 | .pairs,n,_=>.p (-n) 1
 | k,n,p=>.i (k.rat n p)
def Nm.add:Nm→Nm→Nm
 | .i a,.i b=>.i (a+b)
 | m,n=>.p (m.re+n.re) (m.im+n.im)
def ut:DSp:=fun ds Q=>∃d e m n,ds=[d,e]∧qB d=some m∧qB e=some n∧Q (m.add n).dt
def Kd.zero:Kd→Nm
 | .pairs=>.p 0 0
 | _=>.i 0
def wtF(n:Int):Nat→Int×Int
 | 0=>(1,1)
 | j+1=>((wtF n j).2,n*(wtF n j).2+(wtF n j).1)
def wtR(k:Kd)(n:Int):Nat→Nm
 | 0=>k.zero.add (.i 1)
 | j+1=>(k.ratN n j).mul (wtR k n j)
def wt:Kd→Int→Nat→Nm
 | .falling,n,j=>.i (wtF n j).2
 | k,n,j=>wtR k n j
def wts(k:Kd)(n:Int)(m:Nat):List Dt:=(List.range m).map fun j=>(wt k n j).dt
def iI(k:Kd)(n:Int)(m:Nat):wts k n (m+1)=wts k n m++[(wt k n m).dt]:=by
 unfold wts
 rw[List.range_succ,BI]
 rfl
def vF(k:Kd)(n:Int)(m:Nat):(wts k n m).length=m:=by
 unfold wts
 rw[A',List.length_range]
def Ut{k:Kd}{n:Int}{m j:Nat}(h:j<m):(wts k n m)[j]? = some (wt k n j).dt:=by
 unfold wts
 rw[Bn,List.getElem?_range h]
 rfl
def nR{k:Kd}{n:Int}(h:k.ok n):1≤n∧n≤60:=by
 obtain⟨h1,h2⟩:=h
 cases k<;>simp only[Kd.lo,Kd.hi]at *<;>omega
def hU{k:Kd}{n p:Int}(h:k.ok n)(p0:0≤p)(p1:p≤1000):-1000000≤(k.ratN n p).re∧(k.ratN n p).re≤1000000∧-1000000≤(k.ratN n p).im∧(k.ratN n p).im≤1000000:=by
 obtain⟨h1,h2⟩:=nR h
 cases k<;>simp only[Kd.ratN,Kd.rat,Nm.re,Nm.im]<;>omega
def bG{k:Kd}{n p:Int}(h:k.ok n)(p0:0≤p)(p1:p≤1000)(m:Nm):(k.ratN n p).mulOk m:=by
 obtain⟨a,b,c,d⟩:=hU h p0 p1
 exact⟨pJ a b _,pJ c d _,pJ a b _,pJ c d _⟩
def kh{k:Kd}{n:Int}{j:Nat}(h:k.five=true):wt k n j=wtR k n j:=by cases k<;>first|rfl|cases h
def V6{a:Int}{k:Nat}(h:a.natAbs<2^k):Builtin.Int.intBits a≤k:=by
 rw[intBits_le_iff]
 exact h
def bdN(m:Nm)(k:Nat):Prop:=m.re.natAbs<2^k∧m.im.natAbs<2^k
def ot{a b:Int}{i j:Nat}(h:a.natAbs<2^i)(h':b.natAbs<2^j)(hij:i+j≤134217728):IntMulOk a b:=IntMulOk.of_le (V6 h) (V6 h') hij
def dB{m n:Nm}{i j:Nat}(h:bdN m i)(h':bdN n j)(hij:i+j≤134217728):m.mulOk n:=⟨ot h.1 h'.1 hij,ot h.2 h'.2 hij,ot h.1 h'.2 hij,ot h.2 h'.1 hij⟩
def bq(k:Kd)(n:Int)(ns:List Int):Nat→Nm
 | 0=>k.zero
 | j+1=>(bq k n ns j).add ((Nm.i (ns.getD j 0)).mul (wt k n j))
def bdR(ns:List Int):Prop:=∀t∈ns,t.natAbs<2^5000
def ko{ns:List Int}{i:Nat}{x:Dt}(h:(ns.map Dt.int)[i]? = some x):x=.int (ns.getD i 0)∧i<ns.length:=by
 rw[Bn]at h
 cases q:ns[i]? with
 | none=>rw[q]at h;cases h
 | some z=>
  rw[q]at h
  have hl:i<ns.length:=by
   rcases BQ i ns.length with h|h
   ·exact h
   ·rw[Bt h]at q;cases q
  rw[Bq,q]
  exact⟨(Option.some.inj h).symm,hl⟩
def Vz{ns:List Int}(h:bdR ns)(i:Nat):(ns.getD i 0).natAbs<2^5000:=by
 rw[Bq]
 cases q:ns[i]? with
 | none=>exact Nat.two_pow_pos 5000
 | some z=>exact h z (Bp q)
def bp{k:Kd}{n:Int}{m i:Nat}{y:Dt}(h:(wts k n m)[i]? = some y):y=(wt k n i).dt:=by
 have hl:i<m:=by
  rcases BQ i m with q|q
  ·exact q
  ·rw[Bt (by rw[vF];exact q)]at h;cases h
 rw[Ut hl]at h
 exact(Option.some.inj h).symm
theorem iK{n:Int}(h1:1≤n)(h2:n≤60):∀j:Nat,(wtF n j).1.natAbs<2^(12*j+1)∧(wtF n j).2.natAbs<2^(12*j+1)
 | 0=>⟨(by decide:(1:Int).natAbs<2^1),(by decide:(1:Int).natAbs<2^1)⟩
 | j+1=>by
  obtain⟨a,b⟩:=iK h1 h2 j
  have pw:2^(12*(j+1)+1)=2^(12*j+1)*4096:=by rw[show 12*(j+1)+1=(12*j+1)+12 by omega,Nat.pow_add]
  rw[pw]
  unfold wtF
  dsimp only
  generalize 2^(12 * j + 1)=B at *
  have hm:(n*(wtF n j).2).natAbs≤60*(wtF n j).2.natAbs:=by
   rw[Int.natAbs_mul]
   exact BL _ (by omega)
  have hs:=Int.natAbs_add_le (n*(wtF n j).2) (wtF n j).1
  exact⟨by omega,by omega⟩
def Qc(r w:Nm):(r.mul w).re=r.re*w.re-r.im*w.im:=by cases r<;>cases w<;>simp[Nm.mul,Nm.re,Nm.im]
def Qe(r w:Nm):(r.mul w).im=r.re*w.im+r.im*w.re:=by cases r<;>cases w<;>simp[Nm.mul,Nm.re,Nm.im]
theorem iJ{k:Kd}{n:Int}(h:k.ok n):∀j:Nat,j≤1000→bdN (wtR k n j) (12*j+1)
 | 0,_=>by cases k<;>exact⟨(by decide:(1:Int).natAbs<2^1),(by decide:(0:Int).natAbs<2^1)⟩
 | j+1,hj=>by
  obtain⟨a,b⟩:=iJ h j (by omega)
  have pw:2^(12*(j+1)+1)=2^(12*j+1)*4096:=by rw[show 12*(j+1)+1=(12*j+1)+12 by omega,Nat.pow_add]
  obtain⟨r1,r2,r3,r4⟩:=hU (p:=(j:Int)) h (by omega) (by omega)
  have hr:(k.ratN n j).re.natAbs≤2000∧(k.ratN n j).im.natAbs≤1:=by
   obtain⟨h1,h2⟩:=nR h
   cases k<;>simp only[Kd.ratN,Kd.rat,Nm.re,Nm.im]<;>constructor<;>omega
  unfold bdN
  rw[pw]
  unfold wtR
  generalize 2^(12 * j + 1)=B at *
  generalize k.ratN n j=r at *
  generalize wtR k n j=w at *
  obtain⟨c,d⟩:=hr
  have m1:(r.re*w.re).natAbs≤2000*w.re.natAbs:=by rw[Int.natAbs_mul];exact BL _ c
  have m2:(r.im*w.im).natAbs≤1*w.im.natAbs:=by rw[Int.natAbs_mul];exact BL _ d
  have m3:(r.re*w.im).natAbs≤2000*w.im.natAbs:=by rw[Int.natAbs_mul];exact BL _ c
  have m4:(r.im*w.re).natAbs≤1*w.re.natAbs:=by rw[Int.natAbs_mul];exact BL _ d
  have s1:(r.re*w.re-r.im*w.im).natAbs≤(r.re*w.re).natAbs+(r.im*w.im).natAbs:=by omega
  have s2:=Int.natAbs_add_le (r.re*w.im) (r.im*w.re)
  rw[Qc,Qe]
  exact⟨by omega,by omega⟩
def Q_{k:Kd}{n:Int}(h:k.ok n){j:Nat}(hj:j≤1000):bdN (wt k n j) (12*j+1):=by
 by_cases h5:k.five=true
 ·rw[kh h5];exact iJ h j hj
 ·cases k with
  | falling=>
   obtain⟨h1,h2⟩:=nR h
   exact⟨(iK h1 h2 j).2,show(0:Int).natAbs<_ from Nat.two_pow_pos _⟩
  | _=>exact absurd rfl h5
def M8{a:Int}{i:Nat}(h:a.natAbs<2^i):bdN (.i a) i:=⟨h,Nat.two_pow_pos _⟩
def Kd.isF:Kd→Bool
 | .falling=>true
 | _=>false
structure xF(k:Kd)(n:Int)(r:List Int):Prop where
 fig:∀p,p<r.length→k.low n p≤r.getD p 0∧r.getD p 0≤k.high n p
 fal:k.isF=true→∀p,p+1<r.length→r.getD (p+1) 0=n→r.getD p 0=0
 end_:r=[]∨r.getD (r.length-1) 0≠0
open Classical in
noncomputable def uc(k:Kd)(n:Int)(r:List Int):Bool:=decide (xF k n r)
open Classical in
def oy{k:Kd}{n:Int}{r:List Int}(h:xF k n r):uc k n r=true:=by unfold uc;exact decide_eq_true h
open Classical in
def sA{k:Kd}{n:Int}{r:List Int}(h:¬xF k n r):uc k n r=false:=by unfold uc;exact decide_eq_false h
def kb:DSp:=fun ds Q=>∃r,ds=[zM r]∧Q (zM (wb r))
def wX:Kd→Nm→Bool
 | .below,.i _=>true
 | .balanced,.i _=>true
 | .pairs,.p _ _=>true
 | .pairs,.i _=>false
 | _,.i a=>decide (0≤a)
 | _,.p _ _=>false
def pF(k:Kd)(n:Int)(r:List Int):Nm:=bq k n r r.length
def Kd.three:Kd→Bool
 | .plain=>true|.below=>true|.growing=>true|_=>false
def fJ(k:Kd)(n:Int)(j:Nat)(t:Int):Int:=k.low n j+(t-k.low n j).fmod (k.high n j-k.low n j+1)
def sJ(k:Kd)(n:Int)(j:Nat)(t:Int):Int:=(t-fJ k n j t).fdiv (k.rat n j)
def cJ(k:Kd)(n:Int)(ts:List Int):Nat→Int
 | 0=>0
 | j+1=>sJ k n j (cJ k n ts j+ts.getD j 0)
def fgJ(k:Kd)(n:Int)(ts:List Int)(j:Nat):List Int:=(List.range j).map fun i=>fJ k n i (cJ k n ts i+ts.getD i 0)
def crJ(k:Kd)(n:Int)(ts:List Int)(j:Nat):List Int:=(List.range j).map (cJ k n ts)
def cg(k:Kd)(n:Int)(ts:List Int)(j:Nat):fgJ k n ts (j+1)=fgJ k n ts j++[fJ k n j (cJ k n ts j+ts.getD j 0)]:=by unfold fgJ;rw[List.range_succ,List.map_append];rfl
def cS(k:Kd)(n:Int)(ts:List Int)(j:Nat):crJ k n ts (j+1)=crJ k n ts j++[cJ k n ts j]:=by unfold crJ;rw[List.range_succ,List.map_append];rfl
structure iG(k:Kd)(n:Int)(ts:List Int)(J:Nat):Prop where
 le:ts.length≤J
 nz:∀j,ts.length≤j→j<J→cJ k n ts j≠0∧wX k (.i (cJ k n ts j))=true
def wG:DSp:=fun ds Q=>∃xs p,ds=[.lst xs,.int p]∧0≤p∧Q (xs.getD p.toNat (.int 0))
def rM(a:List Int)(i:Nat):(a.map Dt.int).getD i (.int 0)=.int (a.getD i 0):=by
 rw[Bq,Bq,Bn]
 cases a[i]?<;>rfl
def stB(t:Int):Int:=sJ .below 2 0 t
def mL(t:Int):stB t=-(t/2)∧0≤fJ .below 2 0 t∧fJ .below 2 0 t≤1:=by
 have e:fJ .below 2 0 t=t%2:=by
  show 0+(t-0).fmod 2=_
  rw[Int.fmod_eq_emod_of_nonneg _ (by decide)]
  omega
 refine⟨?_,by rw[e];omega,by rw[e];omega⟩
 show(t-fJ .below 2 0 t).fdiv (-2)=_
 rw[e,←Int.neg_neg (t-t%2),Int.neg_fdiv_neg,Int.fdiv_eq_ediv_of_nonneg _ (by decide)]
 omega
def itB(t:Int):Nat→Int
 | 0=>t
 | i+1=>stB (itB t i)
theorem rG(t:Int):∀i,itB t (i+1)=itB (stB t) i
 | 0=>rfl
 | i+1=>congrArg stB (rG t i)
theorem hG:∀(b:Nat)(t:Int),t.natAbs≤2^b→∃i,i≤b+2∧itB t i=0∧∀j,j<i→itB t j≠0
 | 0,t,h=>by
  have h:t.natAbs≤1:=h
  rcases(by omega:t=0∨t=1∨t=-1) with rfl|rfl|rfl
  ·exact⟨0,by decide,rfl,fun j h=>absurd h (Nat.not_lt_zero _)⟩
  ·exact⟨1,by decide,by decide,fun j h=>by obtain rfl:j=0:=(by omega);decide⟩
  ·exact⟨2,by decide,by decide,fun j h=>by rcases(by omega:j=0∨j=1) with rfl|rfl<;>decide⟩
 | b+1,t,h=>by
  rw[Nat.pow_succ]at h
  by_cases h0:t=0
  ·exact⟨0,BY _,h0,fun j h=>absurd h (Nat.not_lt_zero _)⟩
  ·have hs:=(mL t).1
   obtain⟨i,h1,h2,h3⟩:=hG b (stB t) (by rw[hs];generalize 2^b=B at *; omega)
   refine⟨i+1,by omega,by rw[rG];exact h2,fun j hj=>?_⟩
   cases j with
   | zero=>exact h0
   | succ j=>rw[rG];exact h3 j (by omega)
theorem cW(m:Int):∀i,cJ .below 2 [m] (i+1)=itB (stB m) i
 | 0=>by
  show stB (0+m)=stB m
  rw[Int.zero_add]
 | i+1=>by
  show stB (cJ .below 2 [m] (i+1)+0)=stB (itB (stB m) i)
  rw[Int.add_zero,cW m i]
def Q0{m:Int}{b:Nat}(h:m.natAbs≤2^b):∃J,iG .below 2 [m] J∧cJ .below 2 [m] J=0∧J≤b+3:=by
 obtain⟨i,h1,h2,h3⟩:=hG b (stB m) (by rw[(mL m).1];generalize 2^b=B at *; omega)
 refine⟨i+1,⟨by show 1≤i+1;omega,fun j hj hi=>?_⟩,by rw[cW];exact h2,by omega⟩
 have hj:1≤j:=hj
 obtain⟨j,rfl⟩:∃j',j=j'+1:=⟨j-1,by omega⟩
 rw[cW]
 exact⟨h3 j (by omega),rfl⟩
def iS{z:Int}{l:List Int}(h:z∈wb l):z∈l:=BE.mp ((List.dropWhile_sublist _).subset (BE.mp h))
def Ow{m:Int}{J:Nat}:∀z∈wb (fgJ .below 2 [m] J),0≤z∧z≤1:=fun z hz=>by
 obtain⟨i,_,rfl⟩:=BB.mp (iS hz)
 exact(mL _).2
def kG(k:Kd)(n:Int)(ts:List Int)(j:Nat):(fgJ k n ts j).length=j:=by unfold fgJ;rw[List.length_map,List.length_range]
def Vs(k:Kd)(n:Int)(ts:List Int)(j:Nat):(crJ k n ts j).length=j:=by unfold crJ;rw[List.length_map,List.length_range]
def vZ(k:Kd):DSp:=fun ds Q=>∃o d m,ds=[o,d]∧qB d=some m∧Q (.bl (wX k m))
def isP:Nm→Bool
 | .p _ _=>true
 | _=>false
def u_:DSp:=fun ds Q=>∃d m,ds=[d]∧qB d=some m∧Q (.bl (isP m))
def tl(x:Str):List Nat:=x.cps.toList
def ye{x y:Str}(h:tl x=tl y):x=y:=by
 cases x;cases y
 unfold tl at h
 simp only at h
 congr 1
 exact Array.ext' h
def asc(x:Str):Prop:=∀c∈tl x,c<128
def VB{x:Str}(h:asc x):x.cps.all (· < 128)=true:=by
 rw[←Array.all_toList,Bs]
 exact fun c hc=>decide_eq_true (h c hc)
def yt(x:Str):(tl x).length=x.length:=by unfold tl;simp[Str.length]
def yB(x y:Str):tl (x++y)=tl x++tl y:=by
 show(x.cps++y.cps).toList=_
 simp[tl]
def jq{x:Str}{l u:Option Int}{c:Nat}(h:c∈tl (Txt.slice x l u)):c∈tl x:=by
 unfold Txt.slice tl at h
 split at h
 ·exact h
 ·simp only[List.mem_filterMap]at h
  obtain⟨i,_,hi⟩:=h
  have hi:(tl x)[i]? = some c:=by unfold tl;rw[Array.getElem?_toList];exact hi
  exact Bp hi
def pB{x:Str}{l u:Option Int}(h:asc x):asc (Txt.slice x l u):=fun c hc=>h c (jq hc)
def qK(x:Str)(l u:Option Int):(Txt.slice x l u).length≤x.length:=Txt.slice_le x l u
def sO{x:Str}{i:Int}(h0:0≤i)(h1:i≤(tl x).length):tl (Txt.slice x (some i) none)=(tl x).drop i.toNat:=by
 have e:Txt.slice x (some i) none=StrLaws.sliceText x (some i) none:=rfl
 rw[e,StrLaws.sliceText_from ⟨h0,h1⟩]
 show(((tl x).drop i.toNat).take ((((tl x).length:Nat):Int)-i).toNat)=_
 rw[List.take_of_length_le]
 rw[List.length_drop];omega
def x6(x y:Str):(x==y)=decide (tl x=tl y):=by
 by_cases h:x=y
 ·subst h;simp
 ·rw[beq_eq_false_iff_ne.mpr h,decide_eq_false fun z=>h (ye z)]
def ng(x:Str):Txt.startswith x "-"=decide ((tl x).head? = some 45):=by
 unfold Txt.startswith Builtin.Str.subAt
 have e:(("-":Str)).cps=#[45]:=by decide +kernel
 have el:(("-":Str)).length=1:=by decide +kernel
 rw[e,el]
 obtain⟨⟨l⟩⟩:=x
 cases l with
 | nil=>rfl
 | cons c r=>
  show(decide (0+1≤r.length+1)&&((⟨c::r⟩:Array Nat).extract 0 (0+1) == #[45]))=decide (some c=some 45)
  rw[decide_eq_true (by omega),Bool.true_and]
  have e2:(⟨c::r⟩:Array Nat).extract 0 (0+1)=#[c]:=by simp
  rw[e2]
  by_cases h:c=45
  ·subst h;rfl
  ·rw[decide_eq_false (by simpa using h)]
   simpa using h
def aj(c:Nat):occ ⟨#[c]⟩ "0123456789"=(decide (48≤c)&&decide (c≤57)):=by
 unfold occ
 rw[StrLaws.found_one]
 have e:(("0123456789":Str)).cps.toList=[48,49,50,51,52,53,54,55,56,57]:=by decide +kernel
 rw[e]
 by_cases h:48≤c∧c≤57
 ·rw[decide_eq_true h.1,decide_eq_true h.2]
  rcases(by omega:c=48∨c=49∨c=50∨c=51∨c=52∨c=53∨c=54∨c=55∨c=56∨c=57) with rfl|rfl|rfl|rfl|rfl|rfl|rfl|rfl|rfl|rfl<;>rfl
 ·have:c∉[48,49,50,51,52,53,54,55,56,57]:=fun hc=>h (by simp at hc;omega)
  rw[decide_eq_false this]
  by_cases h1:48≤c
  ·rw[decide_eq_true h1,decide_eq_false (by omega)];rfl
  ·rw[decide_eq_false h1];rfl
def w4(c:Nat):Bool:=decide (48≤c)&&decide (c≤57)
def figB_iff{c:Nat}:w4 c=true↔zQ c:=by
 unfold w4 zQ
 rw[Bb,decide_eq_true_iff,decide_eq_true_iff]
def fg(x:Str):List Nat:=if(tl x).head? = some 45 then(tl x).drop 1 else tl x
open Classical in
noncomputable def wv(x:Str):Option Int:=if Numl (tl x)∧(fg x).length≤60 then some (dgVal (tl x)) else none
def V9{x:Str}{f:List Nat}(hf:f=fg x):(tl x=f∧(tl x).head?≠some 45)∨tl x=45::f:=by
 subst hf
 unfold fg
 by_cases h:(tl x).head? = some 45
 ·rw[if_pos h]
  cases e:tl x with
  | nil=>rw[e]at h;cases h
  | cons c r=>rw[e]at h;cases h;exact .inr rfl
 ·rw[if_neg h];exact .inl ⟨rfl,h⟩
def yz{x:Str}{f:List Nat}(hf:f=fg x):Numl (tl x)↔(f≠[]∧(∀c∈f,zQ c)∧(f.head? = some 48→tl x=[48])):=by
 constructor
 ·intro h
  rcases h with h|⟨c,r,c1,c2,hr,h|h⟩
  ·have e:f=[48]:=by rw[hf];unfold fg;rw[h];rfl
   subst e
   exact⟨fun z=>(nomatch z),fun c hc=>by rw[By.mp hc];exact⟨by decide,by decide⟩,fun _=>h⟩
  ·have e:f=c::r:=by
    rw[hf];unfold fg;rw[h,if_neg]
    intro z
    have:c=45:=Option.some.inj z
    omega
   subst e
   refine⟨fun z=>(nomatch z),fun x hx=>?_,fun z=>absurd (Option.some.inj z) (by omega)⟩
   rcases Bk.mp hx with rfl|hx
   ·exact⟨by omega,by omega⟩
   ·exact hr x hx
  ·have e:f=c::r:=by rw[hf];unfold fg;rw[h];rfl
   subst e
   refine⟨fun z=>(nomatch z),fun x hx=>?_,fun z=>absurd (Option.some.inj z) (by omega)⟩
   rcases Bk.mp hx with rfl|hx
   ·exact⟨by omega,by omega⟩
   ·exact hr x hx
 ·rintro⟨h1,h2,h3⟩
  cases f with
  | nil=>exact absurd rfl h1
  | cons c r=>
   by_cases hc:c=48
   ·subst hc;exact .inl (h3 rfl)
   ·have d:=h2 c Bi
    unfold zQ at d
    refine .inr ⟨c,r,by omega,by omega,fun x hx=>h2 x (Bd _ hx),?_⟩
    rcases V9 hf with ⟨e,_⟩|e
    ·exact .inl e
    ·exact .inr e
def dg(n:Nat):List Nat:=(Nat.toDigits 10 n).map Char.toNat
def Pe(s:String):tl (Str.ofString s)=s.toList.map Char.toNat:=by unfold tl;rw[PySem.Str.ofString_eq_toList]
def mK(n:Nat):tl (Str.ofString (toString (n:Int)))=dg n:=by
 rw[Pe]
 have e:(toString (n:Int))=Nat.repr n:=rfl
 rw[e,Nat.toList_repr];rfl
def yN(n:Nat):∀c∈dg n,zQ c:=fun c hc=>by
 obtain⟨d,hd,rfl⟩:=BB.mp hc
 have:=Nat.isDigit_of_mem_toDigits (b:=10) (by decide) (by decide) hd
 unfold Char.isDigit at this
 rw[Bb,decide_eq_true_iff,decide_eq_true_iff]at this
 exact⟨this.1,this.2⟩
def rQ{d:Nat}(h:d<10):dg d=[48+d]:=by
 unfold dg
 rw[Nat.toDigits_of_lt_base h]
 rcases(by omega:d=0∨d=1∨d=2∨d=3∨d=4∨d=5∨d=6∨d=7∨d=8∨d=9) with rfl|rfl|rfl|rfl|rfl|rfl|rfl|rfl|rfl|rfl<;>rfl
def Vh{n d:Nat}(hn:0<n)(hd:d<10):dg (10*n+d)=dg n++dg d:=by
 unfold dg
 rw[←Nat.toDigits_append_toDigits (by decide) hn hd,BI]
def Tf(k:Nat)(l:List Nat):List Nat:=List.replicate (k-l.length) 48++l
def wD{n k:Nat}(hk:0<k)(h:n<10^k):(dg n).length≤k:=by
 unfold dg
 rw[A']
 exact(Nat.length_toDigits_le_iff (by decide) hk).mpr h
def vq(n:Nat):∃c r,dg n=c::r∧zQ c:=by
 cases e:dg n with
 | nil=>unfold dg at e;exact absurd (List.map_eq_nil_iff.mp e) Nat.toDigits_ne_nil
 | cons c r=>exact⟨c,r,rfl,yN n c (by rw[e];exact Bi)⟩
def Pd{x:Str}{k:Nat}{c:Nat}{r:List Nat}(h:tl x=c::r)(hc:zQ c):tl (Txt.zfill x (k:Int))=Tf k (tl x):=by
 have hl:=yt x
 unfold Txt.zfill
 split
 ·rename_i hk
  have:k-(tl x).length=0:=by omega
  unfold Tf;rw[this];rfl
 ·rename_i hk
  unfold zfilled
  have e0:x.cps[0]? = some c:=by
   have:x.cps.toList[0]? = some c:=by show(tl x)[0]? = _;rw[h];rfl
   simpa using this
  rw[e0]
  have key:(match some c with|some 43|some 45=>Builtin.Str.strSub x 0 1++Builtin.Str.padded (Builtin.Str.strSub x 1 x.length) ((k:Int).toNat-x.length) 0 48|_=>Builtin.Str.padded x ((k:Int).toNat-x.length) 0 48)=Builtin.Str.padded x ((k:Int).toNat-x.length) 0 48:=by
   rcases ten hc with rfl|rfl|rfl|rfl|rfl|rfl|rfl|rfl|rfl|rfl<;>rfl
  refine(congrArg tl key).trans ?_
  unfold Builtin.Str.padded Tf
  show(Array.replicate _ 48++x.cps++Array.replicate 0 48).toList=_
  rw[hl]
  simp[tl]
theorem bv:∀ts:List Str,tl (Txt.join ("":Str) ts)=(ts.map tl).flatten
 | []=>rfl
 | [x]=>by
  show tl (Builtin.Str.glued _ [x])=_
  rw[StrLaws.glued_eq_join]
  show tl x=_
  simp
 | x::y::r=>by
  have ih:=bv (y::r)
  have e1:Txt.join ("":Str) (x::y::r)=x++("":Str)++Txt.join ("":Str) (y::r):=by
   show Builtin.Str.glued _ _=_++_++Builtin.Str.glued _ _
   rw[StrLaws.glued_eq_join,StrLaws.glued_eq_join];rfl
  rw[e1,yB,yB,ih]
  have e2:tl ("":Str)=[]:=by decide +kernel
  rw[e2,Bv]
  show _=(tl x::(y::r).map tl).flatten
  rw[BS]
def shw(i:Int):Str:=Str.ofString (toString i)
def Qi{n:Nat}{k:Nat}(hk:0<k)(h:n<2^k):n.log2<k:=by
 rcases Nat.eq_zero_or_pos n with rfl|hp
 ·exact hk
 ·exact(Nat.log2_lt (by omega)).mpr h
def Qs(a b:Nat):((a:Int)).fmod (b:Int)=((a%b:Nat):Int):=by rw[Int.fmod_eq_emod_of_nonneg _ (Int.natCast_nonneg b)];rfl
def Qv(a b:Nat):((a:Int)).fdiv (b:Int)=((a/b:Nat):Int):=by rw[Int.fdiv_eq_ediv_of_nonneg _ (Int.natCast_nonneg b)];rfl
def qU{n:Nat}(h:n<10^41):((n:Int)).natAbs.log2<1000:=B0 (Qi (k:=200) (by decide) (B0 (by rw[Int.natAbs_natCast];exact h) (by decide))) (by decide)
def mD:DSp:=fun ds Q=>∃n:Nat,ds=[.int n]∧n<10∧Q (.str (shw n))
def mx(x:Str):Bool:=(tl x).all w4
def o6:DSp:=fun ds Q=>∃x,ds=[.str x]∧asc x∧Q (.bl (mx x))
def allFg_iff{x:Str}:mx x=true↔∀c∈tl x,zQ c:=by
 unfold mx
 rw[Bs]
 exact⟨fun h c hc=>figB_iff.mp (h c hc),fun h c hc=>figB_iff.mpr (h c hc)⟩
def ss{x:Str}(h:Numl (tl x))(hl:(fg x).length≤60):wv x=some (dgVal (tl x)):=if_pos ⟨h,hl⟩
def xa{x:Str}(h:¬(Numl (tl x)∧(fg x).length≤60)):wv x=none:=if_neg h
def pI{f:Str}:(f==("":Str))=decide (tl f=[]):=by
 rw[x6]
 have e:tl ("":Str)=[]:=by decide +kernel
 rw[e]
def mr{f:Str}{c:Nat}{r:List Nat}(h:tl f=c::r):f.cps[Int.toNat 0]? = some c:=by
 have:f.cps.toList[0]? = some c:=by show(tl f)[0]? = _;rw[h];rfl
 simpa using this
def s_(c:Nat):((⟨#[c]⟩:Str)==("0":Str))=decide (c=48):=by
 rw[x6]
 have e:tl ("0":Str)=[48]:=by decide +kernel
 rw[e]
 show decide ([c]=[48])=_
 simp
def uT(x:Str):(x==("0":Str))=decide (tl x=[48]):=by
 rw[x6]
 have e:tl ("0":Str)=[48]:=by decide +kernel
 rw[e]
def Kd.nam:Kd→Str
 | .plain=>.ofString "plain"
 | .below=>.ofString "below"
 | .balanced=>.ofString "balanced"
 | .growing=>.ofString "growing"
 | .falling=>.ofString "falling"
 | .pairs=>.ofString "pairs"
theorem kE:∀(l:List Nat)(a:Nat),a*10^l.length≤l.foldl (fun a c=>a*10+(c-48)) a
 | [],a=>by simp
 | c::l,a=>by
  show a*10^(l.length+1)≤l.foldl (fun a c=>a*10+(c-48)) (a*10+(c-48))
  refine Br ?_ (kE l _)
  have:=BL (10^l.length) (show a*10≤a*10+(c-48) by omega)
  rw[Nat.pow_succ',←Nat.mul_assoc]
  exact this
def QC{c:Nat}{r:List Nat}(h:49≤c):10^r.length≤dgs (c::r):=by
 show _≤r.foldl (fun a c=>a*10+(c-48)) (0*10+(c-48))
 refine Br ?_ (kE r _)
 have:=BL (10^r.length) (show 1≤0*10+(c-48) by omega)
 rwa [Nat.one_mul]at this
def cD(l:List Nat)(c:Nat):dgs (l++[c])=dgs l*10+(c-48):=by unfold dgs;rw[List.foldl_append];rfl
def vU(m:Nat):dgs (dg m)=m:=by
 induction m using Nat.strongRecOn with
 | ind m ih=>
  by_cases h:m<10
  ·rw[rQ h]
   show 0*10+(48+m-48)=m
   omega
  ·have e:m=10*(m/10)+m%10:=by omega
   have e2:dg m=dg (m/10)++[48+m%10]:=by
    conv=>lhs;rw[e]
    rw[Vh (by omega) (Nat.mod_lt _ (by decide)),rQ (Nat.mod_lt _ (by decide))]
   rw[e2,cD,ih (m/10) (by omega)]
   omega
def vC(m:Nat):dg m≠[]:=by
 obtain⟨c,r,e,_⟩:=vq m
 rw[e];exact BF _ _
def vH(m:Nat):tl (shw (m:Int))=dg m:=by unfold shw;exact mK m
def lW(m:Nat):dgVal (dg m)=(m:Int):=by
 have h:=vU m
 obtain⟨c,r,e,hc⟩:=vq m
 rw[e]at h ⊢
 unfold dgVal
 split
 ·rename_i heq
  have:c=45:=(List.cons.inj heq).1
  unfold zQ at hc
  omega
 ·rw[h]
theorem kD:∀(l:List Nat)(a:Nat),(∀c∈l,zQ c)→l.foldl (fun a c=>a*10+(c-48)) a<(a+1)*10^l.length
 | [],a,_=>by simp
 | c::l,a,h=>by
  have hc:=h c Bi
  unfold zQ at hc
  show l.foldl (fun a c=>a*10+(c-48)) (a*10+(c-48))<(a+1)*10^(l.length+1)
  refine Bj (kD l _ fun c hc=>h c (Bd _ hc)) ?_
  rw[Nat.pow_succ',←Nat.mul_assoc]
  exact BL _ (by omega)
def u4{m:Nat}(h:1≤m):(dg m).head?≠some 48:=by
 intro z
 obtain⟨c,r,e,hc⟩:=vq m
 rw[e]at z
 have:c=48:=Option.some.inj z
 subst this
 by_cases hm:m<10
 ·rw[rQ hm]at e
  have:=(List.cons.inj e).1
  omega
 ·have hl:(dg m).length=r.length+1:=by rw[e];rfl
  have h1:dgs (dg m)=dgs r:=by
   rw[e]
   show r.foldl _ (0*10+(48-48))=r.foldl _ 0
   rfl
  rw[vU]at h1
  have lt:∀l:List Nat,(∀c∈l,zQ c)→dgs l<10^l.length:=fun l h=>by have:=kD l 0 h;rwa [Nat.zero_add,Nat.one_mul]at this
  have h2:=lt r fun c hc=>yN m c (by rw[e];exact Bd _ hc)
  rw[←h1]at h2
  have hr:0<r.length:=by
   cases r with
   | nil=>have:m<10^0:=h2;omega
   | cons _ _=>exact Nat.succ_pos _
  have h3:=wD hr h2
  omega
def VM{x:Str}{m:Nat}(e:tl x=dg m)(h1:1≤m)(h2:m≤60):wv x=some (m:Int):=by
 obtain⟨c,r,ec,hc⟩:=vq m
 have hd:(tl x).head?≠some 45:=by
  rw[e,ec]
  intro z
  have:c=45:=Option.some.inj z
  unfold zQ at hc
  omega
 have ef:fg x=dg m:=by unfold fg;rw[if_neg hd,e]
 have hn:Numl (tl x):=(yz ef.symm).mpr ⟨vC m,yN m,fun z=>absurd z (u4 h1)⟩
 rw[ss hn (by rw[ef];exact Br (wD (k:=2) (by decide) (by omega)) (by decide)),e,lW]
def kj:∀c d:_root_.Fin 58,49≤c.val→48≤d.val→dg (dgs [c.val])=[c.val]∧dg (dgs [c.val,d.val])=[c.val,d.val]:=by decide +kernel
def OB{x:Str}{i:Int}(hd:∀c∈tl x,zQ c)(h:wv x=some i)(h1:1≤i)(h2:i≤60):tl x=dg i.toNat:=by
 unfold wv at h
 split at h
 ·rename_i hh
  cases h
  obtain⟨hn,_⟩:=hh
  rcases hn with hn|⟨c,r,c1,c2,hr,hn|hn⟩
  ·rw[hn]at h1
   exact absurd h1 (by decide)
  ·have ev:dgVal (tl x)=(dgs (c::r):Int):=by
    rw[hn]
    unfold dgVal
    split
    ·rename_i heq
     have:c=45:=(List.cons.inj heq).1
     omega
    ·rfl
   rw[ev]at h2 ⊢
   rw[hn,BU]
   have g:=QC (c:=c) (r:=r) c1
   match r,hr,g,h2 with
   | [],_,_,_=>exact((kj ⟨c,by omega⟩ ⟨48,by decide⟩ c1 (by decide)).1).symm
   | [d],hr,_,_=>
    have hd:=hr d Bi
    unfold zQ at hd
    exact((kj ⟨c,by omega⟩ ⟨d,by omega⟩ c1 hd.1).2).symm
   | d::d'::r',_,g,h2=>
    have:10^2≤10^(d::d'::r').length:=Nat.pow_le_pow_right (by decide) (by simp)
    omega
  ·have:=hd 45 (by rw[hn];exact Bi)
   unfold zQ at this
   omega
 ·cases h
def jU(k:Kd):∀c∈tl k.nam,97≤c∧c≤122:=by cases k<;>decide +kernel
def Qb(k:Kd):tl k.nam≠[]:=by cases k<;>decide +kernel
def kA{k j:Kd}(h:tl k.nam=tl j.nam):k=j:=by
 revert h
 cases k<;>cases j<;>first|(intro _;rfl)|(intro h;exact absurd h (by decide +kernel))
theorem p9:∀{u v u' v':List Nat},u++v=u'++v'→(∀c∈u,¬zQ c)→(∀c∈u',¬zQ c)→(∀c∈v,zQ c)→(∀c∈v',zQ c)→u=u'∧v=v'
 | [],v,[],v',h,_,_,_,_=>⟨rfl,h⟩
 | [],v,c::r,v',h,_,h2,h3,_=>absurd (h3 c (by rw[show v=c::(r++v') from h];exact Bi)) (h2 c Bi)
 | c::r,v,[],v',h,h1,_,_,h4=>absurd (h4 c (by rw[←show c::(r++v)=v' from h];exact Bi)) (h1 c Bi)
 | c::r,v,c'::r',v',h,h1,h2,h3,h4=>by
  have h':c::(r++v)=c'::(r'++v'):=h
  obtain⟨e1,e2⟩:=List.cons.inj h'
  obtain⟨e3,e4⟩:=p9 e2 (fun c hc=>h1 c (Bd _ hc)) (fun c hc=>h2 c (Bd _ hc)) h3 h4
  exact⟨by rw[e1,e3],e4⟩
def rB(k:Kd):∀c∈tl k.nam,¬zQ c:=fun c hc z=>by
 have:=jU k c hc
 unfold zQ at z
 omega
def xy{k:Kd}{n:Int}(h:k.ok n):∃m:Nat,n=m∧1≤m∧m≤60:=by
 obtain⟨h1,h2⟩:=h
 refine⟨n.toNat,?_,?_,?_⟩<;>cases k<;>simp only[Kd.lo,Kd.hi]at *<;>omega
def yk{k:Kd}{m:Nat}:tl (k.nam++shw (m:Int))=tl k.nam++dg m:=by rw[yB,vH]
def Bad(x:Str):Prop:=∀k n,Kd.ok k n→x≠k.nam++shw n
def c3{x:Str}{u v:List Nat}(hx:tl x=u++v)(hu:∀c∈u,¬zQ c)(hv:∀c∈v,zQ c)(h:∀(k:Kd)(m:Nat),k.ok m→u=tl k.nam→v=dg m→False):Bad x:=fun k n hn e=>by
 obtain⟨m,rfl,_,_⟩:=xy hn
 rw[e,yk]at hx
 obtain⟨e1,e2⟩:=p9 hx (rB k) hu (yN m) hv
 exact h k m hn e1.symm e2.symm
def rK{k k':Kd}{n n':Int}(h:k.ok n)(h':k'.ok n')(e:k.nam++shw n=k'.nam++shw n'):k=k'∧n=n':=by
 obtain⟨m,rfl,_,_⟩:=xy h
 obtain⟨m',rfl,_,_⟩:=xy h'
 have e':=congrArg tl e
 rw[yk,yk]at e'
 obtain⟨e1,e2⟩:=p9 e' (rB k) (rB k') (yN m) (yN m')
 have:=congrArg dgs e2
 rw[vU,vU]at this
 exact⟨kA e1,by rw[this]⟩
def WL:tl (Str.ofString "0")=[48]:=by decide +kernel
def l_{k:Kd}{m:Nat}:Bad (k.nam++Str.ofString "0"++shw (m:Int)):=c3 (u:=tl k.nam) (v:=48::dg m) (by rw[yB,yB,vH,WL,List.append_assoc];rfl) (rB k) (fun c hc=>by
 rcases Bk.mp hc with rfl|hc
 ·exact⟨by decide,by decide⟩
 ·exact yN m c hc) fun k' m' hn e1 e2=>by
 have h1:=congrArg dgs e2
 have h2:dgs (48::dg m)=dgs (dg m):=rfl
 rw[h2,vU,vU]at h1
 subst h1
 have:=congrArg List.length e2
 rw[Bm]at this
 omega
def Qu(c:Nat):(Str.ofString "0123456789").cps.contains c=w4 c:=by
 have e:(Str.ofString "0123456789").cps=#[48,49,50,51,52,53,54,55,56,57]:=by decide +kernel
 rw[e,BW,figB_iff]
 unfold zQ
 rw[Array.contains_iff_mem]
 simp
 omega
def vI(l:List Nat):List Nat:=(l.reverse.takeWhile w4).reverse
def iW(l:List Nat):∀c∈vI l,zQ c:=fun c hc=>by
 have h:=List.all_takeWhile (p:=w4) (l:=l.reverse)
 exact figB_iff.mp (Bs.mp h c (BE.mp hc))
def iV(l:List Nat):(vI l).length≤l.length:=by
 unfold vI
 rw[Bz,←List.length_reverse (as:=l)]
 exact(List.takeWhile_sublist _).length_le
def bw(l:List Nat):l.take (l.length-(vI l).length)++vI l=l:=by
 have h:=List.takeWhile_append_dropWhile (p:=w4) (l:=l.reverse)
 have h2:=congrArg List.reverse h
 rw[List.reverse_append,List.reverse_reverse]at h2
 have h4:l.length=(l.reverse.dropWhile w4).reverse.length+(vI l).length:=by
  have:=congrArg List.length h2
  rw[Bo]at this
  exact this.symm
 have h5:l.take (l.length-(vI l).length)=(l.reverse.dropWhile w4).reverse:=by
  rw[h4,Nat.add_sub_cancel]
  have h6:=congrArg (List.take (l.reverse.dropWhile w4).reverse.length) h2
  rw[List.take_left' rfl]at h6
  exact h6.symm
 rw[h5]
 exact h2
def o_(x:Str):tl (Txt.rstripChars x (Str.ofString "0123456789"))=(tl x).take ((tl x).length-(vI (tl x)).length):=by
 unfold Txt.rstripChars
 rw[PyProof.Rows.stripBy_eq]
 have e:(Str.ofString "0123456789").cps.contains=w4:=funext Qu
 rw[e]
 show(x.cps.extract 0 _).toList=_
 rw[Array.toList_extract,List.extract_eq_drop_take]
 show(((tl x).drop 0).take (x.length-((tl x).reverse.takeWhile w4).length-0))=_
 rw[List.drop_zero,Nat.sub_zero,yt]
 unfold vI
 rw[Bz]
def qY{k:Kd}{m:Nat}:vI (tl (k.nam++shw (m:Int)))=dg m:=by
 rw[yk]
 unfold vI
 rw[List.reverse_append,List.takeWhile_append_of_pos fun c hc=>figB_iff.mpr (yN m c (BE.mp hc))]
 cases e:(tl k.nam).reverse with
 | nil=>exact absurd (List.reverse_eq_nil_iff.mp e) (Qb k)
 | cons c r=>
  have hc:c∈tl k.nam:=BE.mp (by rw[e];exact Bi)
  rw[List.takeWhile_cons_of_neg fun z=>rB k c hc (figB_iff.mp z),Bv,List.reverse_reverse]
def lN{k:Kd}{m:Nat}:tl (Txt.rstripChars (k.nam++shw (m:Int)) (Str.ofString "0123456789"))=tl k.nam:=by
 rw[o_,qY,yk,Bo,Nat.add_sub_cancel,List.take_left']
 rfl
def sixK:List Kd:=[.plain,.below,.balanced,.growing,.falling,.pairs]
noncomputable def nv(x:Str):Option Nm:=match Txt.split x "," with
 | [p]=>(wv p).map Nm.i
 | [p,q]=>match wv p,wv q with
  | some a,some b=>some (.p a b)
  | _,_=>none
 | _=>none
def jp{x y p:Str}(h:Txt.split x y=[p]):p=x:=by
 unfold Txt.split at h
 split at h
 ·cases h;rfl
 split at h
 ·cases h;rfl
 ·rename_i h1 h2
  have:=congrArg List.length h
  rw[length_partsBetween]at this
  have z:(Builtin.Str.occurrences x y 0 x.length (x.length+1)).length=0:=by simpa using this
  exact absurd (List.isEmpty_iff.mpr (List.length_eq_zero_iff.mp z)) h2
def bz{x:Str}{i j c:Nat}(h:c∈tl (Builtin.Str.strSub x i j)):c∈tl x:=by
 have e:tl (Builtin.Str.strSub x i j)=((tl x).take j).drop i:=by
  show(x.cps.extract i j).toList=_
  rw[Array.toList_extract,List.extract_eq_drop_take,List.drop_take];rfl
 rw[e]at h
 exact List.mem_of_mem_take (List.mem_of_mem_drop h)
def bA(x:Str)(i j:Nat):(Builtin.Str.strSub x i j).length≤x.length:=strSub_length_le x i j
def vg{x y p:Str}(h:p∈Txt.split x y):p.length≤x.length∧∀c∈tl p,c∈tl x:=by
 unfold Txt.split at h
 split at h
 ·rw[By.mp h];exact⟨Bg _,fun _ z=>z⟩
 split at h
 ·rw[By.mp h];exact⟨Bg _,fun _ z=>z⟩
 ·unfold Builtin.Str.partsBetween at h
  obtain⟨⟨a,b⟩,_,rfl⟩:=BB.mp h
  exact⟨bA x a b,fun c hc=>bz hc⟩
def sM(x y:Str):Txt.split x y≠[]:=by
 unfold Txt.split
 split
 ·exact fun z=>nomatch z
 split
 ·exact fun z=>nomatch z
 ·intro z
  have:=congrArg List.length z
  rw[length_partsBetween]at this
  simp at this
def qI(x y:Str):(Txt.split x y).length≤x.length+2:=by
 unfold Txt.split
 split
 ·show 1≤_;omega
 split
 ·show 1≤_;omega
 ·rw[length_partsBetween]
  have:=StrLaws.occ_length_le x y 0 x.length (x.length+1)
  omega
def Li:Option Nm→Dt
 | none=>.non
 | some m=>m.dt
def rsh(r:List Int):Str:=if r=[] then "0" else Txt.join "." (r.reverse.map shw)
noncomputable def pts(v:Str→Option Int)(x:Str):List (Option Int):=(Txt.split x ".").reverse.map v
noncomputable def rvv(v:Str→Option Int)(k:Kd)(n:Int)(x:Str):Option (List Int):=
 if tl x=[48] then some [] else if(pts v x).any Option.isNone=true then none else if uc k n ((pts v x).filterMap id)=true then some ((pts v x).filterMap id) else none
def Lh:Option (List Int)→Dt
 | none=>.non
 | some r=>zM r
def dQ{ts:List Str}(h1:∀y∈ts,y.length≤61)(h2:ts.length≤2000):JoinOk (".":Str) ts=true:=by
 have e:((".":Str)).length=1:=by decide +kernel
 have:=StrLaws.joinFits (sep:=(".":Str)) (texts:=ts) (B:=61) h1 (by rw[e];omega)
 unfold JoinOk
 rw[this];rfl
def jY{k:Kd}{n:Int}{r:List Int}(hn:k.ok n)(h:∀p,p<r.length→k.low n p≤r.getD p 0∧r.getD p 0≤k.high n p)(hl:r.length≤700):∀z∈r,z.natAbs<1000:=fun z hz=>by
 obtain⟨p,hp,e⟩:=List.getElem_of_mem hz
 obtain⟨f1,f2⟩:=h p hp
 rw[Bq,Bh hp,e]at f1 f2
 have f1:k.low n p≤z:=f1
 have f2:z≤k.high n p:=f2
 obtain⟨b1,b2⟩:=hn
 cases k<;>simp only[Kd.lo,Kd.hi,Kd.low,Kd.high]at *<;>first|omega|(have:=Int.mul_le_mul b2 b2 (by omega) (by omega);omega)
def bK(v:Str→Option Int)(x:Str):(pts v x).length≤x.length+2:=by
 unfold pts
 rw[A',Bz]
 exact qI x _
def qJ(vs:List Int):(vs.map some).filterMap id=vs∧(vs.map some).any Option.isNone=false:=by
 induction vs with
 | nil=>exact⟨rfl,rfl⟩
 | cons v r ih=>
  show v::(r.map some).filterMap id=v::r∧(false||(r.map some).any Option.isNone)=false
  rw[ih.1,ih.2]
  exact⟨rfl,rfl⟩
def QA:(((".":Str)).length==0)=false:=by decide +kernel
def iF{x p:Str}(hx:asc x)(h:p∈Txt.split x "."):asc p:=fun c hc=>hx c ((vg h).2 c hc)
def m7{v:Str→Option Int}{k:Kd}{n:Int}{x:Str}(h:tl x=[48]):rvv v k n x=some []:=if_pos h
def i9{v:Str→Option Int}{k:Kd}{n:Int}{x p:Str}(h:tl x≠[48])(hp:p∈Txt.split x ".")(hv:v p=none):rvv v k n x=none:=by
 have a1:(pts v x).any Option.isNone=true:=List.any_eq_true.mpr ⟨none,BB.mpr ⟨p,BE.mpr hp,hv⟩,rfl⟩
 unfold rvv
 rw[if_neg h,if_pos a1]
def i8{v:Str→Option Int}{k:Kd}{n:Int}{x:Str}{vs:List Int}(h:tl x≠[48])(hv:pts v x=vs.map some):rvv v k n x=if uc k n vs=true then some vs else none:=by
 unfold rvv
 rw[if_neg h,hv,(qJ vs).1,(qJ vs).2,if_neg Ba]
def kn{v:Str→Option Int}{k:Kd}{n:Int}{x:Str}{r:List Int}(h:rvv v k n x=some r):r.length≤x.length+2:=by
 unfold rvv at h
 split at h
 ·cases h;exact BY _
 split at h
 ·cases h
 split at h
 ·cases h
  exact Br (List.length_filterMap_le _ _) (bK v x)
 ·cases h
def each_t{ρ:DS}{Q:Bool→Prop}(h:Q true):tF ρ Q:=h
def mE:DSp:=fun ds Q=>∃r,ds=[zM r]∧r.length≤1000∧(∀z∈r,0≤z∧z≤1)∧Q (.str (rsh r))
def counts:List (Str×Int):=[("write",3),("worth",3),("plus",4),("minus",4),("times",4),("share",4),("order",4),("move",4)]
def nt(ws:List Str):Prop:=ws.any (fun a=>a==("":Str))=false∧y_ counts (ws.getD 0 "")=.int ws.length
def spl(c:Nat):List Nat→List (List Nat)
 | []=>[[]]
 | a::l=>if a=c then[]::spl c l else match spl c l with
  | []=>[[a]]
  | h::t=>(a::h)::t
theorem xm{c:Nat}:∀{u:List Nat},c∉u→spl c u=[u]
 | [],_=>rfl
 | a::u,h=>by
  have h1:a≠c:=fun e=>h (e ▸ Bi)
  unfold spl
  rw[if_neg h1,xm fun z=>h (Bd _ z)]
theorem vh{c:Nat}{v:List Nat}:∀{u:List Nat},c∉u→spl c (u++c::v)=u::spl c v
 | [],_=>if_pos rfl
 | a::u,h=>by
  have h1:a≠c:=fun e=>h (e ▸ Bi)
  show(if a=c then _ else match spl c (u++c::v) with | []=>[[a]]|h::t=>(a::h)::t)=_
  rw[if_neg h1,vh fun z=>h (Bd _ z)]
def glu(c:Nat):List (List Nat)→List Nat
 | []=>[]
 | [u]=>u
 | u::t=>u++c::glu c t
theorem km{c:Nat}:∀{ps:List (List Nat)},ps≠[]→(∀p∈ps,c∉p)→spl c (glu c ps)=ps
 | [],h,_=>absurd rfl h
 | [u],_,h=>xm (h u Bi)
 | u::v::t,_,h=>by
  show spl c (u++c::glu c (v::t))=_
  rw[vh (h u Bi),km (BF _ _) fun p hp=>h p (Bd _ hp)]
theorem qZ{c:Nat}:∀(ps:List (List Nat)),(glu c ps).count c+1=((ps.map (List.count c)).sum+ps.length)∨ps=[]
 | []=>.inr rfl
 | [u]=>.inl (by simp[glu])
 | u::v::t=>.inl (by
  have ih:=(qZ (c:=c) (v::t)).resolve_right (BF _ _)
  show(u++c::glu c (v::t)).count c+1=_
  rw[List.count_append,List.count_cons_self]
  simp only[List.map_cons,List.sum_cons,List.length_cons]at ih ⊢
  omega)
def d6{y:Str}{c:Nat}(hy:y.cps=#[c]):∀ps:List Str,tl (Builtin.Str.glued y ps)=glu c (ps.map tl):=by
 intro ps
 rw[StrLaws.glued_eq_join]
 have hy':tl y=[c]:=by unfold tl;rw[hy]
 have key:∀ps:List Str,tl (PySem.Str.join y ps)=glu c (ps.map tl):=by
  intro ps
  induction ps with
  | nil=>rfl
  | cons u t ih=>
   cases t with
   | nil=>rfl
   | cons v t=>
    show tl (u++y++PySem.Str.join y (v::t))=tl u++c::glu c ((v::t).map tl)
    rw[yB,yB,ih,hy',List.append_assoc]
    rfl
 exact key ps
theorem lD(x:Str)(c:Nat):∀(m a:Nat)(st:Array Nat×Nat),a+m=x.length+1→st.1.size≤a→st.2≤a→
  (forIn (List.range' a m) st (StrLaws.occBody x ⟨#[c]⟩ x.length (x.length+1))).run.fst.size=st.1.size+((tl x).drop a).count c
 | 0,a,st,h,_,_=>by
  have:((tl x).drop a)=[]:=List.drop_eq_nil_of_le (by rw[yt];omega)
  rw[this]
  rfl
 | m+1,a,st,h,h1,h2=>by
  rw[List.range'_succ,List.forIn_cons]
  unfold StrLaws.occBody
  have so:=StrLaws.subAt_one x c a
  by_cases hc:(tl x)[a]? = some c
  ·obtain⟨s1,s2⟩:=so.mpr hc
   rw[if_pos ⟨⟨⟨by omega,h2⟩,s1⟩,s2⟩]
   refine(lD x c m (a+1) _ (by omega) (by simp only[Array.size_push];omega) (Nat.le_refl _)).trans ?_
   have hl:a<(tl x).length:=(BG.mp hc).1
   have e:(tl x).drop a=c::(tl x).drop (a+1):=by
    rw[List.drop_eq_getElem_cons hl,(BG.mp hc).2]
   rw[e,List.count_cons_self,Array.size_push]
   omega
  ·rw[if_neg fun z=>hc (so.mp ⟨z.1.2,z.2⟩)]
   refine(lD x c m (a+1) _ (by omega) (Nat.le_succ_of_le h1) (Nat.le_succ_of_le h2)).trans ?_
   by_cases hl:a<(tl x).length
   ·have hne:(tl x)[a]≠c:=fun e=>hc (by rw[Bh hl,e])
    rw[List.drop_eq_getElem_cons hl,List.count_cons_of_ne hne]
   ·rw[List.drop_eq_nil_of_le (by omega),List.drop_eq_nil_of_le (by omega)]
def jH(x:Str)(c:Nat):(Builtin.Str.occurrences x ⟨#[c]⟩ 0 x.length (x.length+1)).length=(tl x).count c:=by
 rw[StrLaws.occ_eq,Array.length_toList]
 refine(lD x c _ 0 _ (by omega) (Bg _) (Bg _)).trans ?_
 show 0+_=_
 rw[Nat.zero_add,List.drop_zero]
theorem kl{c:Nat}{p:List Nat}:∀{ps:List (List Nat)},p∈ps→List.count c p≤(ps.map (List.count c)).sum
 | q::ps,h=>by
  rw[B1,List.sum_cons]
  rcases Bk.mp h with rfl|h
  ·omega
  ·have:=kl (c:=c) h
   omega
def vf{x y:Str}{c:Nat}(hy:y.cps=#[c])(hk:c<256):(Txt.split x y).map tl=spl c (tl x):=by
 have ey:y=⟨#[c]⟩:=by cases y;cases hy;rfl
 subst ey
 have k1:Builtin.Str.strKind ⟨#[c]⟩=1:=if_pos (by simpa using hk)
 have k2:1≤Builtin.Str.strKind x:=by unfold Builtin.Str.strKind;split<;>(try split)<;>decide
 have oc:=jH x c
 unfold Txt.split
 split
 ·rename_i h
  rw[Bool.or_eq_true,decide_eq_true_iff,decide_eq_true_iff]at h
  have h0:x.length<1:=by
   rcases h with h|h
   ·exact h
   ·omega
  have:tl x=[]:=List.length_eq_zero_iff.mp (by rw[yt];omega)
  show[tl x]=_
  rw[this]
  rfl
 split
 ·rename_i h
  rw[List.isEmpty_iff.mp h]at oc
  exact(xm (List.count_eq_zero.mp oc.symm)).symm
 ·have g:=congrArg tl (StrLaws.glued_between_self x ⟨#[c]⟩ (x.length+1))
  rw[d6 rfl]at g
  have ln:=length_partsBetween x (Builtin.Str.occurrences x ⟨#[c]⟩ 0 x.length (x.length+1)) (⟨#[c]⟩:Str).length
  generalize Builtin.Str.partsBetween x (Builtin.Str.occurrences x ⟨#[c]⟩ 0 x.length (x.length + 1)) (⟨#[c]⟩:Str).length=ps at *
  have hne:ps.map tl≠[]:=fun z=>by rw[List.map_eq_nil_iff.mp z]at ln;cases ln
  have gc:=(qZ (c:=c) (ps.map tl)).resolve_right hne
  rw[g,A',ln,oc]at gc
  have z:((ps.map tl).map (List.count c)).sum=0:=by omega
  rw[←g,km hne fun p hp hm=>?_]
  have h1:=List.count_pos_iff.mpr hm
  have h2:List.count c p≤((ps.map tl).map (List.count c)).sum:=kl hp
  omega
def UC{a b d:List Nat}(ha:32∉a)(hb:32∉b)(hd:32∉d):spl 32 (a++32::(b++32::d))=[a,b,d]:=by rw[vh ha,vh hb,xm hd]
def N6{a b d e:List Nat}(ha:32∉a)(hb:32∉b)(hd:32∉d)(he:32∉e):spl 32 (a++32::(b++32::(d++32::e)))=[a,b,d,e]:=by rw[vh ha,UC hb hd he]
def sgn(l:List Nat):List Nat:=if l.head? = some 45 then l.drop 1 else l
def wvB(l:List Nat):Option Int:=if sgn l≠[]∧(sgn l).length≤60∧(sgn l).all w4=true∧((sgn l).head? = some 48→l=[48]) then some (dgVal l) else none
def iH(x:Str):wv x=wvB (tl x):=by
 have ni:=yz (x:=x) (f:=sgn (tl x)) rfl
 have ff:fg x=sgn (tl x):=rfl
 unfold wvB
 by_cases h:Numl (tl x)∧(fg x).length≤60
 ·obtain⟨a,b,c⟩:=ni.mp h.1
  rw[ss h.1 h.2,if_pos ⟨a,ff ▸ h.2,Bs.mpr fun z hz=>figB_iff.mpr (b z hz),c⟩]
 ·rw[xa h,if_neg]
  rintro⟨a,b,c,d⟩
  exact h ⟨ni.mpr ⟨a,fun z hz=>figB_iff.mp (Bs.mp c z hz),d⟩,b⟩
def nvB(l:List Nat):Option Nm:=match spl 44 l with
 | [p]=>(wvB p).map Nm.i
 | [p,q]=>match wvB p,wvB q with
  | some a,some b=>some (.p a b)
  | _,_=>none
 | _=>none
def Oh(x:Str):nv x=nvB (tl x):=by
 unfold nv nvB
 rw[←vf (x:=x) (y:=",") (c:=44) (by decide +kernel) (by decide)]
 cases Txt.split x "," with
 | nil=>rfl
 | cons p t=>
  cases t with
  | nil=>show(wv p).map Nm.i=_;rw[iH];rfl
  | cons q t=>
   cases t with
   | nil=>show(match wv p,wv q with|some a,some b=>some (Nm.p a b)|_,_=>none)=_;rw[iH,iH];rfl
   | cons _ _=>rfl
def WS(k:Kd)(n:Int)(r:List Int):Bool:=((List.range r.length).all fun p=>decide (k.low n p≤r.getD p 0)&&decide (r.getD p 0≤k.high n p))&&(!k.isF||(List.range (r.length-1)).all fun p=>!decide (r.getD (p+1) 0=n)||decide (r.getD p 0=0))&&(r.isEmpty || !decide (r.getD (r.length-1) 0=0))
def legB_iff{k:Kd}{n:Int}{r:List Int}:WS k n r=true↔xF k n r:=by
 unfold WS
 rw[Bb,Bb,Bs,Bool.or_eq_true,Bool.or_eq_true,Bs]
 constructor
 ·rintro⟨⟨a,b⟩,c⟩
  refine⟨fun p hp=>?_,fun hF p hp he=>?_,?_⟩
  ·have:=a p (BX.mpr hp)
   rw[Bb,decide_eq_true_iff,decide_eq_true_iff]at this
   exact this
  ·rcases b with b|b
   ·rw[hF]at b;cases b
   ·have:=b p (BX.mpr (by omega))
    rw[decide_eq_true he]at this
    exact of_decide_eq_true this
  ·rcases c with c|c
   ·exact .inl (List.isEmpty_iff.mp c)
   ·exact .inr (of_decide_eq_false (ku c))
 ·rintro⟨a,b,c⟩
  refine⟨⟨fun p hp=>?_,?_⟩,?_⟩
  ·rw[Bb,decide_eq_true_iff,decide_eq_true_iff]
   exact a p (BX.mp hp)
  ·cases hF:k.isF with
   | false=>exact .inl rfl
   | true=>
    refine .inr fun p hp=>?_
    by_cases he:r.getD (p+1) 0=n
    ·rw[decide_eq_true he,decide_eq_true (b hF p (by have:=BX.mp hp;omega) he)];rfl
    ·rw[decide_eq_false he];rfl
  ·rcases c with c|c
   ·exact .inl (List.isEmpty_iff.mpr c)
   ·exact .inr (nF (decide_eq_false c))
def WR(k:Kd)(n:Int)(r:List Int):uc k n r=WS k n r:=by
 by_cases h:xF k n r
 ·rw[oy h,legB_iff.mpr h]
 ·rw[sA h,B2.mpr fun z=>h (legB_iff.mp z)]
def rvB(k:Kd)(n:Int)(l:List Nat):Option (List Int):=
 if l=[48] then some [] else if((spl 46 l).reverse.map wvB).any Option.isNone=true then none else if WS k n (((spl 46 l).reverse.map wvB).filterMap id)=true then some (((spl 46 l).reverse.map wvB).filterMap id) else none
def jv(k:Kd)(n:Int)(x:Str):rvv wv k n x=rvB k n (tl x):=by
 have e:pts wv x=(spl 46 (tl x)).reverse.map wvB:=by
  unfold pts
  rw[←vf (x:=x) (y:=".") (c:=46) (by decide +kernel) (by decide),←List.map_reverse,List.map_map]
  exact List.map_congr_left fun p _=>iH p
 unfold rvv rvB
 rw[e,WR]
def qM{k:Kd}{n:Int}{l:List Nat}{r:List Int}(h:rvB k n l=some r):xF k n r:=by
 unfold rvB at h
 split at h
 ·cases h;exact legB_iff.mp (by cases k<;>rfl)
 split at h
 ·cases h
 split at h
 ·rename_i h';cases h;exact legB_iff.mp h'
 ·cases h
def allW:List (Kd×Nat):=sixK.flatMap fun k=>((List.range 61).filter fun n:Nat=>decide (k.lo≤(n:Int))&&decide ((n:Int)≤k.hi)).map fun n=>(k,n)
def xM(l:List Nat):Option (Kd×Nat):=allW.find? fun p=>decide (l=tl p.1.nam++dg p.2)
def allW_iff{k:Kd}{n:Nat}:(k,n)∈allW↔k.ok n:=by
 unfold allW
 rw[List.mem_flatMap]
 constructor
 ·rintro⟨j,_,h⟩
  obtain⟨m,hm,e⟩:=BB.mp h
  cases e
  have:=(List.mem_filter.mp hm).2
  rw[Bb,decide_eq_true_iff,decide_eq_true_iff]at this
  exact this
 ·intro h
  have h60:n<61:=by obtain⟨m,e,_,h60⟩:=xy h;omega
  refine⟨k,by cases k<;>simp[sixK],List.mem_map.mpr ⟨n,List.mem_filter.mpr ⟨List.mem_range.mpr h60,?_⟩,rfl⟩⟩
  rw[Bb,decide_eq_true_iff,decide_eq_true_iff]
  exact h
def uu{l:List Nat}{k:Kd}{n:Nat}(h:xM l=some (k,n)):k.ok n∧l=tl k.nam++dg n:=
 ⟨allW_iff.mp (List.mem_of_find?_eq_some h),by have:=List.find?_some h;exact of_decide_eq_true this⟩
def jh{x:Str}(h:xM (tl x)=none):Bad x:=fun k i hi e=>by
 obtain⟨n,rfl,_,_⟩:=xy hi
 have:=List.find?_eq_none.mp h (k,n) (allW_iff.mpr hi)
 rw[e,yk]at this
 exact this (decide_eq_true rfl)
def o9{x:Str}{k:Kd}{n:Nat}(h:xM (tl x)=some (k,n)):k.ok n∧x=k.nam++shw (n:Int):=
 ⟨(uu h).1,ye (by rw[yk];exact(uu h).2)⟩
def yr{k:Kd}{n:Nat}(h:k.ok n):xM (tl k.nam++dg n)=some (k,n):=by
 cases e:xM (tl k.nam++dg n) with
 | none=>exact absurd rfl (jh (x:=k.nam++shw (n:Int)) (by rw[yk];exact e) k n h)
 | some p=>
  obtain⟨j,m⟩:=p
  obtain⟨h1,h2⟩:=uu e
  obtain⟨a,b⟩:=rK h h1 (ye (by rw[yk,yk];exact h2))
  rw[a,Int.ofNat.inj b]
def sL{x:Str}(h:Bad x):xM (tl x)=none:=by
 cases e:xM (tl x) with
 | none=>rfl
 | some p=>exact absurd (o9 e).2 (h _ _ (o9 e).1)
inductive Rf where|row|text|number|less|pairs|nought
deriving DecidableEq
def vV(w:List Nat):Option Int:=(counts.find? fun p=>decide (tl p.1=w)).map (·.2)
def pX(ws:List (List Nat)):Bool:=!(ws.any List.isEmpty)&&decide (vV (ws.headD [])=some (ws.length:Int))
def Qh(w:Str):y_ counts w=match vV (tl w) with|some i=>.int i|none=>.non:=by
 unfold y_ vV
 have e:(fun p:Str×Int=>decide (p.1=w))=fun p=>decide (tl p.1=tl w):=funext fun p=>by
  by_cases h:p.1=w
  ·rw[h,decide_eq_true rfl,decide_eq_true rfl]
  ·rw[decide_eq_false h,decide_eq_false fun z=>h (ye z)]
 rw[e]
 cases counts.find? fun p=>decide (tl p.1=tl w)<;>rfl
def jw(x:Str):nt (Txt.split x " ")↔pX (spl 32 (tl x))=true:=by
 have hne:=sM x " "
 rw[←vf (x:=x) (y:=" ") (c:=32) (by decide +kernel) (by decide)]
 generalize Txt.split x " "=ws at *
 have e1:ws.any (fun a=>a==("":Str))=(ws.map tl).any List.isEmpty:=by
  rw[List.any_map]
  congr 1
  funext a
  rw[pI]
  show _=(tl a).isEmpty
  cases tl a<;>rfl
 unfold nt pX
 rw[e1,Qh,Bb,A',decide_eq_true_iff]
 cases ws with
 | nil=>exact absurd rfl hne
 | cons w t=>
  show _∧(match vV (tl w) with|some i=>Dt.int i|none=>.non)=_↔_∧vV (tl w)=_
  cases vV (tl w) with
  | none=>exact⟨fun h=>(nomatch h.2),fun h=>(nomatch h.2)⟩
  | some i=>exact⟨fun h=>⟨nF h.1,by injection h.2 with z;rw[z]⟩,fun h=>⟨ku h.1,by injection h.2 with z;rw[z]⟩⟩
def UI(a b:List Int):List Int:=(List.range (max a.length b.length)).map fun p=>a.getD p 0+b.getD p 0
def dU(a:List Int)(c:Int):List Int:=a.map (· * c)
def dif(a b:List Int):List Int:=UI a (dU b (-1))
def Vg(a b:List Int):(dif a b).length=max a.length b.length:=by unfold dif UI dU;rw[List.length_map,List.length_range,List.length_map]
def ji(k:Kd)(m:Nm):Nm:=match k with
 | .pairs=>.p m.re m.im
 | _=>match m with
  | .i a=>.i a
  | .p a b=>if b=0 then .i a else .p a b
def Kd.isP:Kd→Bool
 | .pairs=>true
 | _=>false
def dJ(k:Kd)(n:Int)(a b:List Int):Bool:=if k.isF=true then decide ((dif a b).getD ((dif a b).length-1) 0<0) else k.three && !wX k (.i (cJ k n (dif a b) (dif a b).length))
def Tg(a:List Nat)(k:Kd)(n:Nat)(r r2:List Int):Option Rf:=
 if a=tl ("plus":Str) then none else if a=tl ("minus":Str) then(if dJ k n r r2=true then some .less else none) else if a=tl ("times":Str) then none else if k.isP=true then some .pairs else none
def qm(a:List Nat)(k:Kd)(n:Nat)(r:List Int)(d:List Nat):Option Rf:=
 if a=tl ("worth":Str) then none
 else if a=tl ("share":Str) then(match wvB d with|none=>some .text|some m=>if k.isP=true then some .pairs else if m<1 then some .nought else none)
 else if a=tl ("move":Str) then(match xM d with|none=>some .text|some (j,m)=>if(k.isF||wX j (ji j (pF k n r)))=true then none else some .number)
 else match rvB k n d with
  | none=>some .text
  | some r2=>Tg a k n r r2
def ql:List (List Nat)→Option Rf
 | a::b::c::e=>match xM b with
  | none=>some .text
  | some (k,n)=>if a=tl ("write":Str) then(match nvB c with|none=>some .text|some m=>if wX k m=true then none else some .number)
   else match rvB k n c with
    | none=>some .text
    | some r=>qm a k n r (e.headD [])
 | _=>none
def s9(l:List Nat):Option Rf:=if pX (spl 32 l)=true then ql (spl 32 l) else some .row
inductive Pc where|t (x:Str)|b|n
def pcs(b n:Nat):List Pc→Str
 | []=>Str.empty
 | .t x::l=>x++pcs b n l
 | .b::l=>shw (b:Int)++pcs b n l
 | .n::l=>shw (n:Int)++pcs b n l
def pcl(b n:List Nat):List Pc→List Nat
 | []=>[]
 | .t x::l=>tl x++pcl b n l
 | .b::l=>b++pcl b n l
 | .n::l=>n++pcl b n l
def nD:List Pc→Nat
 | []=>0
 | .t x::l=>x.length+nD l
 | .b::l=>3+nD l
 | .n::l=>31+nD l
def pok:List Pc→Bool
 | []=>true
 | .t x::l=>(tl x).all (· < 128)&&pok l
 | _::l=>pok l
def qP:List Pc→Bool
 | []=>true
 | .n::_=>false
 | _::l=>qP l
inductive Rw where|c (x:Str)|f (l:List Pc)
def Rw.str(b n:Nat):Rw→Str
 | .c x=>x
 | .f l=>pcs b n l
def Rw.cps(b n:List Nat):Rw→List Nat
 | .c x=>tl x
 | .f l=>pcl b n l
def Rw.pl:Rw→List Pc
 | .c x=>[.t x]
 | .f l=>l
theorem pH(b n:Nat):∀l,tl (pcs b n l)=pcl (dg b) (dg n) l
 | []=>rfl
 | .t x::l=>by show tl (x++pcs b n l)=tl x++_;rw[yB,pH b n l]
 | .b::l=>by show tl (shw (b:Int)++pcs b n l)=dg b++_;rw[yB,pH b n l,vH]
 | .n::l=>by show tl (shw (n:Int)++pcs b n l)=dg n++_;rw[yB,pH b n l,vH]
def iU(b n:Nat)(r:Rw):tl (r.str b n)=r.cps (dg b) (dg n):=by cases r with|c x=>rfl|f l=>exact pH b n l
theorem sZ{b n m:List Nat}:∀{l:List Pc},qP l=true→pcl b n l=pcl b m l
 | [],_=>rfl
 | .t x::l,h=>congrArg (tl x++·) (sZ (l:=l) h)
 | .b::l,h=>congrArg (b++·) (sZ (l:=l) h)
theorem p7{b n:Nat}(hb:b<100)(hn:n<10^31):∀{l:List Pc},pok l=true→(∀c∈pcl (dg b) (dg n) l,c<128)∧(pcl (dg b) (dg n) l).length≤nD l
 | [],_=>⟨fun c hc=>(nomatch hc),Bg _⟩
 | .t x::l,h=>by
  have h:=(Bb ..).mp h
  obtain⟨a,e⟩:=p7 hb hn (l:=l) h.2
  refine⟨fun c hc=>?_,?_⟩
  ·rcases Bx.mp hc with z|z
   ·exact of_decide_eq_true (Bs.mp h.1 c z)
   ·exact a c z
  ·show(tl x++pcl (dg b) (dg n) l).length≤x.length+nD l
   rw[Bo,yt];omega
 | .b::l,h=>by
  obtain⟨a,e⟩:=p7 hb hn (l:=l) h
  refine⟨fun c hc=>?_,?_⟩
  ·rcases Bx.mp hc with z|z
   ·have:=yN b c z;unfold zQ at this;omega
   ·exact a c z
  ·have:=wD (n:=b) (k:=3) (by decide) (by omega)
   show(dg b++pcl (dg b) (dg n) l).length≤3+nD l
   rw[Bo];omega
 | .n::l,h=>by
  obtain⟨a,e⟩:=p7 hb hn (l:=l) h
  refine⟨fun c hc=>?_,?_⟩
  ·rcases Bx.mp hc with z|z
   ·have:=yN n c z;unfold zQ at this;omega
   ·exact a c z
  ·have:=wD (n:=n) (k:=31) (by decide) hn
   show(dg n++pcl (dg b) (dg n) l).length≤31+nD l
   rw[Bo];omega
def nrR:List Str:=([""," ","write","write plain10","write plain10 5 6","writes plain10 5","Write plain10 5","worth"]:List Str)++(["worth plain10","worth plain10 1 1","plus plain10 1","plus plain10 1 2 3","minus below2 1"]:List Str)++(["times pairs1 1 1 1","share plain10 1.0","order plain10 1","move plain10 1"," write plain10 5"]:List Str)++(["write plain10 5 ","write  plain10 5","plain10 write 5","add plain10 1 2","plus","-"]:List Str)++(["worth plain10 ","plus  plain10 1","move plain10 1 "]:List Str)
def ntR:List Rw:=[.c "write plain61 x",.f [.t "write plain0",.b,.t " ",.n],.f [.t "write plain",.b,.t " 0",.n],.c "write below1 5"]++[.f [.t "worth plain",.b,.t " ",.b],.f [.t "worth below",.b,.t " 0.1"],.f [.t "plus plain",.b,.t " 1 1.",.b]]++[.f [.t "plus plain",.b,.t " x y"],.f [.t "move plain",.b,.t " 1 plan",.b],.f [.t "share plain",.b,.t " 1 1,2"]]++[.c "share pairs2 9.9 0",.c "order pairs2 5 x",.f [.t "share plain",.b,.t " 1 -0"],.c "worth falling1 1.1"]++[.c "worth falling3 1.3.1",.c "worth balanced1 2",.c "worth balanced1 1.-2",.f [.t "worth plain",.b,.t " -1"]]++[.f [.t "write plain",.b,.t " 1,2,3"],.c "worth pairs1 1,0",.f [.t "minus plain",.b,.t " 1 0",.n]]++[.f [.t "worth plain",.b,.t " 1..1"]]++[.c "times growing2 2 1",.c "worth growing2 3.0",.c "move pairs10 1 pairs1",.c "move falling1 2 pairs1"]
def nnR:List Rw:=[.f [.t "write plain",.b,.t " -",.n],.f [.t "write below",.b,.t " ",.n,.t ",1"],.f [.t "write pairs1 ",.n]]++[.f [.t "write growing",.b,.t " -",.n],.f [.t "write falling4 -",.n],.f [.t "write balanced9 ",.n,.t ",0"]]++[.c "move below2 1.1 plain5",.f [.t "move below",.b,.t " 1.0 growing9"],.c "move pairs1 1.0 plain2"]++[.c "move balanced9 -4 falling2",.c "move pairs3 1.0 below7",.c "move balanced5 -1.0.5 plain60"]
def tlR:List Rw:=[.f [.t "minus plain",.b,.t " 1 1.0"],.c "minus falling1 0 1",.f [.t "minus growing",.b,.t " 1 1.0.1"],.c "minus plain10 0 1"]++[.c "minus falling9 9 1.0",.f [.t "minus plain",.b,.t " 0 1.1"],.c "minus growing2 1.0 1.1"]
def opR:List (Rw×Rf):=[(.c "share pairs1 1 0",.pairs),(.c "order pairs2 1 4",.pairs),(.f [.t "share pairs9 81 ",.n],.pairs)]++[(.f [.t "share plain",.b,.t " 1 0"],.nought),(.f [.t "share below",.b,.t " 1 -",.n],.nought)]++[(.c "share falling1 1.0.1 0",.nought),(.f [.t "share balanced3 -3.3 -",.n],.nought)]++[(.c "order pairs3 0 0",.pairs)]
def bnR:List (Rw×Rf):=ntR.map (·,.text)++nnR.map (·,.number)++tlR.map (·,.less)++opR
def Qa:∀x∈nrR,s9 (tl x)=some .row∧(tl x).all (· < 128)=true∧x.length≤100:=by decide +kernel
def Ni:∀p∈bnR,pok p.1.pl=true∧nD p.1.pl≤100:=by decide +kernel
def Vx:∀b:_root_.Fin 61,10≤b.val→∀p∈bnR,qP p.1.pl=true→s9 (p.1.cps (dg b.val) [49])=some p.2:=by decide +kernel
def nI{l a b d:List Nat}(e:l=a++32::(b++32::(d++[])))(ha:32∉a∧vV a=some 3∧a≠[])(hb:32∉b)(hd:32∉d)(b0:b≠[])(d0:d≠[]):s9 l=ql [a,b,d]:=by
 have z:∀{x:List Nat},x≠[]→x.isEmpty=false:=fun{x} h=>by cases x with|nil=>exact absurd rfl h|cons _ _=>rfl
 subst e
 unfold s9
 rw[Bv,UC ha.1 hb hd,if_pos]
 unfold pX
 rw[BJ,BJ,BJ,z ha.2.2,z b0,z d0,Bb,decide_eq_true_iff]
 exact⟨rfl,ha.2.1⟩
def bZ{l a b d f:List Nat}(e:l=a++32::(b++32::(d++32::(f++[]))))(ha:32∉a∧vV a=some 4∧a≠[])(hb:32∉b)(hd:32∉d)(hf:32∉f)(b0:b≠[])(d0:d≠[])(f0:f≠[]):s9 l=ql [a,b,d,f]:=by
 have z:∀{x:List Nat},x≠[]→x.isEmpty=false:=fun{x} h=>by cases x with|nil=>exact absurd rfl h|cons _ _=>rfl
 subst e
 unfold s9
 rw[Bv,N6 ha.1 hb hd hf,if_pos]
 unfold pX
 rw[BJ,BJ,BJ,BJ,z ha.2.2,z b0,z d0,z f0,Bb,decide_eq_true_iff]
 exact⟨rfl,ha.2.1⟩
def xL:32∉tl ("write":Str)∧vV (tl ("write":Str))=some 3∧tl ("write":Str)≠[]:=by decide +kernel
def oW:32∉tl ("share":Str)∧vV (tl ("share":Str))=some 4∧tl ("share":Str)≠[]:=by decide +kernel
def VF:32∉tl ("minus":Str)∧vV (tl ("minus":Str))=some 4∧tl ("minus":Str)≠[]:=by decide +kernel
def Us{n:Nat}(h1:1≤n)(h:n<10^31):wvB (dg n)=some (n:Int)∧wvB (45::dg n)=some (-(n:Int))∧wvB (48::dg n)=none:=by
 have hl:=wD (n:=n) (k:=31) (by decide) h
 have hf:(dg n).all w4=true:=Bs.mpr fun c hc=>figB_iff.mpr (yN n c hc)
 have h0:=u4 h1
 have hne:=vC n
 have s1:sgn (dg n)=dg n:=by
  unfold sgn
  rw[if_neg]
  intro z
  obtain⟨c,r,e,hc⟩:=vq n
  rw[e]at z
  have:c=45:=Option.some.inj z
  unfold zQ at hc
  omega
 refine⟨?_,?_,?_⟩
 ·unfold wvB
  rw[s1,if_pos ⟨hne,by omega,hf,fun z=>absurd z h0⟩,lW]
 ·unfold wvB
  rw[show sgn (45::dg n)=dg n from rfl,if_pos ⟨hne,by omega,hf,fun z=>absurd z h0⟩]
  show some (-(dgs (dg n):Int))=_
  rw[vU]
 ·unfold wvB
  rw[show sgn (48::dg n)=48::dg n from rfl,if_neg]
  rintro⟨_,_,_,z⟩
  exact hne (List.cons.inj (z rfl)).2
def tw{c n:Nat}(h:¬zQ c):c∉dg n:=fun z=>h (yN n c z)
def vA{c a n:Nat}(h:¬zQ c)(h':c≠a):c∉a::dg n:=fun z=>by
 rcases Bk.mp z with z|z
 ·exact h' z
 ·exact tw h z
def sx{l:List Nat}(h:44∉l):nvB l=(wvB l).map Nm.i:=by unfold nvB;rw[xm h]
def kz{l:List Nat}{c:Nat}(hc:c≠44)(h:44∉l):nvB (l++[44,c])=match wvB l,wvB [c] with|some a,some b=>some (.p a b)|_,_=>none:=by
 unfold nvB
 rw[show l++[44,c]=l++44::[c] from rfl,vh h,xm (fun z=>hc (By.mp z).symm)]
 try rfl
def UH{k:Kd}{m:Int}{l:List Nat}(h:46∉l)(h0:l≠[48])(hv:wvB l=none):rvB k m l=none:=by
 unfold rvB
 rw[if_neg h0,xm h]
 show(if(List.any [wvB l] Option.isNone)=true then _ else _)=_
 rw[hv]
 rfl
def ad:∀b:_root_.Fin 61,10≤b.val→rvB .plain (b.val:Int) [49]=some [1]∧rvB .below (b.val:Int) [49]=some [1]:=by decide +kernel
def N9:rvB .pairs ((9:Nat):Int) (tl ("81":Str))=some [81]∧rvB .balanced ((3:Nat):Int) (tl ("-3.3":Str))=some [3,-3]:=by decide +kernel
def iM{l:List Nat}(k:Kd)(n:Nat)(h:k.ok n)(e:l=tl k.nam++dg n):xM l=some (k,n):=e ▸ yr h
def Uu:xM (tl ("pairs1":Str))=some (.pairs,1)∧xM (tl ("falling4":Str))=some (.falling,4)∧xM (tl ("balanced9":Str))=some (.balanced,9)∧xM (tl ("pairs9":Str))=some (.pairs,9)∧xM (tl ("balanced3":Str))=some (.balanced,3):=by
 refine⟨iM _ _ ?_ (by decide +kernel),iM _ _ ?_ (by decide +kernel),iM _ _ ?_ (by decide +kernel),iM _ _ ?_ (by decide +kernel),iM _ _ ?_ (by decide +kernel)⟩<;>(unfold Kd.ok;decide)
def VN{a b c:List Nat}{e:List (List Nat)}(h:xM b=none):ql (a::b::c::e)=some .text:=by unfold ql;dsimp only;rw[h];try rfl
def iN{a b c:List Nat}{e:List (List Nat)}{k:Kd}{n:Nat}(h:xM b=some (k,n)):ql (a::b::c::e)=if a=tl ("write":Str) then(match nvB c with|none=>some .text|some m=>if wX k m=true then none else some .number) else match rvB k n c with|none=>some .text|some r=>qm a k n r (e.headD []):=by unfold ql;dsimp only;rw[h];try rfl
def vd{b c:List Nat}{k:Kd}{n:Nat}{m:Nm}(hw:xM b=some (k,n))(hn:nvB c=some m)(hh:wX k m=false):ql [tl ("write":Str),b,c]=some .number:=by
 rw[iN hw,if_pos rfl,hn]
 show(if wX k m=true then _ else _)=_
 rw[hh]
 rfl
def pG{b c d:List Nat}{k:Kd}{n:Nat}{r:List Int}{m:Int}(hw:xM b=some (k,n))(hr:rvB k n c=some r)(hd:wvB d=some m):ql [tl ("share":Str),b,c,d]=if k.isP=true then some .pairs else if m<1 then some .nought else none:=by
 rw[iN hw,if_neg (by decide +kernel),hr]
 show qm _ k n r d=_
 unfold qm
 rw[if_neg (by decide +kernel),if_pos rfl,hd]
def WM:(bnR.filter fun p=>!qP p.1.pl)=[(.f [.t "write plain0",.b,.t " ",.n],.text),(.f [.t "write plain",.b,.t " 0",.n],.text),(.f [.t "minus plain",.b,.t " 1 0",.n],.text),(.f [.t "write plain",.b,.t " -",.n],.number),(.f [.t "write below",.b,.t " ",.n,.t ",1"],.number),(.f [.t "write pairs1 ",.n],.number),(.f [.t "write growing",.b,.t " -",.n],.number),(.f [.t "write falling4 -",.n],.number),(.f [.t "write balanced9 ",.n,.t ",0"],.number),(.f [.t "share pairs9 81 ",.n],.pairs),(.f [.t "share below",.b,.t " 1 -",.n],.nought),(.f [.t "share balanced3 -3.3 -",.n],.nought)]:=rfl
def yO{c:Nat}{u v:List Nat}(h:c∉u)(h':c∉v):c∉u++v:=fun z=>(Bx.mp z).elim h h'
def wF{u v:List Nat}(h:u≠[]):u++v≠[]:=fun z=>h (List.append_eq_nil_iff.mp z).1
def QZ{b n:Nat}(b1:10≤b)(b2:b≤60)(n1:1≤n)(n2:n<10^31):∀p∈bnR.filter fun p=>!qP p.1.pl,s9 (p.1.cps (dg b) (dg n))=some p.2:=by
 rw[WM]
 obtain⟨w1,w2,w3⟩:=Us n1 n2
 obtain⟨f1,f2⟩:=ad ⟨b,by omega⟩ b1
 obtain⟨g1,g2⟩:=N9
 obtain⟨x1,x2,x3,x4,x5⟩:=Uu
 have okp:Kd.plain.ok (b:Int):=⟨by show(2:Int)≤b;omega,by show(b:Int)≤60;omega⟩
 have okb:Kd.below.ok (b:Int):=⟨by show(2:Int)≤b;omega,by show(b:Int)≤60;omega⟩
 have okg:Kd.growing.ok (b:Int):=⟨by show(2:Int)≤b;omega,by show(b:Int)≤60;omega⟩
 have d32:¬zQ 32:=by unfold zQ;decide
 have d44:¬zQ 44:=by unfold zQ;decide
 have d46:¬zQ 46:=by unfold zQ;decide
 have n32:=tw (n:=n) d32
 have b32:=tw (n:=b) d32
 have neg:∀{k:Kd},(k=.plain∨k=.growing∨k=.falling)→wX k (.i (-(n:Int)))=false:=fun h=>by
  have h0:¬(0:Int)≤-(n:Int):=by omega
  rcases h with rfl|rfl|rfl<;>exact decide_eq_false h0
 have sp:nvB (45::dg n)=some (.i (-(n:Int))):=by rw[sx (vA d44 (by decide)),w2];rfl
 have v0:wvB [48]=some 0:=by decide +kernel
 have v1:wvB [49]=some 1:=by decide +kernel
 intro p hp
 simp only[List.mem_cons,List.not_mem_nil,or_false]at hp
 rcases hp with rfl|rfl|rfl|rfl|rfl|rfl|rfl|rfl|rfl|rfl|rfl|rfl
 ·refine(nI (a:=tl ("write":Str)) (b:=tl ("plain0":Str)++dg b) (d:=dg n) ?_ xL (yO (by decide +kernel) b32) n32 (wF (by decide +kernel)) (vC n)).trans ?_
  ·rfl
  ·have:=sL (l_ (k:=.plain) (m:=b))
   rw[yB,yB,vH]at this
   have e:tl ("plain0":Str)=tl Kd.plain.nam++tl (Str.ofString "0"):=by decide +kernel
   exact VN (by rw[e];exact this)
 ·refine(nI (a:=tl ("write":Str)) (b:=tl ("plain":Str)++dg b) (d:=48::dg n) ?_ xL (yO (by decide +kernel) b32) (vA d32 (by decide)) (wF (by decide +kernel)) (BF _ _)).trans ?_
  ·rfl
  ·rw[iN (b:=tl ("plain":Str)++dg b) (yr okp),if_pos rfl,sx (vA d44 (by decide)),w3]
   rfl
 ·refine(bZ (a:=tl ("minus":Str)) (b:=tl ("plain":Str)++dg b) (d:=[49]) (f:=48::dg n) ?_ VF (yO (by decide +kernel) b32) (by decide) (vA d32 (by decide)) (wF (by decide +kernel)) (BF _ _) (BF _ _)).trans ?_
  ·rfl
  ·rw[iN (b:=tl ("plain":Str)++dg b) (yr okp),if_neg (by decide +kernel),f1]
   show qm _ _ _ _ (48::dg n)=_
   unfold qm
   rw[if_neg (by decide +kernel),if_neg (by decide +kernel),if_neg (by decide +kernel),UH (vA d46 (by decide)) (fun z=>vC n (List.cons.inj z).2) w3]
 ·refine(nI (a:=tl ("write":Str)) (b:=tl ("plain":Str)++dg b) (d:=45::dg n) ?_ xL (yO (by decide +kernel) b32) (vA d32 (by decide)) (wF (by decide +kernel)) (BF _ _)).trans (vd (yr okp) sp (neg (.inl rfl)))
  rfl
 ·refine(nI (a:=tl ("write":Str)) (b:=tl ("below":Str)++dg b) (d:=dg n++[44,49]) ?_ xL (yO (by decide +kernel) b32) (yO n32 (by decide)) (wF (by decide +kernel)) (wF (vC n))).trans (vd (m:=.p n 1) (yr okb) (by rw[kz (by decide) (tw d44),w1,v1]) rfl)
  rw[Bv];rfl
 ·refine(nI (a:=tl ("write":Str)) (b:=tl ("pairs1":Str)) (d:=dg n) ?_ xL (by decide +kernel) n32 (by decide +kernel) (vC n)).trans (vd (m:=.i n) x1 (by rw[sx (tw d44),w1];rfl) rfl)
  rfl
 ·refine(nI (a:=tl ("write":Str)) (b:=tl ("growing":Str)++dg b) (d:=45::dg n) ?_ xL (yO (by decide +kernel) b32) (vA d32 (by decide)) (wF (by decide +kernel)) (BF _ _)).trans (vd (yr okg) sp (neg (.inr (.inl rfl))))
  rfl
 ·refine(nI (a:=tl ("write":Str)) (b:=tl ("falling4":Str)) (d:=45::dg n) ?_ xL (by decide +kernel) (vA d32 (by decide)) (by decide +kernel) (BF _ _)).trans (vd x2 sp (neg (.inr (.inr rfl))))
  rfl
 ·refine(nI (a:=tl ("write":Str)) (b:=tl ("balanced9":Str)) (d:=dg n++[44,48]) ?_ xL (by decide +kernel) (yO n32 (by decide)) (by decide +kernel) (wF (vC n))).trans (vd (m:=.p n 0) x3 (by rw[kz (by decide) (tw d44),w1,v0]) rfl)
  rw[Bv];rfl
 ·refine(bZ (a:=tl ("share":Str)) (b:=tl ("pairs9":Str)) (d:=tl ("81":Str)) (f:=dg n) ?_ oW (by decide +kernel) (by decide +kernel) n32 (by decide +kernel) (by decide +kernel) (vC n)).trans (pG x4 g1 w1)
  rfl
 ·refine(bZ (a:=tl ("share":Str)) (b:=tl ("below":Str)++dg b) (d:=[49]) (f:=45::dg n) ?_ oW (yO (by decide +kernel) b32) (by decide) (vA d32 (by decide)) (wF (by decide +kernel)) (BF _ _) (BF _ _)).trans ((pG (yr okb) f2 w2).trans ((if_neg Ba).trans (if_pos (by omega))))
  rfl
 ·refine(bZ (a:=tl ("share":Str)) (b:=tl ("balanced3":Str)) (d:=tl ("-3.3":Str)) (f:=45::dg n) ?_ oW (by decide +kernel) (by decide +kernel) (vA d32 (by decide)) (by decide +kernel) (by decide +kernel) (BF _ _)).trans ((pG x5 g2 w2).trans ((if_neg Ba).trans (if_pos (by omega))))
  rfl
def VH(s:Str)(c:Rf):Prop:=s9 (tl s)=some c∧asc s∧s.length≤100
def cZ{b n:Nat}(b1:10≤b)(b2:b≤60)(n1:1≤n)(n2:n<10^31):∀p∈bnR,VH (p.1.str b n) p.2:=fun p hp=>by
 obtain⟨h1,h2⟩:=Ni p hp
 have e:p.1.cps (dg b) (dg n)=pcl (dg b) (dg n) p.1.pl:=by
  cases p.1 with
  | c x=>exact(Bv _).symm
  | f l=>rfl
 obtain⟨h3,h4⟩:=p7 (b:=b) (n:=n) (by omega) n2 h1
 rw[←e,←iU]at h3 h4
 refine⟨?_,h3,by rw[←yt];omega⟩
 rw[iU]
 cases hf:qP p.1.pl with
 | true=>
  have:=Vx ⟨b,by omega⟩ b1 p hp hf
  rw[←this]
  congr 1
  cases h:p.1 with
  | c x=>rfl
  | f l=>rw[h]at hf;exact sZ hf
 | false=>exact QZ b1 b2 n1 n2 p (List.mem_filter.mpr ⟨hp,by rw[hf];rfl⟩)
def R_:∀x∈nrR,VH x .row:=fun x hx=>by
 obtain⟨a,b,c⟩:=Qa x hx
 exact⟨a,fun c hc=>of_decide_eq_true (Bs.mp b c hc),c⟩
def c0{k:Kd}{n:Int}{r:List Int}(hn:k.ok n)(h:xF k n r)(hl:r.length≤700):bdR r:=fun t ht=>Bj (jY hn h.fig hl t ht) (Br (by decide:1000≤2^10) (Nat.pow_le_pow_right (by decide) (by decide)))
def jo{a:List Int}{i:Nat}(h:i<a.length):a.take (i+1)=a.take i++[a.getD i 0]:=by
 rw[List.take_succ,Bq,Bh h]
 rfl
def r0:DSp:=fun ds Q=>∃a b,ds=[zM a,zM b]∧a.length≤1000∧b.length≤1000∧Q (zM (UI a b))
def pD:DSp:=fun ds Q=>∃a c,ds=[zM a,.int c]∧a.length≤1000∧-1000000≤c∧c≤1000000∧Q (zM (dU a c))
def upD:Dt:=.tup [.str (Str.ofString "up"),.int 1]
def jb:ASp:=fun _ _ _ _=>False
def Rf.nam:Rf→Str
 | .row=>"NoRow" | .text=>"NoText" | .number=>"NoNumber" | .less=>"TooLess" | .pairs=>"NoPairs" | .nought=>"Nought"
def Rf.ix:Rf→Nat
 | .row=>2|.text=>3|.number=>4|.less=>5|.pairs=>6|.nought=>7
def thL(i:Nat):List Bool:=[i==2||2==1,i==3||3==1,i==4||4==1,i==5||5==1,i==6||6==1,i==7||7==1,i==0||0==1,i==8||8==1,i==9||9==1,i==10||10==1,i==11||11==1,i==12||12==1]
def thD(c:Rf):Dt:=.lst (Dt.bl true::(thL c.ix).map Dt.bl)
def ja:DSp:=fun ds Q=>∃s c,ds=[.str s]∧VH s c∧Q (thD c)
def bc:DSp:=fun ds Q=>∃c,ds=[.str (Rf.nam c)]∧Q (thD c)
def Um:DSp:=fun ds Q=>∃z:Int,ds=[.int z]∧∀s,s∈nrR→Q (.str s)
def jc(l:List Rw):DSp:=fun ds Q=>∃b n:Nat,ds=[.int b,.int n]∧b≤60∧n<10^31∧Q (.lst (l.map fun r=>.str (r.str b n)))
def Ul:DSp:=fun ds Q=>∃b n:Nat,ds=[.int b,.int n]∧b≤60∧n<10^31∧Q (.lst (opR.map fun p=>.tup [.str (p.1.str b n),.str p.2.nam]))
def Uk:DSp:=fun ds Q=>∃b:Nat,ds=[.int b]∧b≤60∧Q (.lst (tlR.map fun r=>.str (r.str b 1)))
def k_:DSp:=fun ds Q=>∃z:Int,ds=[.int z]∧0≤z∧z<((10^40:Nat):Int)∧∀s c,VH s c→Q (.tup [.str s,.str (Rf.nam c)])
def Nj(l:List Nat)(Q:Dt→Prop):Prop:=(∃m J,spl 32 l=[tl ("write":Str),tl ("below2":Str),dg m]∧m<10^40∧iG .below 2 [(m:Int)] J∧cJ .below 2 [(m:Int)] J=0∧J≤900∧Q (.str (rsh (wb (fgJ .below 2 [(m:Int)] J)))))∨(l=tl ("plus falling1 1.0 1":Str)∧Q (.str (rsh [0,0,1])))
structure Adr where
 Plain:Addr
 Below:Addr
 Balanced:Addr
 Growing:Addr
 Falling:Addr
 Pairs:Addr
 x:Nat→Addr
abbrev Adr.NoWay(A:Adr):Addr:=A.x 0
abbrev Adr.OddError(A:Adr):Addr:=A.x 1
abbrev Adr.NoRow(A:Adr):Addr:=A.x 2
abbrev Adr.NoText(A:Adr):Addr:=A.x 3
abbrev Adr.NoNumber(A:Adr):Addr:=A.x 4
abbrev Adr.TooLess(A:Adr):Addr:=A.x 5
abbrev Adr.NoPairs(A:Adr):Addr:=A.x 6
abbrev Adr.Nought(A:Adr):Addr:=A.x 7
abbrev Adr.NoWriting(A:Adr):Addr:=A.x 8
abbrev Adr.NoRatio(A:Adr):Addr:=A.x 9
abbrev Adr.NoFalling(A:Adr):Addr:=A.x 10
abbrev Adr.NoSpan(A:Adr):Addr:=A.x 11
abbrev Adr.NoTotal(A:Adr):Addr:=A.x 12
def o7(i j:Nat):Bool:=i==j||j==1
structure Txt(K:A_)(mg:be)(A:Adr):Prop where
 kt:VJ K
 isinstance:mg "isinstance"=none
 n_int:mg "int"=none
 n_bool:mg "bool"=none
 n_tuple:mg "tuple"=none
 n_list:mg "list"=none
 len:mg "len"=none
 range:mg "range"=none
 n_zip:mg "zip"=none
 n_enumerate:mg "enumerate"=none
 n_reversed:mg "reversed"=none
 n_min:mg "min"=none
 n_max:mg "max"=none
 n_str:mg "str"=none
 n_ValueError:mg "ValueError"=none
 gs_FIGURES:∃tk,mg "FIGURES"=some (.str "0123456789" tk)
 Lu:Cls K A.Plain
 L0:NoAttr K A.Plain "base"
 Lv:Cls K A.Below
 L1:NoAttr K A.Below "base"
 Ls:Cls K A.Balanced
 LV:NoAttr K A.Balanced "half"
 Lw:Cls K A.Growing
 L3:NoAttr K A.Growing "first"
 Lr:Cls K A.Falling
 Ly:NoAttr K A.Falling "most"
 Lx:Cls K A.Pairs
 LW:NoAttr K A.Pairs "most"
 LO:mg "Falling"=some (.ref A.Falling)
 L4:mg "Pairs"=some (.ref A.Pairs)
 KY:mg "Below"=some (.ref A.Below)
 KZ:tI K A.Plain
 L5:PySem.W.kitOne K (.ref A.Plain) (.ref A.Falling)=some false
 L6:PySem.W.kitOne K (.ref A.Plain) (.ref A.Pairs)=some false
 KB:PySem.W.kitOne K (.ref A.Plain) (.ref A.Below)=some false
 K0:tI K A.Below
 L7:PySem.W.kitOne K (.ref A.Below) (.ref A.Falling)=some false
 L8:PySem.W.kitOne K (.ref A.Below) (.ref A.Pairs)=some false
 KC:PySem.W.kitOne K (.ref A.Below) (.ref A.Below)=some true
 K1:tI K A.Balanced
 L9:PySem.W.kitOne K (.ref A.Balanced) (.ref A.Falling)=some false
 Ka:PySem.W.kitOne K (.ref A.Balanced) (.ref A.Pairs)=some false
 KD:PySem.W.kitOne K (.ref A.Balanced) (.ref A.Below)=some false
 K3:tI K A.Growing
 Kb:PySem.W.kitOne K (.ref A.Growing) (.ref A.Falling)=some false
 Kc:PySem.W.kitOne K (.ref A.Growing) (.ref A.Pairs)=some false
 KE:PySem.W.kitOne K (.ref A.Growing) (.ref A.Below)=some false
 KG:tI K A.Falling
 LX:PySem.W.kitOne K (.ref A.Falling) (.ref A.Falling)=some true
 Ke:PySem.W.kitOne K (.ref A.Falling) (.ref A.Pairs)=some false
 KH:PySem.W.kitOne K (.ref A.Falling) (.ref A.Below)=some false
 K4:tI K A.Pairs
 Kf:PySem.W.kitOne K (.ref A.Pairs) (.ref A.Falling)=some false
 Kg:PySem.W.kitOne K (.ref A.Pairs) (.ref A.Pairs)=some true
 KI:PySem.W.kitOne K (.ref A.Pairs) (.ref A.Below)=some false
 Kh:mg "NoWay"=some (.ref A.NoWay)
 K5:mg "OddError"=some (.ref A.OddError)
 KJ:mg "NoRow"=some (.ref A.NoRow)
 LH:mg "NoText"=some (.ref A.NoText)
 KK:mg "NoNumber"=some (.ref A.NoNumber)
 Kj:mg "TooLess"=some (.ref A.TooLess)
 Kk:mg "NoPairs"=some (.ref A.NoPairs)
 KL:mg "Nought"=some (.ref A.Nought)
 K6:mg "NoWriting"=some (.ref A.NoWriting)
 K7:mg "NoRatio"=some (.ref A.NoRatio)
 K8:mg "NoFalling"=some (.ref A.NoFalling)
 K9:mg "NoSpan"=some (.ref A.NoSpan)
 K_:mg "NoTotal"=some (.ref A.NoTotal)
 LY:ExcK K A.TooLess
 Kl:yP K A.TooLess
 LG:ExcK K A.NoText
 Km:yP K A.NoText
 Kn:ExcK K A.NoWay
 KM:yP K A.NoWay
 Ko:ExcK K A.NoRow
 Kp:yP K A.NoRow
 LZ:ExcK K A.NoPairs
 Kq:yP K A.NoPairs
 Kr:ExcK K A.Nought
 Ks:yP K A.Nought
 Kt:ExcK K A.NoNumber
 Ku:yP K A.NoNumber
 kx:∀i j:Nat,i<13→j<13→PySem.W.kitOne K (.ref (A.x i)) (.ref (A.x j))=some (o7 i j)∧PySem.W.exmOne K (.ref (A.x i)) (.ref (A.x j))=some (o7 i j)
 kv:∀i:Nat,i<13→PySem.W.kitOne K (.ref (A.x i)) (.type "ValueError")=some true
def Adr.at(A:Adr):Kd→Addr
 | .plain=>A.Plain|.below=>A.Below|.balanced=>A.Balanced|.growing=>A.Growing|.falling=>A.Falling|.pairs=>A.Pairs
def zR(A:Adr)(k:Kd)(n:Int):Dt:=.way (A.at k) k.fld n
def wa(A:Adr)(k:Kd)(g:Int→Int→Int):DSp:=fun ds Q=>∃n p,ds=[zR A k n,.int p]∧k.ok n∧Q (.int (g n p))
def vb(A:Adr)(k:Kd)(g:Int→Int→Nm):DSp:=fun ds Q=>∃n p,ds=[zR A k n,.int p]∧k.ok n∧Q (g n p).dt
def Q6:DSp:=fun ds Q=>∃o p,ds=[o,p]∧Q (.int 0)
def Uj:DSp:=fun ds Q=>∃o,ds=[o]∧Q (.int 0)
def NQ:DSp:=fun ds Q=>∃o,ds=[o]∧Q (.tup [.int 0,.int 0])
def VG(k:Kd):DSp:=fun ds Q=>∃o,ds=[o]∧Q k.zero.dt
def Lc(A:Adr):DSp:=fun ds Q=>∃k n m,ds=[zR A k n,.int m]∧k.five=true∧k.ok n∧0≤m∧m≤1000∧Q (.lst (wts k n m.toNat))
def Uh(A:Adr)(k:Kd):DSp:=fun ds Q=>∃n m,ds=[zR A k n,.int m]∧k.ok n∧0≤m∧m≤1000∧Q (.lst (wts k n m.toNat))
def tD{K:A_}{mg:be}{A:Adr}(T:Txt K mg A)(k:Kd):tI K (A.at k):=by
 cases k
 ·exact T.KZ
 ·exact T.K0
 ·exact T.K1
 ·exact T.K3
 ·exact T.KG
 ·exact T.K4
def kiF{K:A_}{mg:be}{A:Adr}(T:Txt K mg A)(k:Kd):PySem.W.kitOne K (.ref (A.at k)) (.ref A.Falling)=some k.isF:=by
 cases k
 ·exact T.L5
 ·exact T.L7
 ·exact T.L9
 ·exact T.Kb
 ·exact T.LX
 ·exact T.Kf
def bd(A:Adr):DSp:=fun ds Q=>∃k n r,ds=[zR A k n,zM r]∧k.ok n∧r.length≤1000∧Q (.bl (uc k n r))
def kg(A:Adr):DSp:=fun ds Q=>∃k n r,ds=[zR A k n,zM r]∧k.ok n∧r.length≤1000∧∀b:Bool,(b=true↔∀p,p<r.length→k.low n p≤r.getD p 0∧r.getD p 0≤k.high n p)→Q (.bl b)
def kZ(A:Adr):DSp:=fun ds Q=>∃n r,ds=[zR A .falling n,zM r]∧Kd.falling.ok n∧r.length≤1000∧∀b:Bool,(b=true↔∀p,p+1<r.length→r.getD (p+1) 0=n→r.getD p 0=0)→Q (.bl b)
def V_(k:Kd):(("low":Str)==k.fld)=false:=by cases k<;>decide +kernel
def ck(k:Kd):(("high":Str)==k.fld)=false:=by cases k<;>decide +kernel
def c7(A:Adr):DSp:=fun ds Q=>∃k n t j,ds=[zR A k n,.int t,.int ((j:Nat):Int)]∧k.three=true∧k.ok n∧j≤100000∧Q (.tup [.int (fJ k n j t),.int (sJ k n j t)])
def mC(A:Adr)(k:Kd):DSp:=fun ds Q=>∃n t j,ds=[zR A k n,.int t,.int ((j:Nat):Int)]∧k.ok n∧j≤100000∧Q (.tup [.int (fJ k n j t),.int (sJ k n j t)])
def Uo(A:Adr):z0:=fun ds Q R=>∃k n ts J,ds=[zR A k n,zM ts]∧k.three=true∧k.ok n∧iG k n ts J∧J≤900∧((cJ k n ts J=0∧Q (.tup [zM (fgJ k n ts J),zM (crJ k n ts (J+1))]))∨(wX k (.i (cJ k n ts J))=false∧R A.TooLess))
def kd(A:Adr):z0:=fun ds Q R=>∃k n ts J,ds=[zR A k n,zM ts]∧k.three=true∧k.ok n∧iG k n ts J∧J≤900∧((cJ k n ts J=0∧Q (zM (wb (fgJ k n ts J))))∨(wX k (.i (cJ k n ts J))=false∧R A.TooLess))
def W6(k:Kd):(("split":Str)==k.fld)=false:=by cases k<;>decide +kernel
def W7(k:Kd):(("ratio":Str)==k.fld)=false:=by cases k<;>decide +kernel
def uj(k:Kd):(("nought":Str)==k.fld)=false:=by cases k<;>decide +kernel
def Ua(k:Kd):(("has":Str)==k.fld)=false:=by cases k<;>decide +kernel
def ij(k:Kd):(("weights":Str)==k.fld)=false:=by cases k<;>decide +kernel
def uq(A:Adr):z0:=fun ds Q R=>∃x,ds=[.str x]∧asc x∧x.length≤5000∧(∀i,wv x=some i→Q (.int i))∧(wv x=none→R A.NoText)
def v7(A:Adr):z0:=fun ds Q R=>∃n lo hi,ds=[.int n,.int lo,.int hi]∧lo.natAbs.log2<1000∧hi.natAbs.log2<1000∧((lo≤n∧n≤hi∧Q (.int n))∨(¬(lo≤n∧n≤hi)∧R A.NoWay))
def mB(A:Adr):z0:=fun ds Q R=>∃x i,ds=[.str x,.int i]∧(∀k,x=Kd.nam k→k.ok i→Q (zR A k i))∧(∀k,x=Kd.nam k→¬k.ok i→R A.NoWay)∧((∀k,x≠Kd.nam k)→R A.NoText)
def rZ(A:Adr):z0:=fun ds Q R=>∃x,ds=[.str x]∧asc x∧x.length≤4000∧(∀k n,Kd.ok k n→x=Kd.nam k++shw n→Q (zR A k n))∧((∀k n,Kd.ok k n→x≠Kd.nam k++shw n)→R A.NoText)
def kY(A:Adr):z0:=fun ds Q R=>∃x,ds=[.str x]∧asc x∧x.length≤5000∧(∀m,nv x=some m→Q m.dt)∧(nv x=none→R A.NoText)
def oZ(A:Adr):z0:=fun ds Q R=>∃k n x,ds=[zR A k n,.str x]∧Kd.ok k n∧asc x∧x.length≤620∧(∀r,rvv wv k n x=some r→Q (zM r))∧(rvv wv k n x=none→R A.NoText)
def kT(A:Adr):z0:=fun ds Q R=>∃s:Str,ds=[.str s]∧s.length≤1000∧0<(Txt.split s " ").length∧(nt (Txt.split s " ")→Q (.lst ((Txt.split s " ").map Dt.str)))∧(¬nt (Txt.split s " ")→R A.NoRow)
theorem tG:∀ws:List Str,vt (ws.map Dt.str)=some ws
 | []=>rfl
 | w::ws=>by show(vt (ws.map Dt.str)).map _=_;rw[tG ws];rfl
def dG(ns:List (Str×Int))(k:Str):(∃i,y_ ns k=.int i)∨y_ ns k=.non:=by
 unfold y_
 cases ns.find? fun p=>decide (p.1=k) with
 | none=>exact .inr rfl
 | some p=>exact .inl ⟨_,rfl⟩
def kiP{K:A_}{mg:be}{A:Adr}(T:Txt K mg A)(k:Kd):PySem.W.kitOne K (.ref (A.at k)) (.ref A.Pairs)=some (match k with|.pairs=>true|_=>false):=by
 cases k
 ·exact T.L6
 ·exact T.L8
 ·exact T.Ka
 ·exact T.Kc
 ·exact T.Ke
 ·exact T.Kg
def tj(A:Adr):DSp:=fun ds Q=>∃k n,∃rs:List (List Int),ds=[zR A k n,.lst (rs.map zM)]∧k.ok n∧(∀r∈rs,xF k n r∧r.length≤1000)∧Q .non
def vv(A:Adr):z0:=fun ds Q R=>∃k n r m,ds=[zR A k n,zM r,.int m]∧k.ok n∧xF k n r∧r.length≤300∧(k=.pairs→R A.NoPairs)∧(k≠.pairs→m<1∧R A.Nought)
def ur(A:Adr):z0:=fun ds Q R=>∃n a b,ds=[zR A .pairs n,zM a,zM b]∧R A.NoPairs
def Vu{w:List Nat}{i:Int}(h:vV w=some i):(i=3∧(w=tl ("write":Str)∨w=tl ("worth":Str)))∨(i=4∧w≠tl ("write":Str)∧w≠tl ("worth":Str)):=by
 unfold vV at h
 obtain⟨p,hp,rfl⟩:=Bw.mp h
 have h1:=List.mem_of_find?_eq_some hp
 have h2:=List.find?_some hp
 have h2:tl p.1=w:=of_decide_eq_true h2
 subst h2
 revert h1
 have key:∀p∈counts,(p.2=3∧(tl p.1=tl ("write":Str)∨tl p.1=tl ("worth":Str)))∨(p.2=4∧tl p.1≠tl ("write":Str)∧tl p.1≠tl ("worth":Str)):=by decide +kernel
 exact key p
def Mq{ws:List Str}{x y z:List Nat}(h:ws.map tl=[x,y,z]):∃a b c,ws=[a,b,c]∧tl a=x∧tl b=y∧tl c=z:=by
 match ws,h with
 | [a,b,c],h=>injection h with h1 h;injection h with h2 h;injection h with h3 h;exact⟨a,b,c,rfl,h1,h2,h3⟩
def Mp{ws:List Str}{x y z u:List Nat}(h:ws.map tl=[x,y,z,u]):∃a b c d,ws=[a,b,c,d]∧tl a=x∧tl b=y∧tl c=z∧tl d=u:=by
 match ws,h with
 | [a,b,c,d],h=>injection h with h1 h;injection h with h2 h;injection h with h3 h;injection h with h4 h;exact⟨a,b,c,d,rfl,h1,h2,h3,h4⟩
def iL{ws:List Str}(h:vV ((ws.map tl).headD [])=some (ws.length:Int)):∃a b c,(ws=[a,b,c]∧(tl a=tl ("write":Str)∨tl a=tl ("worth":Str)))∨(∃d,ws=[a,b,c,d]∧tl a≠tl ("write":Str)∧tl a≠tl ("worth":Str)):=by
 have hc:=Vu h
 have hl:ws.length=3∨ws.length=4:=by rcases hc with ⟨e,_⟩|⟨e,_⟩<;>omega
 match ws,hc,hl with
 | [a,b,c],hc,_=>
  rcases hc with ⟨_,h⟩|⟨e,_⟩
  ·exact⟨a,b,c,.inl ⟨rfl,h⟩⟩
  ·exact absurd e (by show ¬((3:Nat):Int)=4;decide)
 | [a,b,c,d],hc,_=>
  rcases hc with ⟨e,_⟩|⟨_,h⟩
  ·exact absurd e (by show ¬((4:Nat):Int)=3;decide)
  ·exact⟨a,b,c,.inr ⟨d,rfl,h⟩⟩
 | [],_,h=>simp at h
 | [_],_,h=>simp at h
 | [_,_],_,h=>simp at h
 | _::_::_::_::_::_,_,h=>simp at h
def br:spl 32 (tl ("plus falling1 1.0 1":Str))=[tl ("plus":Str),tl ("falling1":Str),tl ("1.0":Str),tl ("1":Str)]:=by decide +kernel
def two_good:("below2":Str)=Kd.below.nam++shw ((2:Nat):Int)∧("falling1":Str)=Kd.falling.nam++shw ((1:Nat):Int):=⟨ye (by rw[yk];decide +kernel),ye (by rw[yk];decide +kernel)⟩
def Og(m:Nat)(h:m<10^40):nvB (dg m)=some (.i (m:Int)):=by
 have hl:=wD (n:=m) (k:=40) (by decide) h
 have hf:(dg m).all w4=true:=Bs.mpr fun c hc=>figB_iff.mpr (yN m c hc)
 have s1:sgn (dg m)=dg m:=by
  unfold sgn
  rw[if_neg]
  intro z
  obtain⟨c,r,e,hc⟩:=vq m
  rw[e]at z
  have:c=45:=Option.some.inj z
  unfold zQ at hc
  omega
 rw[sx (tw (by unfold zQ;decide))]
 unfold wvB
 rw[s1,if_pos,lW]
 ·rfl
 ·refine⟨vC m,by omega,hf,fun z=>?_⟩
  rcases Nat.eq_zero_or_pos m with rfl|hp
  ·decide +kernel
  ·exact absurd z (u4 hp)
def VD{l:List Nat}{Q:Dt→Prop}(h:Nj l Q):pX (spl 32 l)=true:=by
 rcases h with ⟨m,J,e,_⟩|⟨e,_⟩
 ·rw[e]
  unfold pX
  have z:(dg m).isEmpty=false:=by
   cases e:dg m with
   | nil=>exact absurd e (vC m)
   | cons _ _=>rfl
  have e2:(tl ("write":Str)).isEmpty=false∧(tl ("below2":Str)).isEmpty=false∧vV (tl ("write":Str))=some 3:=by decide +kernel
  rw[BJ,BJ,BJ,z,e2.1,e2.2.1]
  exact decide_eq_true e2.2.2
 ·rw[e]
  decide +kernel
def Adr.cls(A:Adr)(c:Rf):Addr:=A.x c.ix
def dueN:List Str:=(["NoRow","NoText","NoNumber","TooLess","NoPairs","Nought","NoWay","NoWriting","NoRatio"]:List Str)++(["NoFalling","NoSpan","NoTotal"]:List Str)
def Mf{Q:Dt→Prop}{d e:Dt}(q:Q d)(h:e=d):Q e:=h ▸ q
def l9{m:Nat}(hm:m<10^40):∃J,J≤900∧iG .below 2 [(m:Int)] J∧cJ .below 2 [(m:Int)] J=0∧asc (Str.ofString "write below2 "++(Str.ofString (toString (m:Int))++Str.empty))∧(Str.ofString "write below2 "++(Str.ofString (toString (m:Int))++Str.empty)).length≤100∧spl 32 (tl (Str.ofString "write below2 "++(Str.ofString (toString (m:Int))++Str.empty)))=[tl ("write":Str),tl ("below2":Str),dg m]:=by
 obtain⟨J,F,h0,hJ⟩:=Q0 (m:=(m:Int)) (b:=133) (Nat.le_of_lt (B0 (show((m:Int)).natAbs<10^40 by omega) (by decide)))
 have et:tl (Str.ofString "write below2 "++(Str.ofString (toString (m:Int))++Str.empty))=tl ("write":Str)++32::(tl ("below2":Str)++32::dg m):=by
  have e1:tl ("write below2 ":Str)=tl ("write":Str)++32::(tl ("below2":Str)++[32]):=by decide +kernel
  have e2:tl Str.empty=[]:=rfl
  rw[yB,yB,mK,e1,e2]
  simp only[List.append_assoc,List.cons_append,List.nil_append,List.append_nil]
 refine⟨J,by omega,F,h0,fun c hc=>?_,?_,?_⟩
 ·rw[et]at hc
  have l1:∀c∈tl ("write":Str),c<128:=by decide +kernel
  have l2:∀c∈tl ("below2":Str),c<128:=by decide +kernel
  rcases Bx.mp hc with hc|hc
  ·exact l1 c hc
  rcases Bk.mp hc with rfl|hc
  ·decide
  rcases Bx.mp hc with hc|hc
  ·exact l2 c hc
  rcases Bk.mp hc with rfl|hc
  ·decide
  ·have:=yN m c hc
   unfold zQ at this
   omega
 ·rw[←yt,et,Bo,Bm,Bo,Bm]
  have l1:(tl ("write":Str)).length=5∧(tl ("below2":Str)).length=6:=by decide +kernel
  have:=wD (n:=m) (k:=40) (by decide) hm
  omega
 ·rw[et]
  exact UC (by decide +kernel) (by decide +kernel) (tw (by unfold zQ;decide))
def jz:asc ("plus falling1 1.0 1":Str)∧(("plus falling1 1.0 1":Str)).length≤100∧rsh [0,0,1]=("1.0.0":Str):=⟨by unfold asc;decide +kernel,by decide +kernel,by decide +kernel⟩
def kB{b:Nat}(h:b≤60):((b:Int)).natAbs.log2<1000:=qU (BV h (by decide))
def rV{α:Type}{l:List α}{f:α→Dt}{z:Int}(h:0<l.length):∃x∈l,atI (l.map f) (z.fmod ((l.map f).length:Nat))=some (f x):=by
 have ll:(l.map f).length=l.length:=A' _
 rw[ll]
 have s0:=Int.fmod_nonneg_of_pos z (show(0:Int)<(l.length:Int) by omega)
 have s1:=Int.fmod_lt_of_pos z (show(0:Int)<(l.length:Int) by omega)
 generalize z.fmod (l.length:Int)=i at *
 have hi:i.toNat<l.length:=by omega
 refine⟨l[i.toNat],List.getElem_mem _,?_⟩
 have e:((i.toNat:Nat):Int)=i:=Int.toNat_of_nonneg s0
 have:=oS (xs:=l.map f) (j:=i.toNat) (v:=f l[i.toNat]) (by rw[Bn,Bh hi];rfl)
 rwa [e]at this
def Ov{z:Int}(h:0≤z)(a b:Nat):(z.fdiv (a:Int)).fmod (b:Int)=((z.toNat/a%b:Nat):Int):=by
 obtain⟨n,rfl⟩:=Int.eq_ofNat_of_zero_le h
 show((n:Int).fdiv (a:Int)).fmod (b:Int)=_
 rw[Qv,Qs]
 rfl
def MA{K:A_}{mg:be}{A:Adr}(T:Txt K mg A)(c:Rf):yP K (A.cls c):=by
 cases c
 ·exact T.Kp
 ·exact T.Km
 ·exact T.Ku
 ·exact T.Kl
 ·exact T.Kq
 ·exact T.Ks
def oY(A:Adr):DSp:=fun ds Q=>∃k n ns,ds=[zR A k n,zM ns]∧k.five=true∧k.ok n∧ns.length≤1000∧bdR ns∧Q (pF k n ns).dt
def c6(A:Adr):DSp:=fun ds Q=>∃k n m,ds=[zR A k n,Nm.dt m]∧Q (ji k m).dt
def oX(A:Adr):z0:=fun ds Q R=>∃k n m,ds=[zR A k n,Nm.dt m]∧k.ok n∧((∃(a:Int)(J:Nat),k=.below∧m=.i a∧iG k n [a] J∧cJ k n [a] J=0∧J≤900∧Q (zM (wb (fgJ k n [a] J))))∨(wX k m=false∧R A.NoNumber))
def c_(A:Adr):z0:=fun ds Q R=>∃k n r k2 n2,ds=[zR A k n,zM r,zR A k2 n2]∧k.five=true∧k.ok n∧k2.ok n2∧xF k n r∧r.length≤300∧wX k2 (ji k2 (pF k n r))=false∧R A.NoNumber
def kU(A:Adr):DSp:=fun ds Q=>∃r p,ds=[zR A .falling 1,zM r,.int p]∧((r=[1,1]∧p=1∧Q upD)∨(r=[0,0,1]∧(p=0∨p=1∨p=2)∧Q .non))
def bf(A:Adr):DSp:=fun ds Q=>ds=[zR A .falling 1,upD]∧Q (.lst [.tup [.int 2,.int 1],.tup [.int 1,.int (-1)],.tup [.int 0,.int (-1)]])
def Up(A:Adr):ASp:=fun d0 es0 ds Q=>d0=zR A .falling 1∧es0=[Dt.int 1,Dt.int 1]∧ds=[upD,.int 1]∧Q [Dt.int 0,Dt.int 0,Dt.int 1]
def c9(A:Adr):DSp:=fun ds Q=>ds=[zR A .falling 1,zM [1,1],upD]∧Q (.int 1)
def je(A:Adr):DSp:=fun ds Q=>ds=[zR A .falling 1,zM [1,1]]∧Q .non
def c8(A:Adr):DSp:=fun ds Q=>ds=[zR A .falling 1,zM [1,1]]∧Q (.tup [.lst [upD],zM [0,0,1]])
def jf(A:Adr):DSp:=fun ds Q=>ds=[zR A .falling 1,zM [1,1]]∧Q (zM [0,0,1])
def sH(A:Adr):z0:=fun ds Q R=>∃k n r,ds=[zR A k n,zM r]∧k.ok n∧r.length≤1000∧((k=.falling∧n=1∧r=[1,1]∧Q (zM [0,0,1]))∨(k.three=true∧r.length≤900∧wX k (.i (cJ k n r r.length))=false∧R A.TooLess))
def bb(A:Adr):z0:=fun ds Q R=>∃r,∃p:Int,ds=[zM r,.int p]∧r.length≤1000∧(r.length:Int)=p+1∧R A.TooLess
def Ui(A:Adr):z0:=fun ds Q R=>∃n r,ds=[zR A .falling n,zM r]∧r.length≤1000∧r.getD (r.length-1) 0<0∧R A.TooLess
def kX(A:Adr):z0:=fun ds Q R=>ds=[zR A .falling 1,zM [0,1],zM [1]]∧Q (zM [0,0,1])
def ba(A:Adr):z0:=fun ds Q R=>∃k n a b,ds=[zR A k n,zM a,zM b]∧k.ok n∧xF k n a∧xF k n b∧a.length≤300∧b.length≤300∧dJ k n a b=true∧R A.TooLess
def kW(A:Adr):z0:=fun ds Q R=>∃x k,∃n:Nat,∃a b,ds=[.str x,zR A k n,zM a,zM b]∧k.ok n∧xF k n a∧xF k n b∧a.length≤300∧b.length≤300∧((∃c,Tg (tl x) k n a b=some c∧R (A.cls c))∨(x="plus"∧k=.falling∧n=1∧a=[0,1]∧b=[1]∧Q (.str (rsh [0,0,1]))))
def mz(A:Adr):z0:=fun ds Q R=>∃a b c d k,∃n:Nat,∃r,ds=[.lst [.str a,.str b,.str c,.str d],zR A k n,zM r]∧k.ok n∧xF k n r∧r.length≤300∧asc d∧d.length≤100∧((∃e,qm (tl a) k n r (tl d)=some e∧R (A.cls e))∨(a="plus"∧d="1"∧k=.falling∧n=1∧r=[0,1]∧Q (.str (rsh [0,0,1]))))
def kf(A:Adr):z0:=fun ds Q R=>∃s,ds=[.str s]∧asc s∧s.length≤100∧((∃c,s9 (tl s)=some c∧R (A.cls c))∨Nj (tl s) Q)
section
variable{P:Program}{w:World}{K:A_}{mg:be}{base:Heap}{f:Addr}{fd:FuncData}{A:Adr}
abbrev xS:Stmt:=top 96
def sQ:zh ["_law_script","_law_k"] ["_law_script","_law_k"] (defScope xS):=by walk_at "sc"
def rh(T:Txt K mg A)(F:Fun K "_law_cell_at" "_law_cell_at" xS f fd):FnOk P w K mg base CX0 1 f fd ["_law_script","_law_k"] (zw K (bg)):=by
 refine okD F sQ (by walk_at "ln") fun _ _ _ _ _ _ hr ds Q h=>?_
 obtain⟨ns,k,rfl,hk,q⟩:=h
 refine⟨_,(zd (zA (zu (rp) (dv 1) (yq rfl T.len (dv 0)) (zo _)) (zf (zj (zC (dv 0) (dv 1) (fun _ _=>rfl)))) zk)
 (zf (zj zg))),?_⟩
 walk_at "rd"
 refine Ol (fun hlt=>?_) (fun _=>q 0)
 have hlt:k<(ns.map Dt.int).length:=of_decide_eq_true hlt
 rw[A']at hlt
 exact⟨_,rfl,_,rfl,_,_,_,rfl,rfl,sG hk hlt,q _⟩
abbrev vJ:Stmt:=top 89
def sc_words_of:zh ["row","words"] ["row"] (defScope vJ):=by walk_at "sc"
def nJ(T:Txt K mg A)(GD_COUNTS:GDi P w K mg "COUNTS" [("write",3),("worth",3),("plus",4),("minus",4),("times",4),("share",4),("order",4),("move",4)])(F:Fun K "words_of" "words_of" vJ f fd):FnOk P w K mg base (CX1 P w) 1 f fd ["row"] (yd K (kT A)):=by
 refine nS F sc_words_of (by walk_at "ln") fun _ _ _ _ _ _ hr ds Q R h rz=>?_
 obtain⟨s,rfl,hs,h0,q,hR⟩:=h
 refine⟨_,(zd (z8 (i:=1) sc_words_of.nd rfl (Or.inl rfl) (rR (dv 0) zi))
 (yp (zA (cr (DW.dt (rP (zu PU zi (dv 1) (by with_unfolding_all rfl)) (rO (zu (ak hr) (Vo GD_COUNTS rfl (zC (dv 1) zg (fun _ _=>rfl))) (yq rfl T.len (dv 1)) (zo _)))))) (zf (ya rfl rfl T.KJ T.Ko zi)) zk)
 (zf (wC 1)))),?_⟩
 walk_at "rd"
 refine⟨by omega,?_⟩
 walk_at "rd"
 generalize Txt.split s " "=ws at *
 refine⟨fun ρ=>ρ=[.some (.str s),.own (ws.map Dt.str)]∧nt ws,?_,?_⟩
 ·walk_at "rd"
  refine⟨_,_,ws,rfl,rfl,tG ws,_,rfl,?_⟩
  refine ifB (fun h=>ifT rfl ?_) (fun h=>?_)
  ·walk_at "rd"
   exact rz _ (hR fun ho=>by rw[ho.1]at h;cases h)
  ·cases ws with
   | nil=>exact absurd h0 (BM 0)
   | cons w0 wl=>
    have ll:((w0::wl).map Dt.str).length=(w0::wl).length:=A' _
    walk_at "rd"
    have at0:atI ((w0::wl).map Dt.str) 0=some (.str w0):=by
     unfold atI
     rw[WU (Int.le_refl 0) (by rw[ll];exact Int.ofNat_lt.mpr (Nat.succ_pos _))]
     rfl
    refine⟨_,0,.str w0,rfl,rfl,at0,w0,rfl,?_⟩
    show OU (OC 1) _ fun e=>gNe (y_ counts w0) e _
    walk_at "rd"
    rw[ll]
    rcases dG counts w0 with ⟨i,e⟩|e
    ·rw[e]
     refine⟨rfl,rfl,_,rfl,?_⟩
     by_cases ei:i=((w0::wl).length:Int)
     ·exact ifF (nT (eqI ei)) ⟨rfl,h,by rw[←ei];exact e⟩
     ·refine ifT (nF (neI ei)) ?_
      walk_at "rd"
      exact rz _ (hR fun ho=>ei (by have:=ho.2.symm.trans e;injection this with z;exact z.symm))
    ·rw[e]
     refine⟨rfl,rfl,_,rfl,ifT rfl ?_⟩
     walk_at "rd"
     exact rz _ (hR fun ho=>by have:=ho.2.symm.trans e;cases this)
 ·rintro ρ ⟨rfl,ho⟩
  exact⟨_,rfl,q ho⟩
abbrev z6:Stmt:=top 80
def sc_has_figures_alone_texts:zh ["text","sign"] ["text"] (defScope z6):=by walk_at "sc"
def xz(T:Txt K mg A)(F:Fun K "has_figures_alone" "has_figures_alone" z6 f fd):FnOk P w K mg base CX0 1 f fd ["text"] (zw K (o6)):=by
 refine okD F sc_has_figures_alone_texts (by walk_at "ln") fun _ _ _ _ _ _ hr ds Q h=>?_
 obtain⟨x,rfl,hx,q⟩:=h
 refine⟨_,(zd (W_ (j:=1) rfl sc_has_figures_alone_texts.nd rfl (Or.inl rfl) PassesOwn.never (dv 0) (zf (zA (zu gz (dv 1) (ml rfl T.gs_FIGURES) (by with_unfolding_all rfl)) (zf (zj vE)) zk)))
 (zf (zj vE))),?_⟩
 refine⟨_,rfl,x,fun i ρ=>∃v,ρ=[.some (.str x),v]∧∀c∈(tl x).take i,w4 c=true,rfl,VB hx,⟨_,rfl,fun c hc=>by cases hc⟩,?_,?_⟩
 ·rintro i c ρ' hc ⟨v,rfl,hb⟩
  have hc':(tl x)[i]? = some c:=by unfold tl;rw[Array.getElem?_toList];exact hc
  refine⟨_,rfl,_,_,rfl,rfl,_,rfl,?_⟩
  rw[aj]
  refine ifB (fun h=>?_) (fun h=>⟨_,rfl,fun c' hc2=>?_⟩)
  ·have:mx x=false:=by
    rw[←Bool.not_eq_true]
    intro z
    have:=Bs.mp z c (Bp hc')
    unfold w4 at this
    rw[this]at h;cases h
   rw[this]at q
   exact q
  ·rw[List.take_succ,hc']at hc2
   rcases Bx.mp hc2 with h2|h2
   ·exact hb c' h2
   ·rw[By.mp h2]
    exact qR h
 ·rintro ρ' ⟨v,rfl,hb⟩
  have:mx x=true:=Bs.mpr fun c hc=>hb c (by
   rw[List.take_of_length_le (by unfold tl;simp)];exact hc)
  rw[this]at q
  exact q
abbrev wc:Stmt:=top 82
def sc_whole_read:zh ["text","figures"] ["text"] (defScope wc):=by walk_at "sc"
def qo(T:Txt K mg A)(Aw:DOk P w K mg base 1 "has_figures_alone_texts" (o6))(F:Fun K "whole_read" "whole_read" wc f fd):FnOk P w K mg base (CX1 P w) 2 f fd ["text"] (z9 K (uq A)):=by
 refine rn F sc_whole_read (by walk_at "ln") fun _ _ _ _ _ _ hr ds Q R h rz=>?_
 obtain⟨x,rfl,hx,hl,q,hR⟩:=h
 refine⟨_,(zd (zq (i:=1) sc_whole_read.nd rfl (Or.inl rfl) (mj (zW (iq (dv 0) zi)) (pe (dv 0) (oH zg) oI) (dv 0)))
 (yp (zA (DW.dt (rP (zu (yJ) (dv 1) zi (zo _)) (rP (zu (rq) (kN rfl T.len (dv 1)) zg (zo _)) (rO (wB (zW (zl Aw (rom hr) rfl (zb (dv 1) ze)))))))) (zf (ya rfl rfl T.LH T.LG zi)) zk)
 (yp (zA (DW.dt (y6 (zu (yJ) (QH (dv 1) zg) zi (zo _)) (yM (zu (PR) (dv 0) zi (zo _))))) (zf (ya rfl rfl T.LH T.LG zi)) zk)
 (zf (zj (Vm rfl T.n_int (dv 0))))))),?_⟩
 have hxl:=yt x
 have hx60:(fg x).length≤60→x.length≤61:=fun h=>by
  rw[←hxl]
  rcases V9 (x:=x) rfl with ⟨e,_⟩|e
  ·rw[e];omega
  ·rw[e,Bm];omega
 refine⟨_,rfl,_,rfl,by omega,_,rfl,_,rfl,?_⟩
 rw[ng]
 refine ifB (fun h=>?_) (fun h=>?_)
 ·have h:=of_decide_eq_true h
  have h1:1≤(tl x).length:=by
   cases e:tl x with
   | nil=>rw[e]at h;cases h
   | cons c r=>rw[Bm];omega
  refine⟨_,rfl,_,rfl,_,rfl,by omega,?_⟩
  obtain⟨f,hf⟩:∃f,Txt.slice x (some 1) none=f:=⟨_,rfl⟩
  have t1:tl f=fg x:=by rw[←hf,sO (by decide) (by omega)];unfold fg;rw[if_pos h];rfl
  have a1:asc f:=hf ▸ pB hx
  have l1:f.length≤5000:=by have:=qK x (some 1) none;rw[hf]at this;omega
  rw[hf]
  have hfl:=yt f
  refine⟨fun ρ=>ρ=[.some (.str x),.some (.str f)]∧fg x≠[]∧(fg x).length≤60∧∀c∈fg x,zQ c,?_,?_⟩
  ·refine⟨_,rfl,_,_,rfl,rfl,_,rfl,?_⟩
   rw[pI,t1]
   refine ifB (fun h=>ifT rfl (rz _ (hR (xa fun z=>((yz rfl).mp z.1).1 (of_decide_eq_true h))))) (fun h=>?_)
   refine⟨_,rfl,_,rfl,by omega,_,_,rfl,rfl,_,rfl,ifB (fun h2=>ifT rfl (rz _ (hR (xa fun z=>?_)))) (fun h2=>?_)⟩
   ·have h2:(60:Int)<(f.length:Int):=of_decide_eq_true h2
    have:=z.2
    rw[←t1]at this
    omega
   have h2:¬(60:Int)<(f.length:Int):=of_decide_eq_false h2
   refine⟨_,rfl,f,rfl,a1,_,rfl,ifB (fun h3=>(rz _ (hR (xa fun z=>?_)))) (fun h3=>⟨rfl,of_decide_eq_false h,by rw[←t1];omega,by rw[←t1];exact allFg_iff.mp (qR h3)⟩)⟩
   have z2:=((yz rfl).mp z.1).2.1
   rw[←t1]at z2
   rw[allFg_iff.mpr z2]at h3
   cases h3
  rintro ρ ⟨rfl,f1,f2,f3⟩
  obtain⟨c,r,ec⟩:∃c r,fg x=c::r:=by
   cases e:fg x with
   | nil=>exact absurd e f1
   | cons c r=>exact⟨c,r,rfl⟩
  refine⟨fun ρ=>ρ=[.some (.str x),.some (.str f)]∧(c=48→tl x=[48]),?_,?_⟩
  ·refine⟨_,rfl,_,_,c,rfl,rfl,by decide,by decide,by rw[←yt,t1,ec,Bm];omega,mr (t1.trans ec),_,_,rfl,rfl,_,rfl,?_⟩
   rw[s_]
   refine ifB (fun h=>?_) (fun h=>ifF rfl ⟨rfl,fun z=>absurd z (of_decide_eq_false h)⟩)
   refine⟨_,rfl,_,_,rfl,rfl,_,rfl,?_⟩
   rw[uT]
   refine ifB (fun h2=>rz _ (hR (xa fun z=>?_))) (fun h2=>⟨rfl,fun _=>of_decide_eq_true (qR h2)⟩)
   have z3:=((yz rfl).mp z.1).2.2 (by rw[ec,of_decide_eq_true h];rfl)
   rw[decide_eq_true z3]at h2
   cases h2
  rintro ρ ⟨rfl,hc⟩
  have hn:Numl (tl x):=(yz rfl).mpr ⟨f1,f3,fun z=>hc (by rw[ec]at z;exact Option.some.inj z)⟩
  exact⟨_,rfl,x,rfl,hn,by show(tl x).length≤640;rw[hxl];have:=hx60 f2;omega,q _ (ss hn f2)⟩
 ·refine⟨_,rfl,?_⟩
  have t1:tl x=fg x:=by unfold fg;rw[if_neg (of_decide_eq_false h)]
  have a1:=hx
  have l1:=hl
  have hfl:=yt x
  refine⟨fun ρ=>ρ=[.some (.str x),.some (.str x)]∧fg x≠[]∧(fg x).length≤60∧∀c∈fg x,zQ c,?_,?_⟩
  ·refine⟨_,rfl,_,_,rfl,rfl,_,rfl,?_⟩
   rw[pI,t1]
   refine ifB (fun h=>ifT rfl (rz _ (hR (xa fun z=>((yz rfl).mp z.1).1 (of_decide_eq_true h))))) (fun h=>?_)
   refine⟨_,rfl,_,rfl,by omega,_,_,rfl,rfl,_,rfl,ifB (fun h2=>ifT rfl (rz _ (hR (xa fun z=>?_)))) (fun h2=>?_)⟩
   ·have h2:(60:Int)<(x.length:Int):=of_decide_eq_true h2
    have:=z.2
    rw[←t1]at this
    omega
   have h2:¬(60:Int)<(x.length:Int):=of_decide_eq_false h2
   refine⟨_,rfl,x,rfl,a1,_,rfl,ifB (fun h3=>(rz _ (hR (xa fun z=>?_)))) (fun h3=>⟨rfl,of_decide_eq_false h,by rw[←t1];omega,by rw[←t1];exact allFg_iff.mp (qR h3)⟩)⟩
   have z2:=((yz rfl).mp z.1).2.1
   rw[←t1]at z2
   rw[allFg_iff.mpr z2]at h3
   cases h3
  rintro ρ ⟨rfl,f1,f2,f3⟩
  obtain⟨c,r,ec⟩:∃c r,fg x=c::r:=by
   cases e:fg x with
   | nil=>exact absurd e f1
   | cons c r=>exact⟨c,r,rfl⟩
  refine⟨fun ρ=>ρ=[.some (.str x),.some (.str x)]∧(c=48→tl x=[48]),?_,?_⟩
  ·refine⟨_,rfl,_,_,c,rfl,rfl,by decide,by decide,by rw[←yt,t1,ec,Bm];omega,mr (t1.trans ec),_,_,rfl,rfl,_,rfl,?_⟩
   rw[s_]
   refine ifB (fun h=>?_) (fun h=>ifF rfl ⟨rfl,fun z=>absurd z (of_decide_eq_false h)⟩)
   refine⟨_,rfl,_,_,rfl,rfl,_,rfl,?_⟩
   rw[uT]
   refine ifB (fun h2=>rz _ (hR (xa fun z=>?_))) (fun h2=>⟨rfl,fun _=>of_decide_eq_true (qR h2)⟩)
   have z3:=((yz rfl).mp z.1).2.2 (by rw[ec,of_decide_eq_true h];rfl)
   rw[decide_eq_true z3]at h2
   cases h2
  rintro ρ ⟨rfl,hc⟩
  have hn:Numl (tl x):=(yz rfl).mpr ⟨f1,f3,fun z=>hc (by rw[ec]at z;exact Option.some.inj z)⟩
  exact⟨_,rfl,x,rfl,hn,by show(tl x).length≤640;rw[hxl];have:=hx60 f2;omega,q _ (ss hn f2)⟩
abbrev vO:Stmt:=top 15
def nq:zh ["value"] ["value"] (defScope vO):=by walk_at "sc"
def nP(T:Txt K mg A)(F:Fun K "is_whole" "is_whole" vO f fd):FnOk P w K mg base CX0 1 f fd ["value"] (zw K (xk)):=by
 refine okD F nq (by walk_at "ln") fun _ _ _ _ _ _ hr ds Q h=>?_
 obtain⟨d,b,rfl,hw,q⟩:=h
 refine⟨_,(zf (zj (u7 (lY (T:=.int) T.kt T.isinstance T.n_int PyProof.Rows.boot_int (dv 0)) (oK (cH (lY (T:=.bool) T.kt T.isinstance T.n_bool PyProof.Rows.boot_bool (dv 0))))))),?_⟩
 cases d<;>cases hw
 all_goals
  walk_at "rd"
  exact q
abbrev uF:Stmt:=top 21
def mT:zh ["number","least","most"] ["number","least","most"] (defScope uF):=by walk_at "sc"
def lz(T:Txt K mg A)(Ab:DOk P w K mg base 1 "is_whole" (xk))(F:Fun K "bounded" "bounded" uF f fd):FnOk P w K mg base (CX1 P w) 2 f fd ["number","least","most"] (z9 K (v7 A)):=by
 refine rn F mT (by walk_at "ln") fun _ _ _ _ _ _ hr ds Q R h rz=>?_
 obtain⟨n,lo,hi,rfl,z1,z2,q⟩:=h
 refine⟨_,(zd (zA (DW.dt (rP (wB (zW (zl Ab (rom hr) rfl (zb (dv 0) ze)))) (rP (zu (rp) (dv 0) (dv 1) (zo _)) (rO (zu (rq) (dv 0) (dv 2) (zo _)))))) (zf (ya rfl rfl T.Kh T.Kn (QI (dv 1) (dv 2)))) zk)
 (zf (zj (dv 0)))),?_⟩
 refine⟨_,rfl,_,_,rfl,rfl,_,rfl,ifF rfl ?_⟩
 rcases q with ⟨h1,h2,q⟩|⟨hn,q⟩
 ·refine⟨_,rfl,_,rfl,_,_,rfl,rfl,_,rfl,ifF (decide_eq_false (by omega)) ?_⟩
  refine⟨_,rfl,_,rfl,_,_,rfl,rfl,_,rfl,ifF (decide_eq_false (by omega)) ?_⟩
  exact⟨_,rfl,q⟩
 ·refine⟨_,rfl,_,rfl,_,_,rfl,rfl,_,rfl,ifB (fun h=>?_) (fun h=>?_)⟩
  ·exact ifT rfl ⟨_,rfl,lo,rfl,z1,_,rfl,hi,rfl,z2,fun x=>rz _ q⟩
  ·have h:=of_decide_eq_false h
   refine⟨_,rfl,_,rfl,_,_,rfl,rfl,_,rfl,ifT (decide_eq_true (by omega)) ?_⟩
   exact⟨_,rfl,lo,rfl,z1,_,rfl,hi,rfl,z2,fun x=>rz _ q⟩
abbrev xb:Stmt:=inClass (top 23) 0
def qf:zh ["self","base"] ["self","base"] (defScope xb):=by walk_at "sc"
def qv(T:Txt K mg A)(Ac:DOkX P w K mg base 2 "bounded" (v7 A))(F:Fun K "__init__" "Plain.__init__" xb f fd):FnOk P w K mg base (CX1 P w) 3 f fd ["self","base"] (xH A.Plain "base" (Kd.ok .plain) A.NoWay):=by
 refine x8 F qf T.Lu T.L0 (fun cdv A outer s H E hr=>?_)
 obtain⟨te,p,l⟩:=((zE Ac (rom hr) rfl (zb (dv 1) (zb zg (zb zg ze)))):DE (yg (CX1 P w) P w K mg base ["self","base"] "Plain.__init__" (defScope xb) f cdv A outer s H E) _ _)
 refine⟨te,_,wu (uK (pv 0) p rfl),l,fun i hR=>?_⟩
 refine⟨_,rfl,i,2,60,rfl,by decide,by decide,?_⟩
 by_cases h:Kd.ok .plain i
 ·exact .inl ⟨h.1,h.2,rfl,h⟩
 ·exact .inr ⟨h,hR h⟩
abbrev xf:Stmt:=inClass (top 24) 0
def qj:zh ["self","base"] ["self","base"] (defScope xf):=by walk_at "sc"
def qz(T:Txt K mg A)(Ac:DOkX P w K mg base 2 "bounded" (v7 A))(F:Fun K "__init__" "Below.__init__" xf f fd):FnOk P w K mg base (CX1 P w) 3 f fd ["self","base"] (xH A.Below "base" (Kd.ok .below) A.NoWay):=by
 refine x8 F qj T.Lv T.L1 (fun cdv A outer s H E hr=>?_)
 obtain⟨te,p,l⟩:=((zE Ac (rom hr) rfl (zb (dv 1) (zb zg (zb zg ze)))):DE (yg (CX1 P w) P w K mg base ["self","base"] "Below.__init__" (defScope xf) f cdv A outer s H E) _ _)
 refine⟨te,_,wu (uK (pv 0) p rfl),l,fun i hR=>?_⟩
 refine⟨_,rfl,i,2,60,rfl,by decide,by decide,?_⟩
 by_cases h:Kd.ok .below i
 ·exact .inl ⟨h.1,h.2,rfl,h⟩
 ·exact .inr ⟨h,hR h⟩
abbrev yA:Stmt:=inClass (top 25) 0
def uw:zh ["self","half"] ["self","half"] (defScope yA):=by walk_at "sc"
def uP(T:Txt K mg A)(Ac:DOkX P w K mg base 2 "bounded" (v7 A))(F:Fun K "__init__" "Balanced.__init__" yA f fd):FnOk P w K mg base (CX1 P w) 3 f fd ["self","half"] (xH A.Balanced "half" (Kd.ok .balanced) A.NoWay):=by
 refine x8 F uw T.Ls T.LV (fun cdv A outer s H E hr=>?_)
 obtain⟨te,p,l⟩:=((zE Ac (rom hr) rfl (zb (dv 1) (zb zg (zb zg ze)))):DE (yg (CX1 P w) P w K mg base ["self","half"] "Balanced.__init__" (defScope yA) f cdv A outer s H E) _ _)
 refine⟨te,_,wu (uK (pv 0) p rfl),l,fun i hR=>?_⟩
 refine⟨_,rfl,i,1,30,rfl,by decide,by decide,?_⟩
 by_cases h:Kd.ok .balanced i
 ·exact .inl ⟨h.1,h.2,rfl,h⟩
 ·exact .inr ⟨h,hR h⟩
abbrev yE:Stmt:=inClass (top 26) 0
def tM:zh ["self","first"] ["self","first"] (defScope yE):=by walk_at "sc"
def tX(T:Txt K mg A)(Ac:DOkX P w K mg base 2 "bounded" (v7 A))(F:Fun K "__init__" "Growing.__init__" yE f fd):FnOk P w K mg base (CX1 P w) 3 f fd ["self","first"] (xH A.Growing "first" (Kd.ok .growing) A.NoWay):=by
 refine x8 F tM T.Lw T.L3 (fun cdv A outer s H E hr=>?_)
 obtain⟨te,p,l⟩:=((zE Ac (rom hr) rfl (zb (dv 1) (zb zg (zb zg ze)))):DE (yg (CX1 P w) P w K mg base ["self","first"] "Growing.__init__" (defScope yE) f cdv A outer s H E) _ _)
 refine⟨te,_,wu (uK (pv 0) p rfl),l,fun i hR=>?_⟩
 refine⟨_,rfl,i,2,60,rfl,by decide,by decide,?_⟩
 by_cases h:Kd.ok .growing i
 ·exact .inl ⟨h.1,h.2,rfl,h⟩
 ·exact .inr ⟨h,hR h⟩
abbrev yF:Stmt:=inClass (top 27) 0
def tO:zh ["self","most"] ["self","most"] (defScope yF):=by walk_at "sc"
def tZ(T:Txt K mg A)(Ac:DOkX P w K mg base 2 "bounded" (v7 A))(F:Fun K "__init__" "Falling.__init__" yF f fd):FnOk P w K mg base (CX1 P w) 3 f fd ["self","most"] (xH A.Falling "most" (Kd.ok .falling) A.NoWay):=by
 refine x8 F tO T.Lr T.Ly (fun cdv A outer s H E hr=>?_)
 obtain⟨te,p,l⟩:=((zE Ac (rom hr) rfl (zb (dv 1) (zb zg (zb zg ze)))):DE (yg (CX1 P w) P w K mg base ["self","most"] "Falling.__init__" (defScope yF) f cdv A outer s H E) _ _)
 refine⟨te,_,wu (uK (pv 0) p rfl),l,fun i hR=>?_⟩
 refine⟨_,rfl,i,1,9,rfl,by decide,by decide,?_⟩
 by_cases h:Kd.ok .falling i
 ·exact .inl ⟨h.1,h.2,rfl,h⟩
 ·exact .inr ⟨h,hR h⟩
abbrev xc:Stmt:=inClass (top 28) 0
def qh:zh ["self","most"] ["self","most"] (defScope xc):=by walk_at "sc"
def qx(T:Txt K mg A)(Ac:DOkX P w K mg base 2 "bounded" (v7 A))(F:Fun K "__init__" "Pairs.__init__" xc f fd):FnOk P w K mg base (CX1 P w) 3 f fd ["self","most"] (xH A.Pairs "most" (Kd.ok .pairs) A.NoWay):=by
 refine x8 F qh T.Lx T.LW (fun cdv A outer s H E hr=>?_)
 obtain⟨te,p,l⟩:=((zE Ac (rom hr) rfl (zb (dv 1) (zb zg (zb zg ze)))):DE (yg (CX1 P w) P w K mg base ["self","most"] "Pairs.__init__" (defScope xc) f cdv A outer s H E) _ _)
 refine⟨te,_,wu (uK (pv 0) p rfl),l,fun i hR=>?_⟩
 refine⟨_,rfl,i,1,9,rfl,by decide,by decide,?_⟩
 by_cases h:Kd.ok .pairs i
 ·exact .inl ⟨h.1,h.2,rfl,h⟩
 ·exact .inr ⟨h,hR h⟩
abbrev vL:Stmt:=top 85
def nk:zh ["name","number"] ["name","number"] (defScope vL):=by walk_at "sc"
def nL(T:Txt K mg A)(Kv:tq P w K mg base 3 "Plain" A.Plain "base" (Kd.ok .plain) A.NoWay)(Kw:tq P w K mg base 3 "Below" A.Below "base" (Kd.ok .below) A.NoWay)(Kx:tq P w K mg base 3 "Balanced" A.Balanced "half" (Kd.ok .balanced) A.NoWay)(Ky:tq P w K mg base 3 "Growing" A.Growing "first" (Kd.ok .growing) A.NoWay)(Kz:tq P w K mg base 3 "Falling" A.Falling "most" (Kd.ok .falling) A.NoWay)(KA:tq P w K mg base 3 "Pairs" A.Pairs "most" (Kd.ok .pairs) A.NoWay)(F:Fun K "way_made" "way_made" vL f fd):FnOk P w K mg base (CX1 P w) 5 f fd ["name","number"] (z9 K (mB A)):=by
 refine rn F nk (by walk_at "ln") fun _ _ _ _ _ _ hr ds Q R h rz=>?_
 obtain⟨x,i,rfl,q1,q2,q3⟩:=h
 refine⟨_,(zd (zA (zu (yJ) (dv 0) zi (zo _)) (zf (zj (x_ Kv (rom hr) rfl (zb (dv 1) ze)))) zk)
 (zd (zA (zu (yJ) (dv 0) zi (zo _)) (zf (zj (x_ Kw (rom hr) rfl (zb (dv 1) ze)))) zk)
 (zd (zA (zu (yJ) (dv 0) zi (zo _)) (zf (zj (x_ Kx (rom hr) rfl (zb (dv 1) ze)))) zk)
 (zd (zA (zu (yJ) (dv 0) zi (zo _)) (zf (zj (x_ Ky (rom hr) rfl (zb (dv 1) ze)))) zk)
 (zd (zA (zu (yJ) (dv 0) zi (zo _)) (zf (zj (x_ Kz (rom hr) rfl (zb (dv 1) ze)))) zk)
 (zd (zA (zu (yJ) (dv 0) zi (zo _)) (zf (zj (x_ KA (rom hr) rfl (zb (dv 1) ze)))) zk)
 (zf (ya rfl rfl T.LH T.LG zi)))))))),?_⟩
 refine⟨_,rfl,_,_,rfl,rfl,_,rfl,ifB (fun h=>?_) (fun h0=>?_)⟩
 ·have e:x=Kd.nam .plain:=eq_of_beq h
  by_cases hk:Kd.ok .plain i
  ·exact⟨_,rfl,i,rfl,.inl ⟨hk,q1 .plain e hk⟩⟩
  ·exact⟨_,rfl,i,rfl,.inr ⟨hk,rz _ (q2 .plain e hk)⟩⟩
 refine⟨_,rfl,_,_,rfl,rfl,_,rfl,ifB (fun h=>?_) (fun h1=>?_)⟩
 ·have e:x=Kd.nam .below:=eq_of_beq h
  by_cases hk:Kd.ok .below i
  ·exact⟨_,rfl,i,rfl,.inl ⟨hk,q1 .below e hk⟩⟩
  ·exact⟨_,rfl,i,rfl,.inr ⟨hk,rz _ (q2 .below e hk)⟩⟩
 refine⟨_,rfl,_,_,rfl,rfl,_,rfl,ifB (fun h=>?_) (fun h2=>?_)⟩
 ·have e:x=Kd.nam .balanced:=eq_of_beq h
  by_cases hk:Kd.ok .balanced i
  ·exact⟨_,rfl,i,rfl,.inl ⟨hk,q1 .balanced e hk⟩⟩
  ·exact⟨_,rfl,i,rfl,.inr ⟨hk,rz _ (q2 .balanced e hk)⟩⟩
 refine⟨_,rfl,_,_,rfl,rfl,_,rfl,ifB (fun h=>?_) (fun h3=>?_)⟩
 ·have e:x=Kd.nam .growing:=eq_of_beq h
  by_cases hk:Kd.ok .growing i
  ·exact⟨_,rfl,i,rfl,.inl ⟨hk,q1 .growing e hk⟩⟩
  ·exact⟨_,rfl,i,rfl,.inr ⟨hk,rz _ (q2 .growing e hk)⟩⟩
 refine⟨_,rfl,_,_,rfl,rfl,_,rfl,ifB (fun h=>?_) (fun h4=>?_)⟩
 ·have e:x=Kd.nam .falling:=eq_of_beq h
  by_cases hk:Kd.ok .falling i
  ·exact⟨_,rfl,i,rfl,.inl ⟨hk,q1 .falling e hk⟩⟩
  ·exact⟨_,rfl,i,rfl,.inr ⟨hk,rz _ (q2 .falling e hk)⟩⟩
 refine⟨_,rfl,_,_,rfl,rfl,_,rfl,ifB (fun h=>?_) (fun h5=>?_)⟩
 ·have e:x=Kd.nam .pairs:=eq_of_beq h
  by_cases hk:Kd.ok .pairs i
  ·exact⟨_,rfl,i,rfl,.inl ⟨hk,q1 .pairs e hk⟩⟩
  ·exact⟨_,rfl,i,rfl,.inr ⟨hk,rz _ (q2 .pairs e hk)⟩⟩
 refine rz _ (q3 fun k e=>?_)
 cases k
 ·exact Bool.noConfusion (Eq.trans (Eq.symm h0) (beq_iff_eq.mpr e:(x==Kd.nam .plain)=true))
 ·exact Bool.noConfusion (Eq.trans (Eq.symm h1) (beq_iff_eq.mpr e:(x==Kd.nam .below)=true))
 ·exact Bool.noConfusion (Eq.trans (Eq.symm h2) (beq_iff_eq.mpr e:(x==Kd.nam .balanced)=true))
 ·exact Bool.noConfusion (Eq.trans (Eq.symm h3) (beq_iff_eq.mpr e:(x==Kd.nam .growing)=true))
 ·exact Bool.noConfusion (Eq.trans (Eq.symm h4) (beq_iff_eq.mpr e:(x==Kd.nam .falling)=true))
 ·exact Bool.noConfusion (Eq.trans (Eq.symm h5) (beq_iff_eq.mpr e:(x==Kd.nam .pairs)=true))
abbrev vK:Stmt:=top 86
def sc_way_read:zh ["text","name","number"] ["text"] (defScope vK):=by walk_at "sc"
def nK(T:Txt K mg A)(Af:DOkX P w K mg base 2 "whole_read" (uq A))(Ax:DOkX P w K mg base 5 "way_made" (mB A))(F:Fun K "way_read" "way_read" vK f fd):FnOk P w K mg base (CX1 P w) 6 f fd ["text"] (z9 K (rZ A)):=by
 refine PQ F sc_way_read (by walk_at "ln") fun _ _ _ _ _ _ hr ds Q R h rzh=>?_
 have rz:=fun C h=>(rzh C h).1
 obtain⟨x,rfl,hx,hl,q1,q2⟩:=h
 refine⟨_,(zd (zq (i:=1) sc_way_read.nd rfl (Or.inl rfl) (lX (dv 0) (ml rfl T.gs_FIGURES)))
 (zd (zq (i:=2) sc_way_read.nd rfl (Or.inl rfl) (zE Af (rom hr) rfl (zb (pe (dv 0) (oH (kN rfl T.len (dv 1))) oI) ze)))
 (zf (cu rfl rfl rfl Ax (rom hr) rfl (zb (dv 1) (zb (dv 2) ze)) rfl T.Kh rfl T.LH T.LG)))),?_⟩
 have lx:=yt x
 refine⟨_,rfl,_,rfl,by omega,_,rfl,?_⟩
 dsimp only
 have gs:∀k m,x=Kd.nam k++shw ((m:Nat):Int)→Txt.rstripChars x (Str.ofString "0123456789")=Kd.nam k∧vI (tl x)=dg m:=fun k m e=>by
  subst e
  exact⟨ye lN,qY⟩
 have tn:=o_ x
 generalize Txt.rstripChars x (Str.ofString "0123456789")=nm at *
 have t0:=iV (tl x)
 have ln:nm.length=(tl x).length-(vI (tl x)).length:=by rw[←yt,tn,List.length_take];omega
 have te:=bw (tl x)
 have td:tl (Txt.slice x (some (nm.length:Int)) none)=vI (tl x):=by
  rw[sO (by omega) (by omega),BU,ln]
  have:=congrArg (List.drop ((tl x).length-(vI (tl x)).length)) te
  rw[List.drop_left' (by rw[List.length_take];omega)]at this
  exact this.symm
 have ls:=qK x (some (nm.length:Int)) none
 have as:=pB (l:=some (nm.length:Int)) (u:=none) hx
 refine⟨_,rfl,_,rfl,_,rfl,by omega,_,rfl,_,rfl,by omega,?_⟩
 generalize Txt.slice x (some (nm.length:Int)) none=d at *
 have hd:∀c∈tl d,zQ c:=by rw[td];exact iW _
 have ex:x=nm++d:=ye (by rw[yB,tn,td,te])
 refine⟨_,rfl,as,by omega,fun i hi=>?_,fun hnone=>?_⟩
 ·refine⟨_,rfl,_,rfl,nm,i,rfl,fun k e hk=>?_,fun k e hk=>?_,fun hk=>?_⟩
  ·obtain⟨m,rfl,m1,m2⟩:=xy hk
   refine q1 k _ hk ?_
   have:=OB hd hi (by omega) (by omega)
   rw[BU,←vH]at this
   rw[ex,e,ye this]
  ·refine .inl ⟨(T.kx 0 0 (by decide) (by decide)).2,rzh _ (q2 fun k' n' hn' e'=>?_)⟩
   obtain⟨m,rfl,m1,m2⟩:=xy hn'
   obtain⟨g1,g2⟩:=gs k' m e'
   obtain rfl:k=k':=kA (by rw[←e,g1])
   rw[VM (td.trans g2) m1 m2]at hi
   cases hi
   exact hk hn'
  ·refine .inr ⟨(T.kx 3 0 (by decide) (by decide)).2,rzh _ (q2 fun k' n' hn' e'=>?_)⟩
   obtain⟨m,rfl,m1,m2⟩:=xy hn'
   exact hk k' (gs k' m e').1
 ·refine rz _ (q2 fun k' n' hn' e'=>?_)
  obtain⟨m,rfl,m1,m2⟩:=xy hn'
  rw[VM (td.trans (gs k' m e').2) m1 m2]at hnone
  cases hnone
abbrev xO:Stmt:=top 77
def sc_whole_shown:zh ["number","limit","parts","rest"] ["number"] (defScope xO):=by walk_at "sc"
def rb(T:Txt K mg A)(F:Fun K "whole_shown" "whole_shown" xO f fd):FnOk P w K mg base CX0 1 f fd ["number"] (zw K (mD)):=by
 refine okD F sc_whole_shown (by walk_at "ln") fun _ _ _ _ _ _ hr ds Q h=>?_
 obtain⟨n,rfl,hn,q⟩:=h
 refine⟨_,(zd (zA (zu (rp) (dv 0) zg (zo _)) (zf yb) zk)
 (zd (zq (i:=1) sc_whole_shown.nd rfl (Or.inl rfl) (zp ky zg zg))
 (zd (z8 (i:=2) sc_whole_shown.nd rfl (Or.inl rfl) (w9 ze))
 (zd (zq (i:=3) sc_whole_shown.nd rfl (Or.inl rfl) (dv 0))
 (zd (x9 PassesOwn.never (zu (gA) (dv 3) (dv 1) (zo _)) (zd yb (zf yb)))
 (zd (w8 2 (Vj rfl T.n_str (dv 3)))
 (zd (cw 2)
 (xK 2 (zf (zj (kO zi (dv 2)))))))))))),?_⟩
 refine⟨_,rfl,_,_,rfl,rfl,_,rfl,ifF (decide_eq_false (by omega)) ?_⟩
 walk_at "rd"
 refine⟨fun _ ρ=>ρ=[.some (.int n),.some (.int (10^Int.toNat 60)),.own [],.some (.int n)],⟨0,rfl⟩,?_⟩
 rintro _ ρ' rfl
 have h10:¬(10:Int)^Int.toNat 60≤n:=fun z=>absurd (Int.le_trans (show(10:Int)≤10^Int.toNat 60 by decide) z) (by omega)
 refine⟨_,rfl,_,rfl,_,_,rfl,rfl,_,rfl,ifF (decide_eq_false h10) ?_⟩
 refine⟨_,rfl,_,rfl,_,rfl,B0 (qU (n:=n) (by omega)) (by decide),by decide,?_⟩
 have ej:Txt.join ("":Str) [shw n]=shw n:=by
  show Builtin.Str.glued _ _=_
  rw[StrLaws.glued_eq_join]
  rfl
 refine⟨_,rfl,_,rfl,_,rfl,_,rfl,[shw n],rfl,?_,?_⟩
 ·have e0:(("":Str)).length=0:=by decide +kernel
  have:=StrLaws.joinFits (sep:=("":Str)) (texts:=[shw n]) (B:=61) (fun y hy=>by
   rw[By.mp hy,←yt]
   unfold shw
   rw[mK]
   exact Br (wD (k:=1) (by decide) hn) (by decide)) (by rw[e0];exact Bf rfl)
  unfold JoinOk
  rw[this]
  rfl
 ·rw[ej]
  exact q
abbrev xJ:Stmt:=top 79
def pO:zh ["row"] ["row"] (defScope xJ):=by walk_at "sc"
def oi(T:Txt K mg A)(Ay:DOk P w K mg base 1 "whole_shown" (mD))(F:Fun K "row_shown" "row_shown" xJ f fd):FnOk P w K mg base CX0 2 f fd ["row"] (zw K (mE)):=by
 refine okD F pO (by walk_at "ln") fun _ _ _ _ _ _ hr ds Q h=>?_
 obtain⟨r,rfl,hl,hb,q⟩:=h
 refine⟨_,(zd (zA (wB (cm (dv 0))) (zf (zj zi)) zk)
 (zf (zj (kO zi (DF.de (ul (L:=0) (osc:=defScope xJ) (N0:=["row"]) (bs:=["figure"]) (caps:=[]) (js:=[]) rfl (by decide +kernel) rfl rfl rfl (QB rfl T.n_reversed (zb (dv 0) ze)) (fun _ _ _ _ _=>(z4 (i:=0) (show List.Nodup [("figure":Str)] by decide +kernel) rfl (Or.inl (lookup_relabel_local rfl)) (.inl rfl))) sy (fun _ _ _ _ _=>oM) (fun _ _ _ _ _=>(zl Ay (rom hr) rfl (zb (dv 0) ze))))))))),?_⟩
 have ll:=yL r
 refine⟨_,rfl,_,rfl,ifB (fun h=>?_) (fun h=>?_)⟩
 ·have e:r=[]:=by cases r with|nil=>rfl|cons a b=>cases h
  have e2:rsh r="0":=by unfold rsh;rw[if_pos e]
  rw[e2]at q
  exact q
 ·have e:r≠[]:=fun z=>by subst z;cases h
  have e2:rsh r=Txt.join "." (r.reverse.map shw):=by unfold rsh;rw[if_neg e]
  rw[e2]at q
  refine⟨_,rfl,_,rfl,_,_,rfl,rfl,by omega,fun i es=>es=(r.reverse.take i).map fun z=>Dt.str (shw z),rfl,?_,?_⟩
  ·rintro i e' es hi he rfl
   have he:(r.map Dt.int).reverse[i]? = some e':=he
   rw[←List.map_reverse,Bn]at he
   obtain⟨z,hz,rfl⟩:=Bw.mp he
   obtain⟨m,rfl,hm⟩:∃m:Nat,z=m∧m<10:=⟨z.toNat,by have:=hb z (BE.mp (Bp hz));omega,by have:=hb z (BE.mp (Bp hz));omega⟩
   refine⟨_,rfl,each_t (ifT rfl ?_)⟩
   refine⟨_,rfl,m,rfl,hm,?_⟩
   show _++[_]=((r.reverse.take (i+1)).map fun z=>Dt.str (shw z))
   rw[List.take_succ,hz,BI]
   rfl
  ·rintro es rfl
   refine⟨r.reverse.map shw,?_,dQ (fun y hy=>?_) (by rw[A',Bz];omega),q⟩
   ·show some _=_
    rw[List.take_of_length_le (by rw[Bz,ll];exact Bg _),List.map_map]
    rfl
   ·obtain⟨z,hz,rfl⟩:=BB.mp hy
    obtain⟨m,rfl,hm⟩:∃m:Nat,z=m∧m<10:=⟨z.toNat,by have:=hb z (BE.mp hz);omega,by have:=hb z (BE.mp hz);omega⟩
    rw[←yt,vH]
    have:=wD (n:=m) (k:=1) (by decide) hm
    omega
abbrev uz:Stmt:=top 31
def sc_trimmed:zh ["row","things"] ["row"] (defScope uz):=by walk_at "sc"
def lp(T:Txt K mg A)(F:Fun K "trimmed" "trimmed" uz f fd):FnOk P w K mg base CX0 1 f fd ["row"] (xl K (kb)):=by
 refine okF F sc_trimmed (by walk_at "ln") fun _ _ _ _ _ _ hr ds Q h=>?_
 obtain⟨r,rfl,q⟩:=h
 refine⟨_,(zd (z8 (i:=1) sc_trimmed.nd rfl (Or.inl rfl) (oJ rfl T.n_list (dv 0)))
 (zd (x9 PassesOwn.never (DW.dt (y6 (W8 1) (yM (zu (vR hr) (cK 1 (y7 zg) (fun _ _=>rfl)) zg (zo _))))) (zf (Qy 1)))
 (zf (wC 1)))),?_⟩
 refine⟨_,rfl,_,rfl,_,rfl,?_⟩
 exact o8 rfl ⟨_,rfl,q⟩
abbrev uG:Stmt:=top 17
def mU:zh ["number"] ["number"] (defScope uG):=by walk_at "sc"
def lA(T:Txt K mg A)(Ab:DOk P w K mg base 1 "is_whole" (xk))(F:Fun K "as_pair" "as_pair" uG f fd):FnOk P w K mg base CX0 2 f fd ["number"] (zw K (vw)):=by
 refine okD F mU (by walk_at "ln") fun _ _ _ _ _ _ hr ds Q h=>?_
 obtain⟨d,m,rfl,hm,q⟩:=h
 refine⟨_,(zd (zA (zW (zl Ab (rom hr) rfl (zb (dv 0) ze))) (zf (zj (zO (zb (dv 0) (zb zg ze))))) zk)
 (zf (zj (dv 0)))),?_⟩
 obtain rfl:=yS hm
 cases m with
 | i n=>
  walk_at "rd"
  exact q
 | p a b=>
  walk_at "rd"
  exact q
abbrev pW:Stmt:=top 18
def sc_added:zh ["one","other","left","right"] ["one","other"] (defScope pW):=by walk_at "sc"
def gx(T:Txt K mg A)(Ab:DOk P w K mg base 1 "is_whole" (xk))(Ai:DOk P w K mg base 2 "as_pair" (vw))(F:Fun K "added" "added" pW f fd):FnOk P w K mg base CX0 3 f fd ["one","other"] (zw K (ut)):=by
 refine okD F sc_added (by walk_at "ln") fun _ _ _ _ _ _ hr ds Q h=>?_
 obtain⟨d,e,m,n,rfl,hm,hn,q⟩:=h
 refine⟨_,(zd (zA (DW.dt (y6 (zW (zl Ab (rom hr) rfl (zb (dv 0) ze))) (yM (zW (zl Ab (rom hr) rfl (zb (dv 1) ze)))))) (zf (zj (zp yY (dv 0) (dv 1)))) zk)
 (zd (zq (i:=2) sc_added.nd rfl (Or.inl rfl) (zl Ai (rom hr) rfl (zb (dv 0) ze)))
 (zd (zq (i:=3) sc_added.nd rfl (Or.inl rfl) (zl Ai (rom hr) rfl (zb (dv 1) ze)))
 (zf (zj (zO (zb (zp yY (zC (dv 2) zg (fun _ _=>rfl)) (zC (dv 3) zg (fun _ _=>rfl))) (zb (zp yY (zC (dv 2) zg (fun _ _=>rfl)) (zC (dv 3) zg (fun _ _=>rfl))) ze)))))))),?_⟩
 obtain rfl:=yS hm
 obtain rfl:=yS hn
 cases m<;>cases n
 all_goals
  walk_at "rd"
  exact q
abbrev vM:Stmt:=top 30
def nl:zh ["row","place"] ["row","place"] (defScope vM):=by walk_at "sc"
def nM(T:Txt K mg A)(F:Fun K "thing_at" "thing_at" vM f fd):FnOk P w K mg base CX0 1 f fd ["row","place"] (zw K (wG)):=by
 refine okD F nl (by walk_at "ln") fun _ _ _ _ _ _ hr ds Q h=>?_
 obtain⟨xs,p,rfl,hp,q⟩:=h
 refine⟨_,(zd (zA (zu (rp) (dv 1) (yq rfl T.len (dv 0)) (zo _)) (zf (zj (zC (dv 0) (dv 1) (fun _ _=>rfl)))) zk)
 (zf (zj zg))),?_⟩
 refine⟨_,rfl,_,rfl,_,rfl,_,_,rfl,rfl,_,rfl,Ol (fun h=>?_) (fun h=>?_)⟩
 ·have h:p<(xs.length:Int):=of_decide_eq_true h
  have hl:p.toNat<xs.length:=by omega
  have e:((p.toNat:Nat):Int)=p:=Int.toNat_of_nonneg hp
  have:=oS (Bh hl)
  rw[e]at this
  rw[Bq,Bh hl]at q
  exact⟨_,rfl,_,rfl,_,_,_,rfl,rfl,this,q⟩
 ·have h:¬p<(xs.length:Int):=fun z=>h (decide_eq_true z)
  rw[Bq,Bt (by omega)]at q
  exact q
abbrev wn:Stmt:=inClass (top 22) 0
def qe:zh ["self"] ["self"] (defScope wn):=by walk_at "sc"
def yy(T:Txt K mg A)(F:Fun K "nought" "Way.nought" wn f fd):FnOk P w K mg base CX0 1 f fd ["self"] (zw K (Uj)):=by
 refine okD F qe (by walk_at "ln") fun _ _ _ _ _ _ hr ds Q h=>?_
 obtain⟨o,rfl,q⟩:=h
 refine⟨_,(zf (zj zg)),?_⟩
 exact q
abbrev xt:Stmt:=inClass (top 28) 1
def tL:zh ["self"] ["self"] (defScope xt):=by walk_at "sc"
def tW(T:Txt K mg A)(F:Fun K "nought" "Pairs.nought" xt f fd):FnOk P w K mg base CX0 1 f fd ["self"] (zw K (NQ)):=by
 refine okD F tL (by walk_at "ln") fun _ _ _ _ _ _ hr ds Q h=>?_
 obtain⟨o,rfl,q⟩:=h
 refine⟨_,(zf (zj (zO (zb zg (zb zg ze))))),?_⟩
 exact⟨rfl,q⟩
abbrev uI:Stmt:=inClass (top 22) 5
def mW:zh ["self","number"] ["self","number"] (defScope uI):=by walk_at "sc"
def vQ(T:Txt K mg A)(Ab:DOk P w K mg base 1 "is_whole" (xk))(F:Fun K "has" "Way.has" uI f fd):FnOk P w K mg base CX0 2 f fd ["self","number"] (zw K (vZ .plain)):=by
 refine okD F mW (by walk_at "ln") fun _ _ _ _ _ _ hr ds Q h=>?_
 obtain⟨o,d,m,rfl,hm,q⟩:=h
 refine⟨_,(zf (zj (u7 (zl Ab (rom hr) rfl (zb (dv 1) ze)) (oK (u6 (gA) (dv 1) zg (zo _)))))),?_⟩
 obtain rfl:=yS hm
 cases m
 all_goals
  walk_at "rd"
  exact q
abbrev wP:Stmt:=inClass (top 24) 3
def pR:zh ["self","number"] ["self","number"] (defScope wP):=by walk_at "sc"
def oq(T:Txt K mg A)(Ab:DOk P w K mg base 1 "is_whole" (xk))(F:Fun K "has" "Below.has" wP f fd):FnOk P w K mg base CX0 2 f fd ["self","number"] (zw K (vZ .below)):=by
 refine okD F pR (by walk_at "ln") fun _ _ _ _ _ _ hr ds Q h=>?_
 obtain⟨o,d,m,rfl,hm,q⟩:=h
 refine⟨_,(zf (zj (zl Ab (rom hr) rfl (zb (dv 1) ze)))),?_⟩
 obtain rfl:=yS hm
 cases m
 all_goals
  walk_at "rd"
  exact q
abbrev xx:Stmt:=inClass (top 25) 4
def tR:zh ["self","number"] ["self","number"] (defScope xx):=by walk_at "sc"
def sf(T:Txt K mg A)(Ab:DOk P w K mg base 1 "is_whole" (xk))(F:Fun K "has" "Balanced.has" xx f fd):FnOk P w K mg base CX0 2 f fd ["self","number"] (zw K (vZ .balanced)):=by
 refine okD F tR (by walk_at "ln") fun _ _ _ _ _ _ hr ds Q h=>?_
 obtain⟨o,d,m,rfl,hm,q⟩:=h
 refine⟨_,(zf (zj (zl Ab (rom hr) rfl (zb (dv 1) ze)))),?_⟩
 obtain rfl:=yS hm
 cases m
 all_goals
  walk_at "rd"
  exact q
abbrev uD:Stmt:=top 16
def mS:zh ["value"] ["value"] (defScope uD):=by walk_at "sc"
def lw(T:Txt K mg A)(Ab:DOk P w K mg base 1 "is_whole" (xk))(F:Fun K "is_pair" "is_pair" uD f fd):FnOk P w K mg base CX0 2 f fd ["value"] (zw K (u_)):=by
 refine okD F mS (by walk_at "ln") fun _ _ _ _ _ _ hr ds Q h=>?_
 obtain⟨d,m,rfl,hm,q⟩:=h
 refine⟨_,(zf (zj (u7 (lY (T:=.tuple) T.kt T.isinstance T.n_tuple PyProof.Rows.boot_tuple (dv 0)) (u7 (u6 (vR hr) (yq rfl T.len (dv 0)) zg (zo _)) (u7 (zl Ab (rom hr) rfl (zb (zC (dv 0) zg (fun _ _=>rfl)) ze)) (oK (zl Ab (rom hr) rfl (zb (zC (dv 0) zg (fun _ _=>rfl)) ze)))))))),?_⟩
 obtain rfl:=yS hm
 cases m
 all_goals
  walk_at "rd"
  exact q
abbrev wO:Stmt:=inClass (top 28) 5
def pQ:zh ["self","number"] ["self","number"] (defScope wO):=by walk_at "sc"
def om(T:Txt K mg A)(Am:DOk P w K mg base 2 "is_pair" (u_))(F:Fun K "has" "Pairs.has" wO f fd):FnOk P w K mg base CX0 3 f fd ["self","number"] (zw K (vZ .pairs)):=by
 refine okD F pQ (by walk_at "ln") fun _ _ _ _ _ _ hr ds Q h=>?_
 obtain⟨o,d,m,rfl,hm,q⟩:=h
 refine⟨_,(zf (zj (zl Am (rom hr) rfl (zb (dv 1) ze)))),?_⟩
 obtain rfl:=yS hm
 refine⟨_,rfl,_,m,rfl,hm,?_⟩
 cases m<;>exact q
abbrev uH:Stmt:=inClass (top 22) 1
def mV:zh ["self","place"] ["self","place"] (defScope uH):=by walk_at "sc"
def xA(T:Txt K mg A)(F:Fun K "low" "Way.low" uH f fd):FnOk P w K mg base CX0 1 f fd ["self","place"] (zw K (Q6)):=by
 refine okD F mV (by walk_at "ln") fun _ _ _ _ _ _ hr ds Q h=>?_
 obtain⟨o,p,rfl,q⟩:=h
 refine⟨_,(zf (zj zg)),?_⟩
 exact q
abbrev xw:Stmt:=inClass (top 25) 1
def tQ:zh ["self","place"] ["self","place"] (defScope xw):=by walk_at "sc"
def se(T:Txt K mg A)(F:Fun K "low" "Balanced.low" xw f fd):FnOk P w K mg base CX0 1 f fd ["self","place"] (zw K (wa A .balanced (Kd.low .balanced))):=by
 refine okD F tQ (by walk_at "ln") fun _ _ _ _ _ _ hr ds Q h=>?_
 obtain⟨n,p,rfl,hn,q⟩:=h
 refine⟨_,(zf (zj (y7 (zZ (dv 0))))),?_⟩
 exact⟨_,rfl,_,_,_,rfl,rfl,T.Ls,T.LV,_,rfl,q⟩
abbrev wo:Stmt:=inClass (top 23) 1
def qg:zh ["self","place"] ["self","place"] (defScope wo):=by walk_at "sc"
def qw(T:Txt K mg A)(F:Fun K "high" "Plain.high" wo f fd):FnOk P w K mg base CX0 1 f fd ["self","place"] (zw K (wa A .plain (Kd.high .plain))):=by
 refine okD F qg (by walk_at "ln") fun _ _ _ _ _ _ hr ds Q h=>?_
 obtain⟨n,p,rfl,hn,q⟩:=h
 refine⟨_,(zf (zj (zp yC (zZ (dv 0)) zg))),?_⟩
 exact⟨_,rfl,_,_,_,rfl,rfl,T.Lu,T.L0,_,_,rfl,rfl,q⟩
abbrev wr:Stmt:=inClass (top 24) 1
def qk:zh ["self","place"] ["self","place"] (defScope wr):=by walk_at "sc"
def qA(T:Txt K mg A)(F:Fun K "high" "Below.high" wr f fd):FnOk P w K mg base CX0 1 f fd ["self","place"] (zw K (wa A .below (Kd.high .below))):=by
 refine okD F qk (by walk_at "ln") fun _ _ _ _ _ _ hr ds Q h=>?_
 obtain⟨n,p,rfl,hn,q⟩:=h
 refine⟨_,(zf (zj (zp yC (zZ (dv 0)) zg))),?_⟩
 exact⟨_,rfl,_,_,_,rfl,rfl,T.Lv,T.L1,_,_,rfl,rfl,q⟩
abbrev y4:Stmt:=inClass (top 25) 2
def ux:zh ["self","place"] ["self","place"] (defScope y4):=by walk_at "sc"
def uQ(T:Txt K mg A)(F:Fun K "high" "Balanced.high" y4 f fd):FnOk P w K mg base CX0 1 f fd ["self","place"] (zw K (wa A .balanced (Kd.high .balanced))):=by
 refine okD F ux (by walk_at "ln") fun _ _ _ _ _ _ hr ds Q h=>?_
 obtain⟨n,p,rfl,hn,q⟩:=h
 refine⟨_,(zf (zj (zZ (dv 0)))),?_⟩
 exact⟨_,rfl,_,_,_,rfl,rfl,T.Ls,T.LV,q⟩
abbrev xu:Stmt:=inClass (top 26) 1
def tN:zh ["self","place"] ["self","place"] (defScope xu):=by walk_at "sc"
def tY(T:Txt K mg A)(F:Fun K "high" "Growing.high" xu f fd):FnOk P w K mg base CX0 1 f fd ["self","place"] (zw K (wa A .growing (Kd.high .growing))):=by
 refine okD F tN (by walk_at "ln") fun _ _ _ _ _ _ hr ds Q h=>?_
 obtain⟨n,p,rfl,hn,q⟩:=h
 refine⟨_,(zf (zj (zp yC (zp yY (zZ (dv 0)) (dv 1)) zg))),?_⟩
 exact⟨_,rfl,_,_,_,rfl,rfl,T.Lw,T.L3,_,rfl,_,_,rfl,rfl,_,_,rfl,rfl,q⟩
abbrev xv:Stmt:=inClass (top 27) 1
def tP:zh ["self","place"] ["self","place"] (defScope xv):=by walk_at "sc"
def t_(T:Txt K mg A)(F:Fun K "high" "Falling.high" xv f fd):FnOk P w K mg base CX0 1 f fd ["self","place"] (zw K (wa A .falling (Kd.high .falling))):=by
 refine okD F tP (by walk_at "ln") fun _ _ _ _ _ _ hr ds Q h=>?_
 obtain⟨n,p,rfl,hn,q⟩:=h
 refine⟨_,(zf (zj (zZ (dv 0)))),?_⟩
 exact⟨_,rfl,_,_,_,rfl,rfl,T.Lr,T.Ly,q⟩
abbrev wq:Stmt:=inClass (top 28) 2
def qi:zh ["self","place"] ["self","place"] (defScope wq):=by walk_at "sc"
def qy(T:Txt K mg A)(F:Fun K "high" "Pairs.high" wq f fd):FnOk P w K mg base CX0 1 f fd ["self","place"] (zw K (wa A .pairs (Kd.high .pairs))):=by
 refine okD F qi (by walk_at "ln") fun _ _ _ _ _ _ hr ds Q h=>?_
 obtain⟨n,p,rfl,hn,q⟩:=h
 refine⟨_,(zf (zj (zp tu (zZ (dv 0)) (zZ (dv 0))))),?_⟩
 obtain⟨h1,h2⟩:=nR hn
 exact⟨_,rfl,_,_,_,rfl,rfl,T.Lx,T.LW,_,rfl,_,_,_,rfl,rfl,T.Lx,T.LW,_,_,rfl,rfl,small (by omega) (by omega) _,q⟩
abbrev xU:Stmt:=inClass (top 23) 2
def sR:zh ["self","place"] ["self","place"] (defScope xU):=by walk_at "sc"
def rj(T:Txt K mg A)(F:Fun K "ratio" "Plain.ratio" xU f fd):FnOk P w K mg base CX0 1 f fd ["self","place"] (zw K (vb A .plain (Kd.ratN .plain))):=by
 refine okD F sR (by walk_at "ln") fun _ _ _ _ _ _ hr ds Q h=>?_
 obtain⟨n,p,rfl,hn,q⟩:=h
 refine⟨_,(zf (zj (zZ (dv 0)))),?_⟩
 exact⟨_,rfl,_,_,_,rfl,rfl,T.Lu,T.L0,q⟩
abbrev xW:Stmt:=inClass (top 24) 2
def sT:zh ["self","place"] ["self","place"] (defScope xW):=by walk_at "sc"
def rm(T:Txt K mg A)(F:Fun K "ratio" "Below.ratio" xW f fd):FnOk P w K mg base CX0 1 f fd ["self","place"] (zw K (vb A .below (Kd.ratN .below))):=by
 refine okD F sT (by walk_at "ln") fun _ _ _ _ _ _ hr ds Q h=>?_
 obtain⟨n,p,rfl,hn,q⟩:=h
 refine⟨_,(zf (zj (y7 (zZ (dv 0))))),?_⟩
 exact⟨_,rfl,_,_,_,rfl,rfl,T.Lv,T.L1,_,rfl,q⟩
abbrev yR:Stmt:=inClass (top 25) 3
def v9:zh ["self","place"] ["self","place"] (defScope yR):=by walk_at "sc"
def ub(T:Txt K mg A)(F:Fun K "ratio" "Balanced.ratio" yR f fd):FnOk P w K mg base CX0 1 f fd ["self","place"] (zw K (vb A .balanced (Kd.ratN .balanced))):=by
 refine okD F v9 (by walk_at "ln") fun _ _ _ _ _ _ hr ds Q h=>?_
 obtain⟨n,p,rfl,hn,q⟩:=h
 refine⟨_,(zf (zj (zp yY (zp tu zg (zZ (dv 0))) zg))),?_⟩
 exact⟨_,rfl,_,_,_,rfl,rfl,T.Ls,T.LV,_,_,rfl,rfl,Qf (by decide),_,_,rfl,rfl,q⟩
abbrev y3:Stmt:=inClass (top 26) 2
def uv:zh ["self","place"] ["self","place"] (defScope y3):=by walk_at "sc"
def uO(T:Txt K mg A)(F:Fun K "ratio" "Growing.ratio" y3 f fd):FnOk P w K mg base CX0 1 f fd ["self","place"] (zw K (vb A .growing (Kd.ratN .growing))):=by
 refine okD F uv (by walk_at "ln") fun _ _ _ _ _ _ hr ds Q h=>?_
 obtain⟨n,p,rfl,hn,q⟩:=h
 refine⟨_,(zf (zj (zp yY (zZ (dv 0)) (dv 1)))),?_⟩
 exact⟨_,rfl,_,_,_,rfl,rfl,T.Lw,T.L3,_,rfl,_,_,rfl,rfl,q⟩
abbrev xV:Stmt:=inClass (top 28) 3
def sS:zh ["self","place"] ["self","place"] (defScope xV):=by walk_at "sc"
def rk(T:Txt K mg A)(F:Fun K "ratio" "Pairs.ratio" xV f fd):FnOk P w K mg base CX0 1 f fd ["self","place"] (zw K (vb A .pairs (Kd.ratN .pairs))):=by
 refine okD F sS (by walk_at "ln") fun _ _ _ _ _ _ hr ds Q h=>?_
 obtain⟨n,p,rfl,hn,q⟩:=h
 refine⟨_,(zf (zj (zO (zb (y7 (zZ (dv 0))) (zb zg ze))))),?_⟩
 exact⟨_,rfl,_,_,_,rfl,rfl,T.Lx,T.LW,_,rfl,rfl,q⟩
abbrev wN:Stmt:=inClass (top 22) 4
def sc_Way_split:zh ["self","total","place","low","figures","figure"] ["self","total","place"] (defScope wN):=by walk_at "sc"
def xg(T:Txt K mg A)(HLo:∀k:Kd,MOk P w K mg base 1 (A.at k) "low" (wa A k (k.low))∧MOk P w K mg base 1 (A.at k) "high" (wa A k (k.high)))(HR:∀k:Kd,k.five=true→MOk P w K mg base 1 (A.at k) "ratio" (vb A k (k.ratN)))(F:Fun K "split" "Way.split" wN f fd):FnOk P w K mg base CX0 2 f fd ["self","total","place"] (zw K (c7 A)):=by
 refine okD F sc_Way_split (by walk_at "ln") fun _ _ _ _ _ _ hr ds Q h=>?_
 obtain⟨k,n,t,j,rfl,h3,hn,hj,q⟩:=h
 refine⟨_,(zd (zq (i:=3) sc_Way_split.nd rfl (Or.inl rfl) (xj hr (dv 0) (zb (dv 2) ze)))
 (zd (zq (i:=4) sc_Way_split.nd rfl (Or.inl rfl) (zp yY (zp yC (xj hr (dv 0) (zb (dv 2) ze)) (dv 3)) zg))
 (zd (zq (i:=5) sc_Way_split.nd rfl (Or.inl rfl) (zp yY (dv 3) (zp xB (zp yC (dv 1) (dv 3)) (dv 4))))
 (zf (zj (zO (zb (dv 5) (zb (zp uR (zp yC (dv 1) (dv 5)) (xj hr (dv 0) (zb (dv 2) ze))) ze)))))))),?_⟩
 obtain⟨M1,M2⟩:=HLo k
 have M3:=HR k (by cases k<;>first|rfl|cases h3)
 have hr:k.ratN n j=.i (k.rat n j):=by cases k<;>first|rfl|cases h3
 have hb:(k.rat n j).natAbs<1073741824∧k.rat n j≠0∧k.high n j-k.low n j+1≠0:=by
  obtain⟨b1,b2⟩:=nR hn
  have c1:=hn.1
  cases k<;>cases h3<;>simp only[Kd.rat,Kd.high,Kd.low,Kd.lo]at *<;>omega
 refine⟨_,rfl,_,_,_,_,rfl,V_ k,M1.mono (by decide),_,rfl,n,j,rfl,hn,?_⟩
 refine⟨_,rfl,_,_,_,_,rfl,ck k,M2.mono (by decide),_,rfl,n,j,rfl,hn,_,rfl,_,_,rfl,rfl,_,_,rfl,rfl,?_⟩
 refine⟨_,rfl,_,rfl,_,rfl,_,_,rfl,rfl,_,rfl,_,_,rfl,rfl,hb.2.2,_,_,rfl,rfl,?_⟩
 refine⟨_,rfl,_,rfl,_,rfl,_,_,rfl,rfl,_,rfl,_,_,_,_,rfl,W7 k,M3.mono (by decide),_,rfl,n,j,rfl,hn,?_⟩
 rw[hr]
 exact⟨_,_,rfl,rfl,⟨hb.2.1,hb.1⟩,rfl,q⟩
abbrev yi:Stmt:=top 41
def sc_figures_and_carries:zh ["way","totals","figures","carry","found","place","parts"] ["way","totals"] (defScope yi):=by walk_at "sc"
def wy(T:Txt K mg A)(Ad:DOk P w K mg base 3 "added" (ut))(Aj:DOk P w K mg base 1 "thing_at" (wG))(HNo:∀k:Kd,MOk P w K mg base 1 (A.at k) "nought" (VG k))(HHas:∀k:Kd,MOk P w K mg base 3 (A.at k) "has" (vZ k))(HSp:∀k:Kd,k.three=true→MOk P w K mg base 3 (A.at k) "split" (mC A k))(F:Fun K "figures_and_carries" "figures_and_carries" yi f fd):FnOk P w K mg base (CX1 P w) 4 f fd ["way","totals"] (rY K (.t true true) (Uo A)):=by
 refine PN F sc_figures_and_carries (by walk_at "ln") fun _ _ _ _ _ _ hr ds Q R h rz=>?_
 obtain⟨k,n,ts,J,rfl,h3,hn,F,hJ,hw⟩:=h
 refine⟨_,(zd (zA (zW (yV T.isinstance T.LO (dv 0))) (zf yb) zk)
 (zd (z8 (i:=2) sc_figures_and_carries.nd rfl (Or.inl rfl) (w9 ze))
 (zd (zq (i:=3) sc_figures_and_carries.nd rfl (Or.inl rfl) (um hr (dv 0)))
 (zd (z8 (i:=4) sc_figures_and_carries.nd rfl (Or.inl rfl) (w9 (zb (dv 3) ze)))
 (zd (x9 bY (DW.dt (rP (zu (rp) (uo 2 rfl T.len) (yq rfl T.len (dv 1)) (zo _)) (rO (zu (ak hr) (dv 3) (um hr (dv 0)) (zo _))))) (zd (zq (i:=5) sc_figures_and_carries.nd rfl (Or.inl rfl) (uo 2 rfl T.len))
 (yp (zA (DW.dt (y6 (zu (gA) (dv 5) (yq rfl T.len (dv 1)) (zo _)) (yM (wB (zW (xj hr (dv 0) (zb (dv 3) ze))))))) (zf (ya rfl rfl T.Kj T.LY zi)) zk)
 (zd (zq (i:=6) sc_figures_and_carries.nd rfl (Or.inl rfl) (xj hr (dv 0) (zb (zl Ad (rom hr) rfl (zb (dv 3) (zb (zl Aj (rom hr) rfl (zb (dv 1) (zb (dv 5) ze))) ze))) (zb (dv 5) ze))))
 (zd (w8 2 (zC (dv 6) zg (fun _ _=>rfl)))
 (zd (zq (i:=3) sc_figures_and_carries.nd rfl (Or.inl rfl) (zC (dv 6) zg (fun _ _=>rfl)))
 (zf (w8 4 (dv 3)))))))))
 (zf (cz 2 4))))))),?_⟩
 have ll:=yL ts
 have hz:k.zero.dt=.int 0:=by cases k<;>first|rfl|cases h3
 have hF:k.isF=false:=by cases k<;>first|rfl|cases h3
 have h00:wX k (.i 0)=true:=by cases k<;>first|rfl|cases h3
 have hle:=F.le
 have HN:MOk P w K mg base 1 (A.at k) "nought" Uj:=(HNo k).imp fun ds Q ⟨o,e,q⟩=>⟨o,e,by rw[hz];exact q⟩
 refine⟨_,rfl,_,_,_,_,rfl,tD T k,kiF T k,_,rfl,ifF hF ?_⟩
 refine⟨rfl,_,rfl,_,rfl,_,_,_,_,rfl,uj k,HN.mono (by decide),_,rfl,_,rfl,rfl,_,rfl,?_⟩
 refine⟨fun m ρ=>∃j v5 v6,ρ=[.some (zR A k n),.some (zM ts),.own ((fgJ k n ts j).map Dt.int),.some (.int (cJ k n ts j)),.own ((crJ k n ts (j+1)).map Dt.int),v5,v6]∧m=J-j∧j≤J,⟨J,0,_,_,rfl,rfl,BY _⟩,?_⟩
 rintro m ρ' ⟨j,v5,v6,rfl,rfl,hj⟩
 have fl:((fgJ k n ts j).map Dt.int).length=j:=by rw[A',kG]
 have cl:((crJ k n ts (j+1)).map Dt.int).length=j+1:=by rw[A',Vs]
 refine⟨_,rfl,_,rfl,_,rfl,_,_,rfl,rfl,_,rfl,?_⟩
 by_cases hend:j=J∧cJ k n ts j=0
 ·obtain⟨rfl,h0⟩:=hend
  refine ifF (decide_eq_false (by rw[fl,ll];omega)) ?_
  refine⟨_,rfl,_,rfl,_,_,_,_,rfl,uj k,HN.mono (by decide),_,rfl,rfl,rfl,_,rfl,ifF (nT (eqI h0)) ?_⟩
  rcases hw with ⟨_,q⟩|⟨hneg,_⟩
  ·exact⟨_,rfl,_,rfl,q⟩
  ·rw[h0,h00]at hneg
   cases hneg
 ·refine ifB (fun _=>ifT rfl ?_) (fun hlt=>⟨_,rfl,_,rfl,_,_,_,_,rfl,uj k,HN.mono (by decide),_,rfl,rfl,rfl,_,rfl,ifT (nF (neI fun z=>?_)) ?_⟩)
  rotate_left
  ·have hge:ts.length≤j:=by have:=of_decide_eq_false hlt;omega
   by_cases e:j=J
   ·exact hend ⟨e,z⟩
   ·exact(F.nz j hge (by omega)).1 z
  all_goals
   refine⟨_,rfl,?_⟩
   rw[fl]
   refine⟨fun ρ=>ρ=[.some (zR A k n),.some (zM ts),.own ((fgJ k n ts j).map Dt.int),.some (.int (cJ k n ts j)),.own ((crJ k n ts (j+1)).map Dt.int),.some (.int j),v6]∧j<J,?_,?_⟩
   ·refine⟨_,rfl,_,rfl,_,rfl,_,_,rfl,rfl,_,rfl,?_⟩
    refine ifB (fun hge=>?_) (fun hge=>ifF rfl ⟨rfl,by have:=of_decide_eq_false hge;omega⟩)
    have hge:ts.length≤j:=by have:=of_decide_eq_true hge;omega
    refine⟨_,rfl,_,_,_,_,rfl,Ua k,(HHas k).mono (by decide),_,rfl,_,_,.i (cJ k n ts j),rfl,rfl,_,rfl,?_⟩
    by_cases e:j=J
    ·subst e
     rcases hw with ⟨h0,_⟩|⟨hneg,hR⟩
     ·exact absurd ⟨rfl,h0⟩ hend
     ·rw[hneg]
      exact ifT rfl (rz _ hR)
    ·rw[(F.nz j hge (by omega)).2]
     exact ifF rfl ⟨rfl,by omega⟩
   ·rintro ρ' ⟨rfl,hjJ⟩
    refine⟨_,rfl,_,_,_,_,rfl,W6 k,(HSp k h3).mono (by decide),_,rfl,_,rfl,_,rfl,_,_,rfl,by omega,?_⟩
    rw[BU,rM]
    refine⟨_,_,.i (cJ k n ts j),.i (ts.getD j 0),rfl,rfl,rfl,_,rfl,n,_,j,rfl,hn,by omega,?_⟩
    refine⟨_,rfl,_,rfl,_,_,_,rfl,rfl,rfl,by omega,?_⟩
    refine⟨_,rfl,_,_,_,rfl,rfl,rfl,?_⟩
    refine⟨_,rfl,_,rfl,by omega,J-(j+1),by omega,j+1,.some (.int j),.some (.tup [.int (fJ k n j (cJ k n ts j+ts.getD j 0)),.int (cJ k n ts (j+1))]),?_,rfl,hjJ⟩
    rw[cg,cS k n ts (j+1),←rW,←rW]
    rfl
abbrev uB:Stmt:=top 42
def mR:zh ["way","totals"] ["way","totals"] (defScope uB):=by walk_at "sc"
def lr(T:Txt K mg A)(An:FOk P w K mg base 1 "trimmed" (kb))(Az:TOkX P w K mg base 4 "figures_and_carries" (.t true true) (Uo A))(F:Fun K "settled" "settled" uB f fd):FnOk P w K mg base (CX1 P w) 5 f fd ["way","totals"] (yd K (kd A)):=by
 refine nS F mR (by walk_at "ln") fun _ _ _ _ _ _ hr ds Q R h rz=>?_
 obtain⟨k,n,ts,J,rfl,h3,hn,F,hJ,hw⟩:=h
 refine⟨_,(zf (yU (sF An (rom hr) rfl (zb (zC (zE Az.dok (rom hr) rfl (zb (dv 0) (zb (dv 1) ze))) zg (fun _ _=>rfl)) ze)))),?_⟩
 refine⟨_,rfl,_,rfl,k,n,ts,J,rfl,h3,hn,F,hJ,?_⟩
 rcases hw with ⟨h0,q⟩|⟨hneg,hR⟩
 ·exact .inl ⟨h0,_,_,_,rfl,rfl,rfl,_,rfl,q⟩
 ·exact .inr ⟨hneg,rz _ hR⟩
abbrev uy:Stmt:=top 51
def mP:zh ["way","number"] ["way","number"] (defScope uy):=by walk_at "sc"
def lh(T:Txt K mg A)(Ao:FOkX P w K mg base 5 "settled" (kd A))(HHas:∀k:Kd,MOk P w K mg base 3 (A.at k) "has" (vZ k))(F:Fun K "written" "written" uy f fd):FnOk P w K mg base (CX1 P w) 6 f fd ["way","number"] (yd K (oX A)):=by
 refine nS F mP (by walk_at "ln") fun _ _ _ _ _ _ hr ds Q R h rz=>?_
 obtain⟨k,n,m,rfl,hn,hw⟩:=h
 refine⟨_,(zd (zA (wB (zW (xj hr (dv 0) (zb (dv 1) ze)))) (zf (ya rfl rfl T.KK T.Kt zi)) zk)
 (zd (zA (zW (yV T.isinstance T.LO (dv 0))) (zf yb) zk)
 (zf (yU (zY Ao (rom hr) rfl (zb (dv 0) (zb (zG (zb (dv 1) ze)) ze))))))),?_⟩
 refine⟨_,rfl,_,_,_,_,rfl,Ua k,(HHas k).mono (by decide),_,rfl,_,_,_,rfl,xh m,_,rfl,?_⟩
 rcases hw with ⟨a,J,rfl,rfl,F,h0,hJ,q⟩|⟨hm,hR⟩
 ·refine ifF rfl ?_
  refine⟨_,rfl,_,_,_,_,rfl,tD T .below,kiF T .below,_,rfl,ifF rfl ?_⟩
  exact⟨_,rfl,_,rfl,rfl,.below,n,[a],J,rfl,rfl,hn,F,hJ,.inl ⟨h0,q⟩⟩
 ·rw[hm]
  exact ifT rfl (rz _ hR)
abbrev xP:Stmt:=top 83
def sc_number_read:zh ["text","parts"] ["text"] (defScope xP):=by walk_at "sc"
def rc(T:Txt K mg A)(Af:DOkX P w K mg base 2 "whole_read" (uq A))(F:Fun K "number_read" "number_read" xP f fd):FnOk P w K mg base (CX1 P w) 3 f fd ["text"] (z9 K (kY A)):=by
 refine rn F sc_number_read (by walk_at "ln") fun _ _ _ _ _ _ hr ds Q R h rz=>?_
 obtain⟨x,rfl,hx,hl,q,hR⟩:=h
 refine⟨_,(zd (zq (i:=1) sc_number_read.nd rfl (Or.inl rfl) (DF.de (rR (dv 0) zi)))
 (zd (zA (zu (vR hr) (yq rfl T.len (dv 1)) zg (zo _)) (zf (zj (zE Af (rom hr) rfl (zb (dv 0) ze)))) zk)
 (zd (zA (zu (rq) (yq rfl T.len (dv 1)) zg (zo _)) (zf (ya rfl rfl T.LH T.LG zi)) zk)
 (zf (zj (zO (zb (zE Af (rom hr) rfl (zb (zC (dv 1) zg (fun _ _=>rfl)) ze)) (zb (zE Af (rom hr) rfl (zb (zC (dv 1) zg (fun _ _=>rfl)) ze)) ze)))))))),?_⟩
 refine⟨_,rfl,x,rfl,by omega,_,rfl,rfl,?_⟩
 have hne:=sM x ","
 have hm:=fun p=>vg (x:=x) (y:=",") (p:=p)
 have ho:=fun p=>jp (x:=x) (y:=",") (p:=p)
 unfold nv at q hR
 generalize Txt.split x ","=ps at *
 match ps,hne,hm,ho,q,hR with
 | [],hne,_,_,_,_=>exact absurd rfl hne
 | [p],_,_,ho,q,hR=>
  obtain rfl:=ho p rfl
  refine⟨_,rfl,_,rfl,rfl,rfl,_,rfl,ifT rfl ⟨_,rfl,p,rfl,hx,hl,fun i e=>?_,fun e=>rz _ (hR ?_)⟩⟩
  ·exact q (.i i) (by show(wv p).map Nm.i=_;rw[e];rfl)
  ·show(wv p).map Nm.i=none
   rw[e];rfl
 | [p,p'],_,hm,_,q,hR=>
  obtain⟨m1,m2⟩:=hm p Bi
  obtain⟨n1,n2⟩:=hm p' (Bd _ Bi)
  refine⟨_,rfl,_,rfl,rfl,rfl,_,rfl,ifF rfl ⟨_,rfl,_,rfl,_,_,rfl,rfl,_,rfl,ifF rfl ?_⟩⟩
  refine⟨_,rfl,_,_,_,rfl,rfl,rfl,p,rfl,fun c hc=>hx c (m2 c hc),by omega,fun i e=>?_,fun e=>rz _ (hR ?_)⟩
  ·refine⟨_,rfl,_,_,_,rfl,rfl,rfl,p',rfl,fun c hc=>hx c (n2 c hc),by omega,fun i' e'=>⟨rfl,q (.p i i') ?_⟩,fun e'=>rz _ (hR ?_)⟩
   ·show(match wv p,wv p' with|some a,some b=>some (Nm.p a b)|_,_=>none)=_
    rw[e,e']
   ·show(match wv p,wv p' with|some a,some b=>some (Nm.p a b)|_,_=>none)=_
    rw[e,e']
  ·show(match wv p,wv p' with|some a,some b=>some (Nm.p a b)|_,_=>none)=_
   rw[e]
 | p::p'::p''::l,_,_,_,_,hR=>
  refine⟨_,rfl,_,rfl,rfl,rfl,_,rfl,ifF (neI (by rw[List.length_map];simp;omega)) ⟨_,rfl,_,rfl,_,_,rfl,rfl,_,rfl,ifT (decide_eq_true (by rw[List.length_map];simp;omega)) (rz _ (hR rfl))⟩⟩
abbrev wj:Stmt:=top 19
def sc_multiplied:zh ["one","other","left","right"] ["one","other"] (defScope wj):=by walk_at "sc"
def qs(T:Txt K mg A)(Ab:DOk P w K mg base 1 "is_whole" (xk))(Ai:DOk P w K mg base 2 "as_pair" (vw))(F:Fun K "multiplied" "multiplied" wj f fd):FnOk P w K mg base CX0 3 f fd ["one","other"] (zw K (o0)):=by
 refine okD F sc_multiplied (by walk_at "ln") fun _ _ _ _ _ _ hr ds Q h=>?_
 obtain⟨d,e,m,n,rfl,hm,hn,k1,q⟩:=h
 refine⟨_,(zd (zA (DW.dt (y6 (zW (zl Ab (rom hr) rfl (zb (dv 0) ze))) (yM (zW (zl Ab (rom hr) rfl (zb (dv 1) ze)))))) (zf (zj (zp tu (dv 0) (dv 1)))) zk)
 (zd (zq (i:=2) sc_multiplied.nd rfl (Or.inl rfl) (zl Ai (rom hr) rfl (zb (dv 0) ze)))
 (zd (zq (i:=3) sc_multiplied.nd rfl (Or.inl rfl) (zl Ai (rom hr) rfl (zb (dv 1) ze)))
 (zf (zj (zO (zb (zp yC (zp tu (zC (dv 2) zg (fun _ _=>rfl)) (zC (dv 3) zg (fun _ _=>rfl))) (zp tu (zC (dv 2) zg (fun _ _=>rfl)) (zC (dv 3) zg (fun _ _=>rfl)))) (zb (zp yY (zp tu (zC (dv 2) zg (fun _ _=>rfl)) (zC (dv 3) zg (fun _ _=>rfl))) (zp tu (zC (dv 2) zg (fun _ _=>rfl)) (zC (dv 3) zg (fun _ _=>rfl)))) ze)))))))),?_⟩
 obtain rfl:=yS hm
 obtain rfl:=yS hn
 obtain⟨h1,h2,h3,h4⟩:=k1
 cases m<;>cases n
 all_goals
  walk_at "rd"
  first|refine⟨h1,?_⟩|skip
  walk_at "rd"
  first|exact q|skip
  try refine⟨h2,?_⟩
  walk_at "rd"
  try refine⟨h3,?_⟩
  walk_at "rd"
  try refine⟨h4,?_⟩
  walk_at "rd"
  try exact q
abbrev xT:Stmt:=inClass (top 22) 2
def sc_Way_weights:zh ["self","many","weights","weight","place"] ["self","many"] (defScope xT):=by walk_at "sc"
def yl(T:Txt K mg A)(Ad:DOk P w K mg base 3 "added" (ut))(Ag:DOk P w K mg base 3 "multiplied" (o0))(HNo:∀k:Kd,MOk P w K mg base 1 (A.at k) "nought" (VG k))(HR:∀k:Kd,k.five=true→MOk P w K mg base 1 (A.at k) "ratio" (vb A k (k.ratN)))(F:Fun K "weights" "Way.weights" xT f fd):FnOk P w K mg base CX0 4 f fd ["self","many"] (xl K (Lc A)):=by
 refine okF F sc_Way_weights (by walk_at "ln") fun _ _ _ _ _ _ hr ds Q h=>?_
 obtain⟨k,n,m,rfl,hk,hn,hm0,hm1,q⟩:=h
 refine⟨_,(zd (z8 (i:=2) sc_Way_weights.nd rfl (Or.inl rfl) (w9 ze))
 (zd (zq (i:=3) sc_Way_weights.nd rfl (Or.inl rfl) (zl Ad (rom hr) rfl (zb (um hr (dv 0)) (zb zg ze))))
 (zd (Va (j:=4) rfl sc_Way_weights.nd rfl (Or.inl rfl) PassesOwn.never rfl T.range (dv 1) (zd (w8 2 (dv 3))
 (zf (zq (i:=3) sc_Way_weights.nd rfl (Or.inl rfl) (zl Ag (rom hr) rfl (zb (xj hr (dv 0) (zb (dv 4) ze)) (zb (dv 3) ze)))))))
 (zf (wC 2))))),?_⟩
 have e1:(("nought":Str)==k.fld)=false:=by cases k<;>decide +kernel
 have e2:(("ratio":Str)==k.fld)=false:=by cases k<;>decide +kernel
 have ew:∀j,wt k n j=wtR k n j:=fun j=>kh hk
 refine⟨rfl,_,rfl,_,rfl,_,_,_,_,rfl,e1,(HNo k).mono (by decide),⟨_,rfl,_,_,k.zero,.i 1,rfl,xh _,rfl,?_⟩⟩
 refine⟨_,rfl,_,fun i ρ=>∃v,ρ=[.some (zR A k n),.some (.int m),.own (wts k n i),.some (wtR k n i).dt,v],rfl,by omega,by omega,⟨_,rfl⟩,?_,?_⟩
 ·rintro i ρ' hi ⟨v,rfl⟩
  have hi1:i<1000:=by omega
  refine⟨_,rfl,_,rfl,by rw[vF];omega,?_⟩
  refine⟨_,rfl,_,_,_,_,rfl,e2,(HR k hk).mono (by decide),_,rfl,n,i,rfl,hn,_,rfl,_,_,k.ratN n i,wtR k n i,rfl,xh _,xh _,bG hn (by omega) (by omega) _,?_⟩
  exact⟨.some (.int i),by rw[iI,ew];rfl⟩
 ·rintro ρ' ⟨v,rfl⟩
  exact⟨_,rfl,q⟩
abbrev pS:Stmt:=top 49
def sc_worth:zh ["way","row","number","thing","weight"] ["way","row"] (defScope pS):=by walk_at "sc"
def gr(T:Txt K mg A)(Ad:DOk P w K mg base 3 "added" (ut))(Ag:DOk P w K mg base 3 "multiplied" (o0))(HNo:∀k:Kd,MOk P w K mg base 1 (A.at k) "nought" (VG k))(HW:∀k:Kd,k.five=true→FMOk P w K mg base 4 (A.at k) "weights" (Uh A k))(F:Fun K "worth" "worth" pS f fd):FnOk P w K mg base CX0 5 f fd ["way","row"] (zw K (oY A)):=by
 refine okD F sc_worth (by walk_at "ln") fun _ _ _ _ _ _ hr ds Q h=>?_
 obtain⟨k,n,ns,rfl,h5,hn,hl,hb,q⟩:=h
 refine⟨_,(zd (zq (i:=2) sc_worth.nd rfl (Or.inl rfl) (um hr (dv 0)))
 (zd (lT (i:=3) (j:=4) rfl sc_worth.nd rfl rfl (Or.inl rfl) (Or.inl rfl) PassesOwn.never rfl T.n_zip (zb (dv 1) (zb (DF.de (Vi hr (dv 0) (zb (yq rfl T.len (dv 1)) ze))) ze)) (zf (zq (i:=2) sc_worth.nd rfl (Or.inl rfl) (zl Ad (rom hr) rfl (zb (dv 2) (zb (zl Ag (rom hr) rfl (zb (dv 3) (zb (dv 4) ze))) ze))))))
 (zf (zj (dv 2))))),?_⟩
 have hlen:(ns.map Dt.int).length=ns.length:=A' _
 refine⟨_,rfl,_,_,_,_,rfl,uj k,(HNo k).mono (by decide),⟨_,rfl,?_⟩⟩
 refine⟨_,rfl,_,rfl,_,_,_,_,rfl,ij k,(HW k h5).mono (by decide),_,rfl,_,rfl,n,_,rfl,hn,by omega,by rw[hlen];omega,?_⟩
 refine⟨_,_,_,_,fun i ρ=>∃v u,ρ=[.some (zR A k n),.some (zM ns),.some (bq k n ns i).dt,v,u],rfl,rfl,rfl,⟨_,_,rfl⟩,?_,?_⟩
 ·rintro i x y ρ' hx hy ⟨v,u,rfl⟩
  obtain⟨rfl,hi⟩:=ko hx
  obtain rfl:=bp hy
  refine⟨_,rfl,_,rfl,_,rfl,_,_,.i (ns.getD i 0),wt k n i,rfl,rfl,xh _,dB (M8 (Vz hb i)) (Q_ hn (by omega)) (by omega),?_⟩
  refine⟨_,_,bq k n ns i,(Nm.i (ns.getD i 0)).mul (wt k n i),rfl,xh _,xh _,?_⟩
  exact⟨_,_,rfl⟩
 ·rintro ρ' ⟨v,u,rfl⟩
  have e:min (ns.map Dt.int).length (wts k n (((ns.map Dt.int).length:Nat):Int).toNat).length=ns.length:=by rw[vF,hlen];omega
  rw[e]
  exact⟨_,rfl,q⟩
abbrev zP:Stmt:=top 46
def sc_has_mosts_above_noughts_alone:zh ["way","row","place"] ["way","row"] (defScope zP):=by walk_at "sc"
def yI(T:Txt K mg A)(F:Fun K "has_mosts_above_noughts_alone" "has_mosts_above_noughts_alone" zP f fd):FnOk P w K mg base CX0 1 f fd ["way","row"] (zw K (kZ A)):=by
 refine okD F sc_has_mosts_above_noughts_alone (by walk_at "ln") fun _ _ _ _ _ _ hr ds Q h=>?_
 obtain⟨n,r,rfl,hn,hl,q⟩:=h
 refine⟨_,(zd (mf (j:=2) rfl sc_has_mosts_above_noughts_alone.nd rfl (Or.inl rfl) PassesOwn.never rfl T.range (zb zg (zb (yq rfl T.len (dv 1)) ze)) (zf (zA (DW.dt (y6 (zu (vR hr) (zC (dv 1) (dv 2) (fun _ _=>rfl)) (zZ (dv 0)) (zo _)) (yM (zu (ak hr) (zC (dv 1) (zp yC (dv 2) zg) (fun _ _=>rfl)) zg (zo _))))) (zf (zj vE)) zk)))
 (zf (zj vE))),?_⟩
 walk_at "rd"
 have ll:=yL r
 refine⟨_,_,fun i ρ=>∃v,ρ=[.some (zR A .falling n),.some (zM r),v]∧∀p:Nat,p<i→r.getD (p+1) 0=n→r.getD p 0=0,rfl,by decide,by decide,by omega,by omega,⟨_,rfl,fun p hp=>absurd hp (Nat.not_lt_zero _)⟩,?_,?_⟩
 ·rintro i ρ' hi ⟨v,rfl,hp⟩
  rw[ll]at hi
  have e1:(1+(i:Int)).toNat=i+1:=by omega
  have e2:(1+(i:Int)-1).toNat=i:=by omega
  refine⟨_,rfl,_,rfl,_,_,_,rfl,rfl,sG (by omega) (by omega),_,rfl,_,_,_,rfl,rfl,T.Lr,T.Ly,rfl,rfl,_,rfl,?_⟩
  rw[e1]
  refine ifB (fun h=>?_) (fun h=>ifF rfl ?_)
  ·refine⟨_,rfl,_,rfl,_,_,rfl,rfl,_,_,_,rfl,rfl,sG (by omega) (by omega),rfl,rfl,_,rfl,?_⟩
   rw[e2]
   refine ifB (fun h'=>?_) (fun h'=>?_)
   ·refine q false ⟨fun z=>(Ba z).elim,fun z=>?_⟩
    exact absurd (z i (by omega) (lC h)) (lB (ku h'))
   ·refine⟨.some (.int (1+i)),rfl,fun p hp'=>?_⟩
    rcases(by omega:p<i∨p=i) with z|z
    ·exact hp p z
    ·subst z
     exact fun _=>lC (qR h')
  ·refine⟨.some (.int (1+i)),rfl,fun p hp'=>?_⟩
   rcases(by omega:p<i∨p=i) with z|z
   ·exact hp p z
   ·subst z
    exact fun z=>absurd z (lB h)
 ·rintro ρ' ⟨v,rfl,hp⟩
  rw[ll]at hp
  exact q true ⟨fun _ p hp'=>hp p (by omega),fun _=>rfl⟩
abbrev zU:Stmt:=top 44
def sc_has_figures_alone_writings:zh ["way","row","place","thing"] ["way","row"] (defScope zU):=by walk_at "sc"
def yX(T:Txt K mg A)(HLo:∀k:Kd,MOk P w K mg base 1 (A.at k) "low" (wa A k (k.low))∧MOk P w K mg base 1 (A.at k) "high" (wa A k (k.high)))(F:Fun K "has_figures_alone" "has_figures_alone" zU f fd):FnOk P w K mg base CX0 2 f fd ["way","row"] (zw K (kg A)):=by
 refine okD F sc_has_figures_alone_writings (by walk_at "ln") fun _ _ _ _ _ _ hr ds Q h=>?_
 obtain⟨k,n,r,rfl,hn,hl,q⟩:=h
 refine⟨_,(zd (uZ (i:=2) (j:=3) rfl sc_has_figures_alone_writings.nd rfl rfl (Or.inl rfl) (Or.inl rfl) PassesOwn.never rfl T.n_enumerate (zb (dv 1) ze) (zf (zA (DW.dt (rP (zu (rp) (dv 3) (xj hr (dv 0) (zb (dv 2) ze)) (zo _)) (rO (zu (rq) (dv 3) (xj hr (dv 0) (zb (dv 2) ze)) (zo _))))) (zf (zj vE)) zk)))
 (zf (zj vE))),?_⟩
 obtain⟨M1,M2⟩:=HLo k
 walk_at "rd"
 refine⟨_,_,fun i ρ=>∃v u,ρ=[.some (zR A k n),.some (zM r),v,u]∧∀p:Nat,p<i→k.low n p≤r.getD p 0∧r.getD p 0≤k.high n p,rfl,rfl,⟨_,_,rfl,fun p hp=>absurd hp (Nat.not_lt_zero _)⟩,?_,?_⟩
 ·rintro i x ρ' hx ⟨v,u,rfl,hp⟩
  obtain⟨rfl,hi⟩:=d9 hx
  refine⟨_,rfl,_,rfl,_,_,_,_,rfl,V_ k,M1.mono (by decide),_,rfl,n,i,rfl,hn,_,_,rfl,rfl,_,rfl,?_⟩
  refine ifB (fun h=>ifT rfl ?_) (fun h=>?_)
  ·refine q false ⟨fun z=>(Ba z).elim,fun z=>?_⟩
   have:=z i hi
   have h:=of_decide_eq_true h
   omega
  ·refine⟨_,rfl,_,rfl,_,_,_,_,rfl,ck k,M2.mono (by decide),_,rfl,n,i,rfl,hn,_,_,rfl,rfl,_,rfl,?_⟩
   have h:=of_decide_eq_false h
   refine ifB (fun h'=>?_) (fun h'=>?_)
   ·refine q false ⟨fun z=>(Ba z).elim,fun z=>?_⟩
    have:=z i hi
    have h':=of_decide_eq_true h'
    omega
   ·have h':=of_decide_eq_false h'
    refine⟨.some (.int i),.some (.int (r.getD i 0)),rfl,fun p hp'=>?_⟩
    rcases(by omega:p<i∨p=i) with z|z
    ·exact hp p z
    ·subst z
     omega
 ·rintro ρ' ⟨v,u,rfl,hp⟩
  rw[yL]at hp
  exact q true ⟨fun _=>hp,fun _=>rfl⟩
abbrev wm:Stmt:=top 47
def qd:zh ["way","row"] ["way","row"] (defScope wm):=by walk_at "sc"
def qu(T:Txt K mg A)(AA:DOk P w K mg base 1 "has_mosts_above_noughts_alone" (kZ A))(AB:DOk P w K mg base 2 "has_figures_alone_writings" (kg A))(F:Fun K "is_writing" "is_writing" wm f fd):FnOk P w K mg base CX0 3 f fd ["way","row"] (zw K (bd A)):=by
 refine okD F qd (by walk_at "ln") fun _ _ _ _ _ _ hr ds Q h=>?_
 obtain⟨k,n,r,rfl,hn,hl,q⟩:=h
 refine⟨_,(yp (zA (DW.dt (y6 (cm (dv 1)) (yM (zu (vR hr) (zC (dv 1) (y7 zg) (fun _ _=>rfl)) zg (zo _))))) (zf (zj vE)) zk)
 (yp (zA (DW.dt (y6 (zW (yV T.isinstance T.LO (dv 0))) (yM (wB (zW (zl AA (rom hr) rfl (zb (dv 0) (zb (dv 1) ze)))))))) (zf (zj vE)) zk)
 (zf (zj (zl AB (rom hr) rfl (zb (dv 0) (zb (dv 1) ze))))))),?_⟩
 refine⟨fun ρ=>ρ=[.some (zR A k n),.some (zM r)]∧(r=[]∨r.getD (r.length-1) 0≠0),?_,?_⟩
 ·walk_at "rd"
  rcases sN r with rfl|⟨l,z,rfl⟩
  ·exact ifF rfl (ifF rfl ⟨rfl,.inl rfl⟩)
  ·have ez:(l++[z]).getD ((l++[z]).length-1) 0=z:=by rw[List.length_append];simp[List.getD_eq_getElem?_getD]
   refine ifT (by simp) ⟨_,rfl,_,rfl,_,_,_,rfl,rfl,atI_last,rfl,rfl,_,rfl,?_⟩
   by_cases hz:z=0
   ·refine ifT (eqI hz) ?_
    rw[sA (fun L=>by
     rcases L.end_ with h|h
     ·simp at h
     ·rw[ez]at h;exact h hz)]at q
    exact q
   ·refine ifF (neI hz) ⟨rfl,.inr (by rw[ez];exact hz)⟩
 ·rintro ρ' ⟨rfl,hend⟩
  refine⟨fun ρ=>ρ=[.some (zR A k n),.some (zM r)]∧(k.isF=true→∀p,p+1<r.length→r.getD (p+1) 0=n→r.getD p 0=0),?_,?_⟩
  ·refine⟨_,rfl,_,_,_,_,rfl,tD T k,kiF T k,_,rfl,?_⟩
   cases hk:k.isF with
   | false=>exact ifF rfl (ifF rfl ⟨rfl,fun z=>(Ba z).elim⟩)
   | true=>
    have ek:k=.falling:=by cases k<;>first|rfl|cases hk
    subst ek
    refine ifT rfl ⟨_,rfl,_,rfl,n,r,rfl,hn,hl,fun b hb=>⟨_,rfl,?_⟩⟩
    cases b with
    | true=>exact ifF rfl ⟨rfl,fun _=>hb.mp rfl⟩
    | false=>
     refine ifT rfl ?_
     rw[sA (fun L=>Ba (hb.mpr (L.fal rfl)))]at q
     exact q
  ·rintro ρ' ⟨rfl,hf⟩
   refine⟨_,rfl,_,rfl,k,n,r,rfl,hn,hl,fun b hb=>?_⟩
   cases b with
   | true=>rw[oy ⟨hb.mp rfl,hf,hend⟩]at q;exact q
   | false=>rw[sA (fun L=>Ba (hb.mpr L.fig))]at q;exact q
abbrev yh:Stmt:=top 48
def sc_held_to_be_writings:zh ["way","rows","row"] ["way","rows"] (defScope yh):=by walk_at "sc"
def wx(T:Txt K mg A)(Ap:DOk P w K mg base 3 "is_writing" (bd A))(F:Fun K "held_to_be_writings" "held_to_be_writings" yh f fd):FnOk P w K mg base CX0 4 f fd ["way","rows"] (zw K (tj A)):=by
 refine okD F sc_held_to_be_writings (by walk_at "ln") fun _ _ _ _ _ _ hr ds Q h=>?_
 obtain⟨k,n,rs,rfl,hn,hrs,q⟩:=h
 refine⟨_,(zf (lU (j:=2) rfl sc_held_to_be_writings.nd rfl (Or.inl rfl) PassesOwn.never (dv 1) (zf (zA (wB (zW (zl Ap (rom hr) rfl (zb (dv 0) (zb (dv 2) ze))))) (zf yb) zk)))),?_⟩
 refine⟨_,rfl,_,fun i ρ=>∃v,ρ=[.some (zR A k n),.some (.lst (rs.map zM)),v],rfl,⟨_,rfl⟩,?_,?_⟩
 ·rintro i e ρ' he ⟨v,rfl⟩
  obtain⟨r,hm,rfl⟩:=BB.mp (Bp he)
  obtain⟨hL,hl⟩:=hrs r hm
  refine⟨_,rfl,_,rfl,k,n,r,rfl,hn,hl,_,rfl,?_⟩
  rw[oy hL]
  exact ifF rfl ⟨_,rfl⟩
 ·rintro ρ' ⟨v,rfl⟩
  exact q
abbrev yw:Stmt:=top 33
def sc_held_to_be_a_heap:zh ["way","heap","things"] ["way","heap"] (defScope yw):=by walk_at "sc"
def wT(T:Txt K mg A)(F:Fun K "held_to_be_a_heap" "held_to_be_a_heap" yw f fd):FnOk P w K mg base CX0 1 f fd ["way","heap"] (zw K (je A)):=by
 refine okD F sc_held_to_be_a_heap (by walk_at "ln") fun _ _ _ _ _ _ hr ds Q h=>?_
 obtain⟨rfl,q⟩:=h
 refine⟨_,(zd (zA (wB (zW (yV T.isinstance T.LO (dv 0)))) (zf yb) zk)
 (zf (lU (j:=2) rfl sc_held_to_be_a_heap.nd rfl (Or.inl rfl) PassesOwn.never (dv 1) (zf (zA (zu (rp) (dv 2) zg (zo _)) (zf yb) zk))))),?_⟩
 refine⟨_,rfl,_,_,_,_,rfl,T.KG,T.LX,_,rfl,ifF rfl ?_⟩
 refine⟨_,rfl,_,fun i ρ=>∃v,ρ=[.some (zR A .falling 1),.some (zM [1,1]),v],rfl,⟨_,rfl⟩,?_,?_⟩
 ·rintro i e ρ' he ⟨v,rfl⟩
  obtain⟨y,hy,rfl⟩:=BB.mp (Bp he)
  have:y=1:=by simpa using hy
  exact⟨_,rfl,_,_,rfl,rfl,_,rfl,ifF (decide_eq_false (by omega)) ⟨_,rfl⟩⟩
 ·rintro ρ' ⟨v,rfl⟩
  exact q
abbrev uA:Stmt:=top 36
def mQ:zh ["way","heap","place"] ["way","heap","place"] (defScope uA):=by walk_at "sc"
def lq(T:Txt K mg A)(F:Fun K "step_at" "step_at" uA f fd):FnOk P w K mg base CX0 1 f fd ["way","heap","place"] (zw K (kU A)):=by
 refine okD F mQ (by walk_at "ln") fun _ _ _ _ _ _ hr ds Q h=>?_
 obtain⟨r,p,rfl,hw⟩:=h
 refine⟨_,(yp (zA (DW.dt (y6 (zu (rq) (dv 2) zg (zo _)) (y6 (zu (gA) (zC (dv 1) (dv 2) (fun _ _=>rfl)) (zZ (dv 0)) (zo _)) (yM (zu (rq) (zC (dv 1) (zp yC (dv 2) zg) (fun _ _=>rfl)) zg (zo _)))))) (zf (zj (zO (zb zi (zb (dv 2) ze))))) zk)
 (zd (zA (zu (rq) (zC (dv 1) (dv 2) (fun _ _=>rfl)) (zZ (dv 0)) (zo _)) (zf (zj (zO (zb zi (zb (dv 2) ze))))) zk)
 (zf (zj QF)))),?_⟩
 rcases hw with ⟨rfl,rfl,q⟩|⟨rfl,hp,q⟩
 ·refine⟨fun _=>False,?_,fun _ h=>h.elim⟩
  refine⟨_,rfl,_,_,rfl,rfl,_,rfl,ifT rfl ?_⟩
  refine⟨_,rfl,_,rfl,_,_,_,rfl,rfl,rfl,_,rfl,_,_,_,rfl,rfl,T.Lr,T.Ly,_,_,rfl,rfl,_,rfl,ifT rfl ?_⟩
  refine⟨_,rfl,_,rfl,_,_,rfl,rfl,_,_,_,rfl,rfl,rfl,_,_,rfl,rfl,_,rfl,ifT rfl ?_⟩
  walk_at "rd"
  exact q
 ·refine⟨fun ρ=>ρ=[.some (zR A .falling 1),.some (zM [0,0,1]),.some (.int p)],?_,?_⟩
  ·rcases hp with rfl|rfl|rfl
   ·exact⟨_,rfl,_,_,rfl,rfl,_,rfl,ifF rfl (ifF rfl rfl)⟩
   ·refine⟨_,rfl,_,_,rfl,rfl,_,rfl,ifT rfl ?_⟩
    exact⟨_,rfl,_,rfl,_,_,_,rfl,rfl,rfl,_,rfl,_,_,_,rfl,rfl,T.Lr,T.Ly,_,_,rfl,rfl,_,rfl,ifF rfl (ifF rfl rfl)⟩
   ·refine⟨_,rfl,_,_,rfl,rfl,_,rfl,ifT rfl ?_⟩
    refine⟨_,rfl,_,rfl,_,_,_,rfl,rfl,rfl,_,rfl,_,_,_,rfl,rfl,T.Lr,T.Ly,_,_,rfl,rfl,_,rfl,ifT rfl ?_⟩
    exact⟨_,rfl,_,rfl,_,_,rfl,rfl,_,_,_,rfl,rfl,rfl,_,_,rfl,rfl,_,rfl,ifF rfl rfl⟩
  ·rintro ρ rfl
   rcases hp with rfl|rfl|rfl<;>exact⟨_,rfl,_,rfl,_,_,_,rfl,rfl,rfl,_,rfl,_,_,_,rfl,rfl,T.Lr,T.Ly,_,_,rfl,rfl,_,rfl,ifF rfl q⟩
abbrev wL:Stmt:=top 37
def sc_how_often:zh ["way","heap","step","place"] ["way","heap","step"] (defScope wL):=by walk_at "sc"
def oj(T:Txt K mg A)(F:Fun K "how_often" "how_often" wL f fd):FnOk P w K mg base CX0 1 f fd ["way","heap","step"] (zw K (c9 A)):=by
 refine okD F sc_how_often (by walk_at "ln") fun _ _ _ _ _ _ hr ds Q h=>?_
 obtain⟨rfl,q⟩:=h
 refine⟨_,(zd (zq (i:=3) sc_how_often.nd rfl (Or.inl rfl) (zC (dv 2) zg (fun _ _=>rfl)))
 (zd (zA (zu (yJ) (zC (dv 2) zg (fun _ _=>rfl)) zi (zo _)) (zf (zj (cI rfl rfl T.n_min (zb (zp uR (zC (dv 1) (dv 3) (fun _ _=>rfl)) (zZ (dv 0))) (zb (zC (dv 1) (zp yC (dv 3) zg) (fun _ _=>rfl)) ze))))) zk)
 (zf (zj (zp uR (zC (dv 1) (dv 3) (fun _ _=>rfl)) (zp yY (zZ (dv 0)) zg)))))),?_⟩
 refine⟨_,rfl,_,1,_,rfl,rfl,rfl,_,rfl,_,0,_,rfl,rfl,rfl,_,_,rfl,rfl,_,rfl,ifT rfl ?_⟩
 refine⟨_,rfl,_,rfl,_,_,_,rfl,rfl,rfl,_,rfl,_,_,_,rfl,rfl,T.Lr,T.Ly,_,_,rfl,rfl,Ug (by decide),?_⟩
 exact⟨_,rfl,_,rfl,_,_,rfl,rfl,_,_,_,rfl,rfl,rfl,_,_,rfl,q⟩
abbrev uE:Stmt:=top 34
def sc_changes:zh ["way","step","kind","place","parted"] ["way","step"] (defScope uE):=by walk_at "sc"
def ly(T:Txt K mg A)(F:Fun K "changes" "changes" uE f fd):FnOk P w K mg base CX0 1 f fd ["way","step"] (zw K (bf A)):=by
 refine okD F sc_changes (by walk_at "ln") fun _ _ _ _ _ _ hr ds Q h=>?_
 obtain⟨rfl,q⟩:=h
 refine⟨_,(zd (zq (i:=2) sc_changes.nd rfl (Or.inl rfl) (zC (dv 1) zg (fun _ _=>rfl)))
 (zd (zq (i:=3) sc_changes.nd rfl (Or.inl rfl) (zC (dv 1) zg (fun _ _=>rfl)))
 (zd (zA (zu (yJ) (dv 2) zi (zo _)) (zf (zj (zG (zb (zO (zb (zp yY (dv 3) zg) (zb zg ze))) (zb (zO (zb (dv 3) (zb (y7 (zZ (dv 0))) ze))) (zb (zO (zb (zp yC (dv 3) zg) (zb (y7 zg) ze))) ze)))))) zk)
 (zd (z8 (i:=4) sc_changes.nd rfl (Or.inl rfl) (w9 (zb (zO (zb (zp yY (dv 3) zg) (zb zg ze))) (zb (zO (zb (dv 3) (zb (zp yC (y7 (zZ (dv 0))) zg) ze))) ze))))
 (yp (zA (zu (vR hr) (dv 3) zg (zo _)) (zf (w8 4 (zO (zb zg (zb (zZ (dv 0)) ze))))) zk)
 (yp (zA (zu (rq) (dv 3) zg (zo _)) (zd (w8 4 (zO (zb (zp yC (dv 3) zg) (zb (zp yC (zZ (dv 0)) zg) ze))))
 (zf (w8 4 (zO (zb (zp yC (dv 3) zg) (zb zg ze)))))) zk)
 (zf (wC 4)))))))),?_⟩
 repeat(first|(walk_at "rd1")|refine⟨_,_,_,rfl,rfl,T.Lr,T.Ly,?_⟩)
 exact q
abbrev vP:Stmt:=top 35
def sc_do_steps:zh ["way","heap","step","many","place","things"] ["way","heap","step","many"] (defScope vP):=by walk_at "sc"
def nQ(T:Txt K mg A)(AC:DOk P w K mg base 1 "changes" (bf A))(F:Fun K "do_steps" "do_steps" vP f fd):FnOk P w K mg base CX0 2 f fd ["way","heap","step","many"] (pE K (Up A)):=by
 refine okA F sc_do_steps (by walk_at "ln") fun _ _ _ _ _ _ hr d0 es0 ds Q a h=>?_
 obtain⟨rfl,rfl,rfl,q⟩:=h
 refine⟨_,(zd (x9 PassesOwn.never (zu (rp) (Vk 1 rfl T.len) (zp yY (zC (dv 2) zg (fun _ _=>rfl)) zg) (zo _)) (zf (Ve 1 zg)))
 (zf (Vc (i:=4) (j:=5) rfl sc_do_steps.nd rfl rfl (Or.inl rfl) (Or.inl rfl) PassesOwn.never (zl AC (rom hr) rfl (zb (dv 0) (zb (dv 2) ze))) (zf (uk 1 oA (dv 4) (zp tu (dv 3) (dv 5))))))),?_⟩
 refine⟨fun m ρ=>(m=1∧ρ=[.some (zR A .falling 1),.arg a [Dt.int 1,Dt.int 1],.some upD,.some (.int 1),.none,.none])∨(m=0∧ρ=[.some (zR A .falling 1),.arg a [Dt.int 1,Dt.int 1,Dt.int 0],.some upD,.some (.int 1),.none,.none]),⟨1,.inl ⟨rfl,rfl⟩⟩,?_⟩
 rintro m ρ' (⟨rfl,rfl⟩|⟨rfl,rfl⟩)
 ·refine⟨a,_,rfl,_,rfl,_,1,_,rfl,rfl,rfl,_,_,rfl,rfl,_,_,rfl,rfl,_,rfl,ifT rfl ?_⟩
  exact⟨a,_,rfl,by show 2≤100000;decide,0,by decide,.inr ⟨rfl,rfl⟩⟩
 ·refine⟨a,_,rfl,_,rfl,_,1,_,rfl,rfl,rfl,_,_,rfl,rfl,_,_,rfl,rfl,_,rfl,ifF rfl ?_⟩
  refine⟨_,rfl,_,rfl,rfl,_,fun i ρ=>∃v4 v5,ρ=[.some (zR A .falling 1),.arg a (match i with|0=>[Dt.int 1,Dt.int 1,Dt.int 0]|1=>[Dt.int 1,Dt.int 1,Dt.int 1]|2=>[Dt.int 1,Dt.int 0,Dt.int 1]|_=>[Dt.int 0,Dt.int 0,Dt.int 1]),.some upD,.some (.int 1),v4,v5],rfl,⟨_,_,rfl⟩,?_,?_⟩
  ·rintro i e ρ' he ⟨v4,v5,rfl⟩
   match i,he with
   | 0,he=>
    cases he
    exact⟨_,_,rfl,a,_,rfl,_,rfl,2,0,rfl,by decide,rfl,_,rfl,_,rfl,_,_,rfl,rfl,small (by decide) (by decide) _,_,rfl,_,_,rfl⟩
   | 1,he=>
    cases he
    exact⟨_,_,rfl,a,_,rfl,_,rfl,1,1,rfl,by decide,rfl,_,rfl,_,rfl,_,_,rfl,rfl,small (by decide) (by decide) _,_,rfl,_,_,rfl⟩
   | 2,he=>
    cases he
    exact⟨_,_,rfl,a,_,rfl,_,rfl,0,1,rfl,by decide,rfl,_,rfl,_,rfl,_,_,rfl,rfl,small (by decide) (by decide) _,_,rfl,_,_,rfl⟩
   | i+3,he=>cases he
  ·rintro ρ' ⟨v4,v5,rfl⟩
   exact⟨_,rfl,q⟩
abbrev yu:Stmt:=top 38
def sc_steps_and_writing:zh ["way","heap","done","left","place","step","many"] ["way","heap"] (defScope yu):=by walk_at "sc"
def wS(T:Txt K mg A)(AD:DOk P w K mg base 1 "held_to_be_a_heap" (je A))(AE:DOk P w K mg base 1 "step_at" (kU A))(AF:DOk P w K mg base 1 "how_often" (c9 A))(AG:AOk P w K mg base 2 "do_steps" (Up A))(An:FOk P w K mg base 1 "trimmed" (kb))(F:Fun K "steps_and_writing" "steps_and_writing" yu f fd):FnOk P w K mg base CX0 3 f fd ["way","heap"] (kS K (.t true true) (c8 A)):=by
 refine okT F sc_steps_and_writing (by walk_at "ln") fun _ _ _ _ _ _ hr ds Q h=>?_
 obtain⟨rfl,q⟩:=h
 refine⟨_,(zd (vp (zl AD (rom hr) rfl (zb (dv 0) (zb (dv 1) ze))))
 (zd (z8 (i:=2) sc_steps_and_writing.nd rfl (Or.inl rfl) (w9 ze))
 (zd (z8 (i:=3) sc_steps_and_writing.nd rfl (Or.inl rfl) (oJ rfl T.n_list (dv 1)))
 (zd (zq (i:=4) sc_steps_and_writing.nd rfl (Or.inl rfl) (zp yC (uo 3 rfl T.len) zg))
 (zd (x9 PassesOwn.never (zu (gA) (dv 4) zg (zo _)) (zd (zq (i:=5) sc_steps_and_writing.nd rfl (Or.inl rfl) (kP (zl AE (rom hr) rfl (zb (dv 0) (zb (dv 3) (zb (dv 4) ze))))))
 (zf (zA (cq (dv 5)) (zf (Vd (i:=4) dX sc_steps_and_writing.nd rfl (Or.inl rfl) zg)) (zd (zq (i:=6) sc_steps_and_writing.nd rfl (Or.inl rfl) (kP (zl AF (rom hr) rfl (zb (dv 0) (zb (dv 3) (zb (dv 5) ze))))))
 (zd (Qz 2 (DF.de (QE (zG (zb (dv 5) ze)) (dv 6))))
 (zd (mh 3 AG (rom hr) rfl (dv 0) (zb (dv 5) (zb (dv 6) ze)))
 (zf (zq (i:=4) sc_steps_and_writing.nd rfl (Or.inl rfl) (cI rfl rfl T.n_min (zb (zp yY (dv 4) zg) (zb (zp yC (uo 3 rfl T.len) zg) ze))))))))))))
 (xK 3 (zf (cA 2 (sF An (rom hr) rfl (zb (dv 3) ze)))))))))),?_⟩
 refine⟨_,rfl,_,rfl,rfl,rfl,_,rfl,_,rfl,_,rfl,_,rfl,_,rfl,_,_,rfl,rfl,?_⟩
 refine⟨fun m ρ=>(m=4∧ρ=[.some (zR A .falling 1),.some (zM [1,1]),.own [],.own [Dt.int 1,Dt.int 1],.some (.int 1),.none,.none])∨(m≤3∧∃v5 v6,ρ=[.some (zR A .falling 1),.some (zM [1,1]),.own [upD],.own [Dt.int 0,Dt.int 0,Dt.int 1],.some (.int ((m:Int)-1)),v5,v6]),⟨4,.inl ⟨rfl,rfl⟩⟩,?_⟩
 rintro m ρ' (⟨rfl,rfl⟩|⟨hm,v5,v6,rfl⟩)
 ·refine⟨_,rfl,_,_,rfl,rfl,_,rfl,ifT rfl ?_⟩
  refine⟨_,rfl,_,rfl,_,rfl,[1,1],1,rfl,.inl ⟨rfl,rfl,?_⟩⟩
  refine⟨rfl,_,rfl,_,rfl,ifF rfl ?_⟩
  refine⟨_,rfl,_,rfl,_,rfl,rfl,rfl,?_⟩
  refine⟨_,rfl,_,rfl,rfl,_,rfl,_,_,rfl,rfl,by decide,by decide,by decide,_,rfl,by decide,?_⟩
  refine⟨_,rfl,_,rfl,_,rfl,_,rfl,rfl,rfl,rfl,?_⟩
  exact⟨_,rfl,_,_,rfl,rfl,_,rfl,_,_,rfl,rfl,_,_,rfl,3,by decide,.inr ⟨by decide,_,_,rfl⟩⟩
 ·rcases(by omega:m=0∨m=1∨m=2∨m=3) with rfl|rfl|rfl|rfl
  ·refine⟨_,rfl,_,_,rfl,rfl,_,rfl,ifF rfl ?_⟩
   exact⟨_,rfl,_,rfl,_,rfl,[0,0,1],rfl,q⟩
  ·refine⟨_,rfl,_,_,rfl,rfl,_,rfl,ifT rfl ?_⟩
   refine⟨_,rfl,_,rfl,_,rfl,[0,0,1],_,rfl,.inr ⟨rfl,by decide,?_⟩⟩
   refine⟨rfl,_,rfl,_,rfl,ifT rfl ?_⟩
   exact⟨_,rfl,_,_,rfl,rfl,0,by decide,.inr ⟨by decide,_,_,rfl⟩⟩
  ·refine⟨_,rfl,_,_,rfl,rfl,_,rfl,ifT rfl ?_⟩
   refine⟨_,rfl,_,rfl,_,rfl,[0,0,1],_,rfl,.inr ⟨rfl,by decide,?_⟩⟩
   refine⟨rfl,_,rfl,_,rfl,ifT rfl ?_⟩
   exact⟨_,rfl,_,_,rfl,rfl,1,by decide,.inr ⟨by decide,_,_,rfl⟩⟩
  ·refine⟨_,rfl,_,_,rfl,rfl,_,rfl,ifT rfl ?_⟩
   refine⟨_,rfl,_,rfl,_,rfl,[0,0,1],_,rfl,.inr ⟨rfl,by decide,?_⟩⟩
   refine⟨rfl,_,rfl,_,rfl,ifT rfl ?_⟩
   exact⟨_,rfl,_,_,rfl,rfl,2,by decide,.inr ⟨by decide,_,_,rfl⟩⟩
abbrev sW:Stmt:=top 39
def ju:zh ["way","heap"] ["way","heap"] (defScope sW):=by walk_at "sc"
def jF(T:Txt K mg A)(AH:TOk P w K mg base 3 "steps_and_writing" (.t true true) (c8 A))(F:Fun K "fallen" "fallen" sW f fd):FnOk P w K mg base CX0 4 f fd ["way","heap"] (xl K (jf A)):=by
 refine okF F ju (by walk_at "ln") fun _ _ _ _ _ _ hr ds Q h=>?_
 obtain⟨rfl,q⟩:=h
 refine⟨_,(zf (yU (QD (Vf AH (rom hr) rfl (zb (dv 0) (zb (dv 1) ze))) (fun _ _=>rfl)))),?_⟩
 exact⟨_,rfl,_,rfl,rfl,_,_,rfl,q⟩
abbrev xN:Stmt:=top 52
def sP:zh ["way","row"] ["way","row"] (defScope xN):=by walk_at "sc"
def ra(T:Txt K mg A)(AI:FOk P w K mg base 4 "fallen" (jf A))(Ao:FOkX P w K mg base 5 "settled" (kd A))(F:Fun K "written_row" "written_row" xN f fd):FnOk P w K mg base (CX1 P w) 6 f fd ["way","row"] (yd K (sH A)):=by
 refine nS F sP (by walk_at "ln") fun _ _ _ _ _ _ hr ds Q R h rz=>?_
 obtain⟨k,n,r,rfl,hn,hl,hw⟩:=h
 refine⟨_,(zd (zA (zW (yV T.isinstance T.LO (dv 0))) (zf (yU (sF AI (rom hr) rfl (zb (dv 0) (zb (dv 1) ze))))) zk)
 (zf (yU (zY Ao (rom hr) rfl (zb (dv 0) (zb (dv 1) ze)))))),?_⟩
 refine⟨_,rfl,_,_,_,_,rfl,tD T k,kiF T k,_,rfl,?_⟩
 rcases hw with ⟨rfl,rfl,rfl,q⟩|⟨h3,hl9,hneg,hR⟩
 ·exact ifT rfl ⟨_,rfl,_,rfl,rfl,q⟩
 ·exact ifF (by cases k<;>first|rfl|cases h3) ⟨_,rfl,_,rfl,k,n,r,r.length,rfl,h3,hn,⟨Bg _,fun j h1 h2=>by omega⟩,hl9,.inr ⟨hneg,rz _ hR⟩⟩
abbrev sU:Stmt:=top 63
def jt:zh ["way","row","many","parts"] ["way","row","many"] (defScope sU):=by walk_at "sc"
def jE(T:Txt K mg A)(Ae:DOk P w K mg base 4 "held_to_be_writings" (tj A))(Ak:FOkX P w K mg base 6 "written_row" (sH A))(F:Fun K "shared" "shared" sU f fd):FnOk P w K mg base (CX1 P w) 7 f fd ["way","row","many"] (rY K (.t true false) (vv A)):=by
 refine PN F jt (by walk_at "ln") fun _ _ _ _ _ _ hr ds Q R h rz=>?_
 obtain⟨k,n,r,m,rfl,hn,hL,hl,h1,h2⟩:=h
 refine⟨_,(zd (zA (zW (yV T.isinstance T.L4 (dv 0))) (zf (ya rfl rfl T.Kk T.LZ zi)) zk)
 (zd (vp (zl Ae (rom hr) rfl (zb (dv 0) (zb (zG (zb (dv 1) ze)) ze))))
 (zd (zA (zu (rp) (dv 2) zg (zo _)) (zf (ya rfl rfl T.KL T.Kr zi)) zk)
 (zd yb
 (zf (W9 (MI (zY Ak (rom hr) rfl (zb (dv 0) (zb (zC (dv 3) zg (fun _ _=>rfl)) ze)))) (MJ (zC (dv 3) zg (fun _ _=>rfl))))))))),?_⟩
 refine⟨_,rfl,_,_,_,_,rfl,tD T k,kiP T k,_,rfl,?_⟩
 by_cases hk:k=.pairs
 ·subst hk
  refine ifT rfl ?_
  walk_at "rd"
  exact rz _ (h1 rfl)
 ·refine ifF (by cases k<;>first|rfl|exact absurd rfl hk) ?_
  refine⟨_,rfl,_,rfl,rfl,k,n,[r],rfl,hn,fun r' h'=>by rw[By.mp h'];exact⟨hL,by omega⟩,?_⟩
  obtain⟨hm,hR⟩:=h2 hk
  refine⟨_,rfl,_,_,rfl,rfl,_,rfl,ifT (decide_eq_true (by omega)) ?_⟩
  walk_at "rd"
  exact rz _ hR
abbrev wd:Stmt:=top 90
def sc_share_said:zh ["way","writing","many","parts"] ["way","writing","many"] (defScope wd):=by walk_at "sc"
def qp(T:Txt K mg A)(AJ:TOkX P w K mg base 7 "shared" (.t true false) (vv A))(Ah:DOk P w K mg base 2 "row_shown" (mE))(F:Fun K "share_said" "share_said" wd f fd):FnOk P w K mg base (CX1 P w) 8 f fd ["way","writing","many"] (z9 K (vv A)):=by
 refine rn F sc_share_said (by walk_at "ln") fun _ _ _ _ _ _ hr ds Q R h rz=>?_
 obtain⟨k,n,r,m,rfl,hn,hL,hl,h1,h2⟩:=h
 refine⟨_,(zd (zq (i:=3) sc_share_said.nd rfl (Or.inl rfl) (zE AJ.dok (rom hr) rfl (zb (dv 0) (zb (dv 1) (zb (dv 2) ze)))))
 (zf yb)),?_⟩
 walk_at "rd"
 exact⟨k,n,r,m,rfl,hn,hL,hl,fun z=>rz _ (h1 z),fun z=>⟨(h2 z).1,rz _ (h2 z).2⟩⟩
abbrev wM:Stmt:=top 54
def pP:zh ["way","number"] ["way","number"] (defScope wM):=by walk_at "sc"
def ol(T:Txt K mg A)(Ai:DOk P w K mg base 2 "as_pair" (vw))(Am:DOk P w K mg base 2 "is_pair" (u_))(F:Fun K "as_wanted" "as_wanted" wM f fd):FnOk P w K mg base CX0 3 f fd ["way","number"] (zw K (c6 A)):=by
 refine okD F pP (by walk_at "ln") fun _ _ _ _ _ _ hr ds Q h=>?_
 obtain⟨k,n,m,rfl,q⟩:=h
 refine⟨_,(zd (zA (zW (yV T.isinstance T.L4 (dv 0))) (zf (zj (zl Ai (rom hr) rfl (zb (dv 1) ze)))) zk)
 (yp (zA (DW.dt (y6 (zW (zl Am (rom hr) rfl (zb (dv 1) ze))) (yM (zu (vR hr) (zC (dv 1) zg (fun _ _=>rfl)) zg (zo _))))) (zf (zj (zC (dv 1) zg (fun _ _=>rfl)))) zk)
 (zf (zj (dv 1))))),?_⟩
 refine⟨_,rfl,_,_,_,_,rfl,tD T k,kiP T k,_,rfl,?_⟩
 by_cases hk:k=.pairs
 ·subst hk
  exact ifT rfl ⟨_,rfl,_,m,rfl,xh m,q⟩
 ·refine ifF (by cases k<;>first|rfl|exact absurd rfl hk) ?_
  refine⟨fun ρ=>ρ=[.some (zR A k n),.some m.dt]∧ji k m=m,?_,?_⟩
  ·refine⟨_,rfl,_,m,rfl,xh m,_,rfl,?_⟩
   cases m with
   | i a=>exact ifF rfl (ifF rfl ⟨rfl,by cases k<;>first|rfl|exact absurd rfl hk⟩)
   | p a b=>
    refine ifT rfl ?_
    refine⟨_,rfl,_,_,_,rfl,rfl,rfl,rfl,rfl,_,rfl,?_⟩
    refine ifB (fun h=>?_) (fun h=>⟨rfl,?_⟩)
    ·have e:ji k (.p a b)=.i a:=by
      have hb:b=0:=lC h
      subst hb
      cases k<;>first|rfl|exact absurd rfl hk
     rw[e]at q
     exact⟨_,rfl,_,_,_,rfl,rfl,rfl,q⟩
    ·have hb:b≠0:=lB h
     cases k<;>first|exact if_neg hb|exact absurd rfl hk
  ·rintro ρ' ⟨rfl,e⟩
   rw[e]at q
   exact⟨_,rfl,q⟩
abbrev pU:Stmt:=top 55
def i6:zh ["way","row","other"] ["way","row","other"] (defScope pU):=by walk_at "sc"
def gv(T:Txt K mg A)(Ae:DOk P w K mg base 4 "held_to_be_writings" (tj A))(Aq:FOkX P w K mg base 6 "written" (oX A))(AK:DOk P w K mg base 3 "as_wanted" (c6 A))(Av:DOk P w K mg base 5 "worth" (oY A))(F:Fun K "moved" "moved" pU f fd):FnOk P w K mg base (CX1 P w) 7 f fd ["way","row","other"] (yd K (c_ A)):=by
 refine nS F i6 (by walk_at "ln") fun _ _ _ _ _ _ hr ds Q R h rz=>?_
 obtain⟨k,n,r,k2,n2,rfl,h5,hn,hn2,hL,hl,hm,hR⟩:=h
 refine⟨_,(zd (vp (zl Ae (rom hr) rfl (zb (dv 0) (zb (zG (zb (dv 1) ze)) ze))))
 (zf (yU (zY Aq (rom hr) rfl (zb (dv 2) (zb (zl AK (rom hr) rfl (zb (dv 2) (zb (zl Av (rom hr) rfl (zb (dv 0) (zb (dv 1) ze))) ze))) ze)))))),?_⟩
 refine⟨_,rfl,_,rfl,rfl,k,n,[r],rfl,hn,fun r' h'=>by rw[By.mp h'];exact⟨hL,by omega⟩,?_⟩
 exact⟨_,rfl,_,rfl,_,rfl,_,rfl,k,n,r,rfl,h5,hn,by omega,c0 hn hL (by omega),k2,n2,_,rfl,k2,n2,_,rfl,hn2,.inr ⟨hm,rz _ hR⟩⟩
abbrev wf:Stmt:=top 65
def sc_row_plus:zh ["one","other","many"] ["one","other"] (defScope wf):=by walk_at "sc"
def nO(T:Txt K mg A)(Ad:DOk P w K mg base 3 "added" (ut))(Aj:DOk P w K mg base 1 "thing_at" (wG))(F:Fun K "row_plus" "row_plus" wf f fd):FnOk P w K mg base CX0 4 f fd ["one","other"] (zw K (r0)):=by
 refine okD F sc_row_plus (by walk_at "ln") fun _ _ _ _ _ _ hr ds Q h=>?_
 obtain⟨a,b,rfl,ha,hb,q⟩:=h
 refine⟨_,(zd (zq (i:=2) sc_row_plus.nd rfl (Or.inl rfl) (QG rfl rfl T.n_max (zb (yq rfl T.len (dv 0)) (zb (yq rfl T.len (dv 1)) ze))))
 (zf (zj (DF.de (Nh (ul (osc:=defScope wf) (N0:=["one","other","many"]) (bs:=["place"]) (caps:=["one","other"]) (js:=[0,1]) rfl (by decide +kernel) rfl rfl rfl (cC rfl T.range (dv 2)) (fun _ _ _ _ _=>(z4 (i:=0) (show List.Nodup [("place":Str),("one":Str),("other":Str)] by decide +kernel) rfl (Or.inl (lookup_relabel_local rfl)) (.inl rfl))) sy (fun _ _ _ _ _=>oM) (fun _ _ _ _ _=>(zl Ad (rom hr) rfl (zb (zl Aj (rom hr) rfl (zb (dv 1) (zb (dv 0) ze))) (zb (zl Aj (rom hr) rfl (zb (dv 2) (zb (dv 0) ze))) ze)))))))))),?_⟩
 have l1:=yL a
 have l2:=yL b
 walk_at "rd"
 have em:(if((b.map Dt.int).length:Int)>((a.map Dt.int).length:Int) then((b.map Dt.int).length:Int) else((a.map Dt.int).length:Int))=((max a.length b.length:Nat):Int):=by
  rw[l1,l2];split<;>omega
 rw[em]
 refine⟨_,fun i es=>es=((List.range i).map fun p=>a.getD p 0+b.getD p 0).map Dt.int,rfl,by omega,by omega,rfl,?_,?_⟩
 ·rintro i es hi rfl
  refine⟨_,rfl,_,rfl,_,i,rfl,by omega,?_⟩
  refine⟨_,rfl,_,rfl,_,i,rfl,by omega,?_⟩
  rw[BU,rM,rM]
  refine⟨_,_,.i (a.getD i 0),.i (b.getD i 0),rfl,rfl,rfl,?_⟩
  show List.map Dt.int (List.map (fun p=>a.getD p 0+b.getD p 0) (List.range i))++[_]=List.map Dt.int (List.map (fun p=>a.getD p 0+b.getD p 0) (List.range (i+1)))
  rw[List.range_succ,BI,BI]
  rfl
 ·rintro es rfl
  rw[BU]
  exact q
abbrev mY:Stmt:=top 72
def bD:zh ["way","one","other"] ["way","one","other"] (defScope mY):=by walk_at "sc"
def ag(T:Txt K mg A)(Ae:DOk P w K mg base 4 "held_to_be_writings" (tj A))(Ak:FOkX P w K mg base 6 "written_row" (sH A))(Ar:DOk P w K mg base 4 "row_plus" (r0))(F:Fun K "plus" "plus" mY f fd):FnOk P w K mg base (CX1 P w) 7 f fd ["way","one","other"] (yd K (kX A)):=by
 refine nS F bD (by walk_at "ln") fun _ _ _ _ _ _ hr ds Q R h rz=>?_
 obtain⟨rfl,q⟩:=h
 refine⟨_,(zd (vp (zl Ae (rom hr) rfl (zb (dv 0) (zb (zG (zb (dv 1) (zb (dv 2) ze))) ze))))
 (zf (yU (zY Ak (rom hr) rfl (zb (dv 0) (zb (zl Ar (rom hr) rfl (zb (dv 1) (zb (dv 2) ze))) ze)))))),?_⟩
 have hn:Kd.falling.ok 1:=by unfold Kd.ok;decide
 refine⟨_,rfl,_,rfl,_,rfl,rfl,.falling,1,[[0,1],[1]],rfl,hn,fun r' h'=>?_,?_⟩
 ·rcases Bk.mp h' with rfl|h'
  ·exact⟨legB_iff.mp (by decide),by decide⟩
  ·rw[By.mp h'];exact⟨legB_iff.mp (by decide),by decide⟩
 exact⟨_,rfl,_,rfl,_,rfl,[0,1],[1],rfl,by decide,by decide,.falling,1,[1,1],rfl,hn,by decide,.inl ⟨rfl,rfl,rfl,q⟩⟩
abbrev xI:Stmt:=top 66
def pN:zh ["row","factor"] ["row","factor"] (defScope xI):=by walk_at "sc"
def oh(T:Txt K mg A)(Ag:DOk P w K mg base 3 "multiplied" (o0))(F:Fun K "row_times" "row_times" xI f fd):FnOk P w K mg base CX0 4 f fd ["row","factor"] (zw K (pD)):=by
 refine okD F pN (by walk_at "ln") fun _ _ _ _ _ _ hr ds Q h=>?_
 obtain⟨a,c,rfl,ha,c1,c2,q⟩:=h
 refine⟨_,(zf (zj (DF.de (Uf (ul (osc:=defScope xI) (N0:=["row","factor"]) (bs:=["thing"]) (caps:=["factor"]) (js:=[1]) rfl (by decide +kernel) rfl rfl rfl (kJ (dv 0)) (fun _ _ _ _ _=>(z4 (i:=0) (show List.Nodup [("thing":Str),("factor":Str)] by decide +kernel) rfl (Or.inl (lookup_relabel_local rfl)) (.inl rfl))) sy (fun _ _ _ _ _=>oM) (fun _ _ _ _ _=>(zl Ag (rom hr) rfl (zb (dv 0) (zb (dv 1) ze))))))))),?_⟩
 have ll:=yL a
 refine⟨_,rfl,a.map Dt.int,fun i es=>es=((a.take i).map (· * c)).map Dt.int,rfl,by rw[ll];omega,rfl,?_,?_⟩
 ·rintro i e es hi rfl
  obtain⟨rfl,hl⟩:=ko hi
  refine⟨_,rfl,_,rfl,_,_,.i (a.getD i 0),.i c,rfl,rfl,rfl,⟨small c1 c2 _,small (by show(-1000000:Int)≤0;decide) (by show(0:Int)≤1000000;decide) _,small (by show(-1000000:Int)≤0;decide) (by show(0:Int)≤1000000;decide) _,small c1 c2 _⟩,?_⟩
  show List.map Dt.int (List.map (· * c) (a.take i))++[_]=List.map Dt.int (List.map (· * c) (a.take (i+1)))
  rw[jo hl,BI,BI]
  rfl
 ·rintro es rfl
  rw[ll,List.take_length]
  exact q
abbrev mZ:Stmt:=top 68
def bE:zh ["way","row","lender"] ["way","row","lender"] (defScope mZ):=by walk_at "sc"
def ah(T:Txt K mg A)(F:Fun K "lend" "lend" mZ f fd):FnOk P w K mg base CX0 1 f fd ["way","row","lender"] (pE K (jb)):=by
 refine okA F bE (by walk_at "ln") fun _ _ _ _ _ _ hr d0 es0 ds Q a h=>?_
 have h:=h
 refine⟨_,(zd (uk 1 dX (dv 2) zg)
 (zd (uk 1 oA (zp yC (dv 2) zg) (zZ (dv 0)))
 (zf (zA (zu (vR hr) (dv 2) zg (zo _)) (zf (uk 1 oA zg zg)) (zf (uk 1 oA (zp yC (dv 2) zg) zg)))))),?_⟩
 exact(h:False).elim
abbrev xp:Stmt:=top 67
def sc_lender_above:zh ["row","place","lender"] ["row","place"] (defScope xp):=by walk_at "sc"
def tT(T:Txt K mg A)(F:Fun K "lender_above" "lender_above" xp f fd):FnOk P w K mg base (CX1 P w) 1 f fd ["row","place"] (z9 K (bb A)):=by
 refine rn F sc_lender_above (by walk_at "ln") fun _ _ _ _ _ _ hr ds Q R h rz=>?_
 obtain⟨r,p,rfl,hl,hp,hR⟩:=h
 refine⟨_,(zd (mf (j:=2) rfl sc_lender_above.nd rfl (Or.inl rfl) bY rfl T.range (zb (zp yY (dv 1) zg) (zb (yq rfl T.len (dv 0)) ze)) (zf (zA (zu (rq) (zC (dv 0) (dv 2) (fun _ _=>rfl)) zg (zo _)) (zf (zj (dv 2))) zk)))
 (zf (ya rfl rfl T.Kj T.LY zi))),?_⟩
 have ll:=yL r
 walk_at "rd"
 refine⟨_,_,fun i ρ=>∃v,ρ=[.some (zM r),.some (.int p),v],rfl,by omega,by omega,by omega,by omega,⟨_,rfl⟩,?_,?_⟩
 ·rintro i ρ' hi _
  omega
 ·rintro ρ' ⟨v,rfl⟩
  exact rz _ hR
abbrev y1:Stmt:=top 69
def sc_without_debts:zh ["way","row","things","place"] ["way","row"] (defScope y1):=by walk_at "sc"
def uM(T:Txt K mg A)(AL:AOk P w K mg base 1 "lend" (jb))(AM:DOkX P w K mg base 1 "lender_above" (bb A))(F:Fun K "without_debts" "without_debts" y1 f fd):FnOk P w K mg base (CX1 P w) 2 f fd ["way","row"] (yd K (Ui A)):=by
 refine nS F sc_without_debts (by walk_at "ln") fun _ _ _ _ _ _ hr ds Q R h rz=>?_
 obtain⟨n,r,rfl,hl,hz,hR⟩:=h
 refine⟨_,(zd (z8 (i:=2) sc_without_debts.nd rfl (Or.inl rfl) (oJ rfl T.n_list (dv 1)))
 (zd (Vb (j:=3) rfl sc_without_debts.nd rfl (Or.inl rfl) bY rfl T.range (zb (zp yC (uo 2 rfl T.len) zg) (zb (y7 zg) (zb (y7 zg) ze))) (zf (x9 bY (zu (rp) (cK 2 (dv 3) (fun _ _=>rfl)) zg (zo _)) (zf (mh 2 AL (rom hr) rfl (dv 0) (zb (QK (zE AM (rom hr) rfl (zb (dv 2) (zb (dv 3) ze)))) ze))))))
 (zf (wC 2)))),?_⟩
 have ll:=yL r
 have hl1:1≤r.length:=by cases r with|nil=>exact absurd hz (by decide)|cons _ _=>exact Nat.succ_pos _
 refine⟨_,rfl,_,rfl,_,rfl,?_⟩
 walk_at "rd"
 refine⟨_,_,fun i ρ=>i=0∧∃v,ρ=[.some (zR A .falling n),.some (zM r),.own (r.map Dt.int),v],rfl,by omega,by omega,by decide,by decide,⟨rfl,_,rfl⟩,?_,?_⟩
 ·rintro i ρ' hi ⟨rfl,v,rfl⟩
  have ep:(((List.map Dt.int r).length:Int)-1-((0:Nat):Int))=((r.length-1:Nat):Int):=by omega
  rw[ep]
  refine⟨fun m ρ=>ρ=[.some (zR A .falling n),.some (zM r),.own (r.map Dt.int),.some (.int ((r.length-1:Nat):Int))],⟨0,rfl⟩,?_⟩
  rintro m ρ' rfl
  refine⟨_,rfl,_,rfl,_,_,rfl,sG (by omega) (by omega),_,_,rfl,rfl,_,rfl,ifT (decide_eq_true (by rw[BU];exact hz)) ?_⟩
  refine⟨_,rfl,_,rfl,?_⟩
  exact⟨_,rfl,_,rfl,r,_,rfl,hl,by omega,rz _ hR⟩
 ·rintro ρ' ⟨h0,_⟩
  omega
abbrev pV:Stmt:=top 73
def sc_minus:zh ["way","one","other","difference"] ["way","one","other"] (defScope pV):=by walk_at "sc"
def gw(T:Txt K mg A)(Ae:DOk P w K mg base 4 "held_to_be_writings" (tj A))(Ar:DOk P w K mg base 4 "row_plus" (r0))(AN:DOk P w K mg base 4 "row_times" (pD))(Ak:FOkX P w K mg base 6 "written_row" (sH A))(AO:FOkX P w K mg base 2 "without_debts" (Ui A))(F:Fun K "minus" "minus" pV f fd):FnOk P w K mg base (CX1 P w) 7 f fd ["way","one","other"] (yd K (ba A)):=by
 refine nS F sc_minus (by walk_at "ln") fun _ _ _ _ _ _ hr ds Q R h rz=>?_
 obtain⟨k,n,a,b,rfl,hn,hLa,hLb,la,lb,hw,hR⟩:=h
 refine⟨_,(zd (vp (zl Ae (rom hr) rfl (zb (dv 0) (zb (zG (zb (dv 1) (zb (dv 2) ze))) ze))))
 (zd (zq (i:=3) sc_minus.nd rfl (Or.inl rfl) (zl Ar (rom hr) rfl (zb (dv 1) (zb (zl AN (rom hr) rfl (zb (dv 2) (zb (y7 zg) ze))) ze))))
 (zd (zA (zW (yV T.isinstance T.LO (dv 0))) (zf (yU (zY Ak (rom hr) rfl (zb (dv 0) (zb (DF.de (zY AO (rom hr) rfl (zb (dv 0) (zb (dv 3) ze)))) ze))))) zk)
 (zf (yU (zY Ak (rom hr) rfl (zb (dv 0) (zb (dv 3) ze)))))))),?_⟩
 have hl:=Vg a b
 have li:(dU b (-1)).length=b.length:=A' _
 refine⟨_,rfl,_,rfl,_,rfl,rfl,k,n,[a,b],rfl,hn,fun r' h'=>?_,?_⟩
 ·rcases Bk.mp h' with rfl|h'
  ·exact⟨hLa,by omega⟩
  ·rw[By.mp h'];exact⟨hLb,by omega⟩
 refine⟨_,rfl,_,rfl,_,rfl,b,-1,rfl,by omega,by decide,by decide,a,dU b (-1),rfl,by omega,by omega,?_⟩
 refine⟨_,rfl,_,_,_,_,rfl,tD T k,kiF T k,_,rfl,?_⟩
 unfold dJ at hw
 by_cases hk:k=.falling
 ·subst hk
  rw[if_pos (show Kd.falling.isF=true from rfl)]at hw
  refine ifT rfl ⟨_,rfl,_,rfl,_,rfl,n,dif a b,rfl,by omega,of_decide_eq_true hw,rz _ hR⟩
 ·have hF:k.isF=false:=by cases k<;>first|rfl|exact absurd rfl hk
  rw[hF,if_neg Ba,Bb]at hw
  exact ifF hF ⟨_,rfl,_,rfl,k,n,dif a b,rfl,hn,by omega,.inr ⟨hw.1,by omega,ku hw.2,rz _ hR⟩⟩
abbrev pT:Stmt:=top 58
def sc_order:zh ["way","one","other","place","more"] ["way","one","other"] (defScope pT):=by walk_at "sc"
def gu(T:Txt K mg A)(Ae:DOk P w K mg base 4 "held_to_be_writings" (tj A))(Aj:DOk P w K mg base 1 "thing_at" (wG))(F:Fun K "order" "order" pT f fd):FnOk P w K mg base (CX1 P w) 5 f fd ["way","one","other"] (z9 K (ur A)):=by
 refine rn F sc_order (by walk_at "ln") fun _ _ _ _ _ _ hr ds Q R h rz=>?_
 obtain⟨n,a,b,rfl,hR⟩:=h
 refine⟨_,(zd (zA (zW (yV T.isinstance T.L4 (dv 0))) (zf (ya rfl rfl T.Kk T.LZ zi)) zk)
 (zd (vp (zl Ae (rom hr) rfl (zb (dv 0) (zb (zG (zb (dv 1) (zb (dv 2) ze))) ze))))
 (zd yb
 (zd (zA (cq (dv 3)) (zf (zj zg)) zk)
 (zd (zq (i:=4) sc_order.nd rfl (Or.inl rfl) (u6 (rq) (zl Aj (rom hr) rfl (zb (dv 1) (zb (dv 3) ze))) (zl Aj (rom hr) rfl (zb (dv 2) (zb (dv 3) ze))) (zo _)))
 (yp (zA (DW.dt (y6 (zW (yV T.isinstance T.KY (dv 0))) (yM (zu (vR hr) (zp xB (dv 3) zg) zg (zo _))))) (zf (zq (i:=4) sc_order.nd rfl (Or.inl rfl) (cH (dv 4)))) zk)
 (zf (zj (mj (zW (dv 4)) zg (y7 zg)))))))))),?_⟩
 refine⟨_,rfl,_,_,_,_,rfl,tD T .pairs,kiP T .pairs,_,rfl,ifT rfl ?_⟩
 walk_at "rd"
 exact rz _ hR
abbrev wg:Stmt:=top 91
def sc_order_said:zh ["way","one","other","told"] ["way","one","other"] (defScope wg):=by walk_at "sc"
def qr(T:Txt K mg A)(AQ:DOkX P w K mg base 5 "order" (ur A))(F:Fun K "order_said" "order_said" wg f fd):FnOk P w K mg base (CX1 P w) 6 f fd ["way","one","other"] (z9 K (ur A)):=by
 refine rn F sc_order_said (by walk_at "ln") fun _ _ _ _ _ _ hr ds Q R h rz=>?_
 obtain⟨n,a,b,rfl,hR⟩:=h
 refine⟨_,(zd (zq (i:=3) sc_order_said.nd rfl (Or.inl rfl) (zE AQ (rom hr) rfl (zb (dv 0) (zb (dv 1) (zb (dv 2) ze)))))
 (zd (zA (zu (rp) (dv 3) zg (zo _)) (zf (zj zi)) zk)
 (zd (zA (zu (rq) (dv 3) zg (zo _)) (zf (zj zi)) zk)
 (zf (zj zi))))),?_⟩
 walk_at "rd"
 exact⟨n,a,b,rfl,rz _ hR⟩
abbrev yQ:Stmt:=top 92
def v8:zh ["asked","way","one","other"] ["asked","way","one","other"] (defScope yQ):=by walk_at "sc"
def ua(T:Txt K mg A)(Ah:DOk P w K mg base 2 "row_shown" (mE))(AR:FOkX P w K mg base 7 "plus" (kX A))(AS:FOkX P w K mg base 7 "minus" (ba A))(AT:DOkX P w K mg base 6 "order_said" (ur A))(F:Fun K "reckoning_said" "reckoning_said" yQ f fd):FnOk P w K mg base (CX1 P w) 8 f fd ["asked","way","one","other"] (z9 K (kW A)):=by
 refine rn F v8 (by walk_at "ln") fun _ _ _ _ _ _ hr ds Q R h rz=>?_
 obtain⟨x,k,n,a,b,rfl,hn,hLa,hLb,la,lb,hw⟩:=h
 refine⟨_,(zd (zA (zu (yJ) (dv 0) zi (zo _)) (zf (zj (zl Ah (rom hr) rfl (zb (DF.de (zY AR (rom hr) rfl (zb (dv 1) (zb (dv 2) (zb (dv 3) ze))))) ze)))) zk)
 (zd (zA (zu (yJ) (dv 0) zi (zo _)) (zf (zj (zl Ah (rom hr) rfl (zb (DF.de (zY AS (rom hr) rfl (zb (dv 1) (zb (dv 2) (zb (dv 3) ze))))) ze)))) zk)
 (zd (zA (zu (yJ) (dv 0) zi (zo _)) (zf yb) zk)
 (zf (zj (zE AT (rom hr) rfl (zb (dv 1) (zb (dv 2) (zb (dv 3) ze))))))))),?_⟩
 rcases hw with ⟨c,ho,hR⟩|⟨rfl,rfl,rfl,rfl,rfl,q⟩
 ·unfold Tg at ho
  refine⟨_,rfl,_,_,rfl,rfl,_,rfl,?_⟩
  rw[x6]
  refine ifB (fun h=>?_) (fun h1=>?_)
  ·rw[if_pos (of_decide_eq_true h)]at ho;cases ho
  rw[if_neg (of_decide_eq_false h1)]at ho
  refine⟨_,rfl,_,_,rfl,rfl,_,rfl,?_⟩
  rw[x6]
  refine ifB (fun h=>?_) (fun h2=>?_)
  ·rw[if_pos (of_decide_eq_true h)]at ho
   split at ho
   ·rename_i hb
    cases ho
    exact⟨_,rfl,_,rfl,_,rfl,k,n,a,b,rfl,hn,hLa,hLb,la,lb,hb,rz _ hR⟩
   ·cases ho
  rw[if_neg (of_decide_eq_false h2)]at ho
  refine⟨_,rfl,_,_,rfl,rfl,_,rfl,?_⟩
  rw[x6]
  refine ifB (fun h=>?_) (fun h3=>?_)
  ·rw[if_pos (of_decide_eq_true h)]at ho;cases ho
  rw[if_neg (of_decide_eq_false h3)]at ho
  cases k<;>cases ho
  exact⟨_,rfl,_,rfl,_,rfl,n,a,b,rfl,rz _ hR⟩
 ·refine⟨_,rfl,_,_,rfl,rfl,_,rfl,ifT (by decide +kernel) ?_⟩
  exact⟨_,rfl,_,rfl,_,rfl,rfl,[0,0,1],rfl,by decide,by decide,q⟩
abbrev vN:Stmt:=top 84
def sc_row_read:zh ["way","text","row"] ["way","text"] (defScope vN):=by walk_at "sc"
def nN(T:Txt K mg A)(Af:DOkX P w K mg base 2 "whole_read" (uq A))(Ap:DOk P w K mg base 3 "is_writing" (bd A))(F:Fun K "row_read" "row_read" vN f fd):FnOk P w K mg base (CX1 P w) 4 f fd ["way","text"] (yd K (oZ A)):=by
 refine PP F sc_row_read (by walk_at "ln") fun _ _ _ _ _ _ hr ds Q R h rzh=>?_
 have rz:=fun C h=>(rzh C h).1
 obtain⟨k,n,x,rfl,hn,hx,hl,q,hR⟩:=h
 refine⟨_,(zd (zA (zu (yJ) (dv 1) zi (zo _)) (zf (yU (w9 ze))) zk)
 (zd (md (i:=2) rfl rfl rfl rfl (by decide +kernel) sc_row_read.nd rfl (Or.inl rfl) (DF.de (rR (dv 1) zi)) Af (rom hr) (fun _ _ _ _ _=>rfl))
 (zd (cw 2)
 (zd (zA (cr (wB (zW (zl Ap (rom hr) rfl (zb (dv 0) (zb (dv 2) ze)))))) (zf (ya rfl rfl T.LH T.LG zi)) zk)
 (zf (wC 2)))))),?_⟩
 refine⟨_,rfl,_,_,rfl,rfl,_,rfl,?_⟩
 rw[uT]
 refine ifB (fun h0=>?_) (fun h0=>?_)
 ·exact⟨rfl,q [] (m7 (of_decide_eq_true h0))⟩
 have h0:=of_decide_eq_false h0
 have hsl:=qI x "."
 refine⟨_,rfl,_,rfl,by omega,_,rfl,QA,_,fun i es=>∃vs:List Int,es=vs.map Dt.int∧((Txt.split x ".").take i).map wv=vs.map some,rfl,by rw[A'];omega,⟨[],rfl,rfl⟩,?_,?_⟩
 ·rintro i e es he ⟨vs,rfl,hv⟩
  have he:((Txt.split x ".").map Dt.str)[i]? = some e:=he
  rw[Bn]at he
  obtain⟨p,hp,rfl⟩:=Bw.mp he
  have hpm:=Bp hp
  have hpl:=(vg hpm).1
  refine⟨p,rfl,iF hx hpm,by omega,fun v hvp=>⟨vs++[v],rW vs v,?_⟩,fun hvp=>rzh _ (hR (i9 h0 hpm hvp))⟩
  rw[List.take_succ,hp,BI,hv,BI]
  show _++[wv p]=_
  rw[hvp]
  rfl
 ·rintro es ⟨vs,rfl,hv⟩
  rw[A',List.take_length]at hv
  have hvl:vs.length=(Txt.split x ".").length:=by
   have:=congrArg List.length hv
   rw[A',A']at this
   exact this.symm
  have hpt:pts wv x=vs.reverse.map some:=by
   unfold pts
   rw[List.map_reverse,hv,←List.map_reverse]
  refine⟨_,rfl,_,rfl,?_⟩
  rw[←List.map_reverse]
  have hrv:=i8 (k:=k) (n:=n) h0 hpt
  refine⟨_,rfl,_,rfl,k,n,vs.reverse,rfl,hn,by rw[Bz];omega,_,rfl,?_⟩
  cases hlg:uc k n vs.reverse with
  | true=>
   rw[hlg]at hrv
   refine ifF rfl ?_
   exact⟨_,rfl,q _ hrv⟩
  | false=>
   rw[hlg]at hrv
   refine ifT rfl ?_
   exact rz _ (hR hrv)
abbrev xo:Stmt:=top 93
def tK:zh ["words","way","writing"] ["words","way","writing"] (defScope xo):=by walk_at "sc"
def tS(T:Txt K mg A)(Av:DOk P w K mg base 5 "worth" (oY A))(AU:DOkX P w K mg base 8 "share_said" (vv A))(Af:DOkX P w K mg base 2 "whole_read" (uq A))(Ah:DOk P w K mg base 2 "row_shown" (mE))(AV:FOkX P w K mg base 7 "moved" (c_ A))(As:DOkX P w K mg base 6 "way_read" (rZ A))(AW:DOkX P w K mg base 8 "reckoning_said" (kW A))(Au:FOkX P w K mg base 4 "row_read" (oZ A))(F:Fun K "writing_said" "writing_said" xo f fd):FnOk P w K mg base (CX1 P w) 9 f fd ["words","way","writing"] (z9 K (mz A)):=by
 refine rn F tK (by walk_at "ln") fun _ _ _ _ _ _ hr ds Q R h rz=>?_
 obtain⟨a,b,c,d,k,n,r,rfl,hn,hL,hl,hd,hdl,hw⟩:=h
 refine⟨_,(zd (zA (zu (yJ) (zC (dv 0) zg (fun _ _=>rfl)) zi (zo _)) (zf yb) zk)
 (zd (zA (zu (yJ) (zC (dv 0) zg (fun _ _=>rfl)) zi (zo _)) (zf (zj (zE AU (rom hr) rfl (zb (dv 1) (zb (dv 2) (zb (zE Af (rom hr) rfl (zb (zC (dv 0) zg (fun _ _=>rfl)) ze)) ze)))))) zk)
 (zd (zA (zu (yJ) (zC (dv 0) zg (fun _ _=>rfl)) zi (zo _)) (zf (zj (zl Ah (rom hr) rfl (zb (DF.de (zY AV (rom hr) rfl (zb (dv 1) (zb (dv 2) (zb (zE As (rom hr) rfl (zb (zC (dv 0) zg (fun _ _=>rfl)) ze)) ze))))) ze)))) zk)
 (zf (zj (zE AW (rom hr) rfl (zb (zC (dv 0) zg (fun _ _=>rfl)) (zb (dv 1) (zb (dv 2) (zb (DF.de (zY Au (rom hr) rfl (zb (dv 1) (zb (zC (dv 0) zg (fun _ _=>rfl)) ze)))) ze)))))))))),?_⟩
 rcases hw with ⟨e,ho,hR⟩|⟨rfl,rfl,rfl,rfl,rfl,q⟩
 ·unfold qm at ho
  refine⟨_,rfl,_,_,_,rfl,rfl,rfl,_,_,rfl,rfl,_,rfl,?_⟩
  rw[x6]
  refine ifB (fun h=>?_) (fun h1=>?_)
  ·rw[if_pos (of_decide_eq_true h)]at ho;cases ho
  rw[if_neg (of_decide_eq_false h1)]at ho
  refine⟨_,rfl,_,_,_,rfl,rfl,rfl,_,_,rfl,rfl,_,rfl,?_⟩
  rw[x6]
  refine ifB (fun h=>?_) (fun h2=>?_)
  ·rw[if_pos (of_decide_eq_true h),←iH]at ho
   refine⟨_,rfl,_,rfl,_,rfl,_,_,_,rfl,rfl,rfl,d,rfl,hd,by omega,fun i e=>?_,fun e=>?_⟩
   ·rw[e]at ho
    refine⟨k,n,r,i,rfl,hn,hL,hl,fun z=>?_,fun z=>?_⟩
    ·subst z
     cases ho
     exact rz _ hR
    ·have hk:k.isP=false:=by cases k<;>first|rfl|exact absurd rfl z
     have ho:(if k.isP=true then some Rf.pairs else if i<1 then some Rf.nought else none)=some _:=ho
     rw[hk,if_neg Ba]at ho
     split at ho
     ·rename_i hi
      cases ho
      exact⟨hi,rz _ hR⟩
     ·cases ho
   ·rw[e]at ho
    cases ho
    exact rz _ hR
  rw[if_neg (of_decide_eq_false h2)]at ho
  refine⟨_,rfl,_,_,_,rfl,rfl,rfl,_,_,rfl,rfl,_,rfl,?_⟩
  rw[x6]
  refine ifB (fun h=>?_) (fun h3=>?_)
  ·rw[if_pos (of_decide_eq_true h)]at ho
   refine⟨_,rfl,_,rfl,_,rfl,_,_,_,rfl,rfl,rfl,d,rfl,hd,by omega,fun k' n' hk' e'=>?_,fun hb=>?_⟩
   ·obtain⟨m,rfl,_,_⟩:=xy hk'
    have ew:xM (tl d)=some (k',m):=by rw[e',yk];exact yr hk'
    rw[ew]at ho
    have ho:(if(k.isF||wX k' (ji k' (pF k n r)))=true then none else some Rf.number)=some _:=ho
    split at ho
    ·cases ho
    ·rename_i hh
     cases ho
     have hh:=(Bool.or_eq_false_iff).mp (B2.mpr hh)
     exact⟨k,n,r,k',m,rfl,(by cases k<;>first|rfl|cases hh.1),hn,hk',hL,hl,hh.2,rz _ hR⟩
   ·rw[sL hb]at ho
    cases ho
    exact rz _ hR
  rw[if_neg (of_decide_eq_false h3),←jv]at ho
  refine⟨_,rfl,_,_,_,rfl,rfl,rfl,_,rfl,_,rfl,_,rfl,_,rfl,_,_,_,rfl,rfl,rfl,k,n,d,rfl,hn,hd,by omega,fun r2 e2=>?_,fun e2=>?_⟩
  ·rw[e2]at ho
   have hr:=kn e2
   exact⟨a,k,n,r,r2,rfl,hn,hL,qM (by rw[←jv];exact e2),hl,by omega,.inl ⟨_,ho,rz _ hR⟩⟩
  ·rw[e2]at ho
   cases ho
   exact rz _ hR
 ·refine⟨_,rfl,_,_,_,rfl,rfl,rfl,_,_,rfl,rfl,_,rfl,ifF (by decide +kernel) ?_⟩
  refine⟨_,rfl,_,_,_,rfl,rfl,rfl,_,_,rfl,rfl,_,rfl,ifF (by decide +kernel) ?_⟩
  refine⟨_,rfl,_,_,_,rfl,rfl,rfl,_,_,rfl,rfl,_,rfl,ifF (by decide +kernel) ?_⟩
  have e1:rvv wv .falling ((1:Nat):Int) (Str.ofString "1")=some [1]:=by rw[jv];decide +kernel
  refine⟨_,rfl,_,_,_,rfl,rfl,rfl,_,rfl,_,rfl,_,rfl,_,rfl,_,_,_,rfl,rfl,rfl,.falling,((1:Nat):Int),_,rfl,hn,hd,by omega,fun r2 e2=>?_,fun e2=>?_⟩
  ·rw[e1]at e2
   cases e2
   exact⟨_,.falling,1,[0,1],[1],rfl,hn,hL,legB_iff.mp (by decide),by decide,by decide,.inr ⟨rfl,rfl,rfl,rfl,rfl,q⟩⟩
  ·rw[e1]at e2
   cases e2
abbrev mX:Stmt:=top 94
def sc_said:zh ["row","words","way"] ["row"] (defScope mX):=by walk_at "sc"
def af(T:Txt K mg A)(AX:FOkX P w K mg base 1 "words_of" (kT A))(As:DOkX P w K mg base 6 "way_read" (rZ A))(Ah:DOk P w K mg base 2 "row_shown" (mE))(Aq:FOkX P w K mg base 6 "written" (oX A))(AY:DOkX P w K mg base 3 "number_read" (kY A))(AZ:DOkX P w K mg base 9 "writing_said" (mz A))(Au:FOkX P w K mg base 4 "row_read" (oZ A))(F:Fun K "said" "said" mX f fd):FnOk P w K mg base (CX1 P w) 10 f fd ["row"] (z9 K (kf A)):=by
 refine rn F sc_said (by walk_at "ln") fun _ _ _ _ _ _ hr ds Q R h rz=>?_
 obtain⟨s,rfl,hs,hl,hw⟩:=h
 refine⟨_,(zd (zq (i:=1) sc_said.nd rfl (Or.inl rfl) (DF.de (zY AX (rom hr) rfl (zb (dv 0) ze))))
 (zd (zq (i:=2) sc_said.nd rfl (Or.inl rfl) (zE As (rom hr) rfl (zb (zC (dv 1) zg (fun _ _=>rfl)) ze)))
 (zd (zA (zu (yJ) (zC (dv 1) zg (fun _ _=>rfl)) zi (zo _)) (zf (zj (zl Ah (rom hr) rfl (zb (DF.de (zY Aq (rom hr) rfl (zb (dv 2) (zb (zE AY (rom hr) rfl (zb (zC (dv 1) zg (fun _ _=>rfl)) ze)) ze)))) ze)))) zk)
 (zf (zj (zE AZ (rom hr) rfl (zb (dv 1) (zb (dv 2) (zb (DF.de (zY Au (rom hr) rfl (zb (dv 2) (zb (zC (dv 1) zg (fun _ _=>rfl)) ze)))) ze))))))))),?_⟩
 have hm:=vf (x:=s) (y:=" ") (c:=32) (by decide +kernel) (by decide)
 have hmem:=fun p=>vg (x:=s) (y:=" ") (p:=p)
 have hro:=jw s
 have hpos:0<(Txt.split s " ").length:=List.length_pos_iff.mpr (sM s " ")
 refine⟨_,rfl,s,rfl,by omega,hpos,fun hok=>?_,fun hno=>?_⟩
 ·generalize Txt.split s " "=ws at *
  have hrow:=hro.mp hok
  have as:∀p∈ws,asc p∧p.length≤100:=fun p hp=>⟨fun c hc=>hs c ((hmem p hp).2 c hc),by have:=(hmem p hp).1;omega⟩
  rcases hw with ⟨cl,ho,hR⟩|⟨m,J,e,hm1,F,h0,hJ,q⟩|⟨e,q⟩
  ·unfold s9 at ho
   rw[if_pos hrow,←hm]at ho
   unfold pX at hrow
   rw[Bb,decide_eq_true_iff,←hm,A']at hrow
   obtain⟨a,b,c,hsh⟩:=iL hrow.2
   obtain⟨es,hes,hx⟩:∃es,ws=a::b::c::es∧((es=[]∧(tl a=tl ("write":Str)∨tl a=tl ("worth":Str)))∨(∃d,es=[d]∧tl a≠tl ("write":Str)∧tl a≠tl ("worth":Str))):=by
    rcases hsh with ⟨e,h⟩|⟨d,e,h⟩
    ·exact⟨[],e,.inl ⟨rfl,h⟩⟩
    ·exact⟨[d],e,.inr ⟨d,rfl,h⟩⟩
   subst hes
   obtain⟨a0,a1,a2⟩:atI ((a::b::c::es).map Dt.str) 0=some (.str a)∧atI ((a::b::c::es).map Dt.str) 1=some (.str b)∧atI ((a::b::c::es).map Dt.str) 2=some (.str c):=by
    rcases hx with ⟨rfl,_⟩|⟨d,rfl,_⟩<;>exact⟨rfl,rfl,rfl⟩
   obtain⟨sb,lb⟩:=as b (by simp)
   obtain⟨sc,lc⟩:=as c (by simp)
   have ho:ql (tl a::tl b::tl c::es.map tl)=some cl:=ho
   refine⟨_,rfl,_,_,_,rfl,rfl,a1,b,rfl,sb,by omega,fun k n hk e'=>?_,fun hb=>?_⟩
   ·obtain⟨m,rfl,_,_⟩:=xy hk
    have ew:xM (tl b)=some (k,m):=by rw[e',yk];exact yr hk
    rw[iN ew]at ho
    refine⟨_,rfl,_,_,_,rfl,rfl,a0,_,_,rfl,rfl,_,rfl,?_⟩
    rw[x6]
    refine ifB (fun h=>?_) (fun h=>?_)
    ·rw[if_pos (of_decide_eq_true h),←Oh]at ho
     refine⟨_,rfl,_,rfl,_,_,_,rfl,rfl,a2,c,rfl,sc,by omega,fun m' e2=>?_,fun e2=>?_⟩
     ·rw[e2]at ho
      have ho:(if wX k m'=true then none else some Rf.number)=some _:=ho
      split at ho
      ·cases ho
      ·rename_i hh
       cases ho
       exact⟨k,m,m',rfl,hk,.inr ⟨B2.mpr hh,rz _ hR⟩⟩
     ·rw[e2]at ho
      cases ho
      exact rz _ hR
    ·have h:=of_decide_eq_false h
     rw[if_neg h,←jv]at ho
     refine⟨_,rfl,_,rfl,_,rfl,_,rfl,_,_,_,rfl,rfl,a2,k,m,c,rfl,hk,sc,by omega,fun r e2=>?_,fun e2=>?_⟩
     ·rw[e2]at ho
      have ho:qm (tl a) k m r ((es.map tl).headD [])=some cl:=ho
      rcases hx with ⟨rfl,hh⟩|⟨d,rfl,hh⟩
      ·exfalso
       unfold qm at ho
       rw[if_pos (hh.resolve_left h)]at ho
       cases ho
      ·obtain⟨sd,ld⟩:=as d (by simp)
       have hr:=kn e2
       exact⟨a,b,c,d,k,m,r,rfl,hk,qM (by rw[←jv];exact e2),by omega,sd,ld,.inl ⟨cl,ho,rz _ hR⟩⟩
     ·rw[e2]at ho
      cases ho
      exact rz _ hR
   ·rw[VN (sL hb)]at ho
    cases ho
    exact rz _ hR
  ·rw[e]at hm
   obtain⟨a,b,c,rfl,ea,eb,ec⟩:=Mq hm
   obtain rfl:=ye ea
   obtain rfl:=ye eb
   obtain⟨sc,lc⟩:=as c (by simp)
   have hn:Kd.below.ok ((2:Nat):Int):=by unfold Kd.ok;decide
   refine⟨_,rfl,_,_,_,rfl,rfl,rfl,_,rfl,(as (Str.ofString "below2") (by simp)).1,by decide +kernel,fun k n hk e'=>?_,fun hb=>absurd two_good.1 (hb _ _ hn)⟩
   obtain⟨rfl,rfl⟩:=rK hn hk (two_good.1.symm.trans e')
   refine⟨_,rfl,_,_,_,rfl,rfl,rfl,_,_,rfl,rfl,_,rfl,ifT (by decide +kernel) ?_⟩
   have ev:nv c=some (.i (m:Int)):=by rw[Oh,ec];exact Og m hm1
   refine⟨_,rfl,_,rfl,_,_,_,rfl,rfl,rfl,c,rfl,sc,by omega,fun m' e2=>?_,fun e2=>by rw[ev]at e2;cases e2⟩
   rw[ev]at e2
   cases e2
   have ll:(wb (fgJ .below 2 [(m:Int)] J)).length≤900:=by
    have:=iT (fgJ .below 2 [(m:Int)] J)
    rw[kG]at this
    omega
   exact⟨.below,2,.i m,rfl,hk,.inl ⟨m,J,rfl,rfl,F,h0,hJ,_,rfl,by omega,Ow,q⟩⟩
  ·rw[e,br]at hm
   obtain⟨a,b,c,d,rfl,ea,eb,ec,ed⟩:=Mp hm
   obtain rfl:=ye ea
   obtain rfl:=ye eb
   obtain rfl:=ye ec
   obtain rfl:=ye ed
   have hn:Kd.falling.ok ((1:Nat):Int):=by unfold Kd.ok;decide
   refine⟨_,rfl,_,_,_,rfl,rfl,rfl,_,rfl,(as (Str.ofString "falling1") (by simp)).1,by decide +kernel,fun k n hk e'=>?_,fun hb=>absurd two_good.2 (hb _ _ hn)⟩
   obtain⟨rfl,rfl⟩:=rK hn hk (two_good.2.symm.trans e')
   refine⟨_,rfl,_,_,_,rfl,rfl,rfl,_,_,rfl,rfl,_,rfl,ifF (by decide +kernel) ?_⟩
   have e1:rvv wv .falling ((1:Nat):Int) (Str.ofString "1.0")=some [0,1]:=by rw[jv];decide +kernel
   refine⟨_,rfl,_,rfl,_,rfl,_,rfl,_,_,_,rfl,rfl,rfl,.falling,_,_,rfl,hn,(as (Str.ofString "1.0") (by simp)).1,by decide +kernel,fun r e2=>?_,fun e2=>by rw[e1]at e2;cases e2⟩
   rw[e1]at e2
   cases e2
   exact⟨_,_,_,_,.falling,1,[0,1],rfl,hn,legB_iff.mp (by decide),by decide,(as (Str.ofString "1") (by simp)).1,by decide +kernel,.inr ⟨rfl,rfl,rfl,rfl,rfl,q⟩⟩
 ·have hrow:pX (spl 32 (tl s))=false:=B2.mpr fun z=>hno (hro.mpr z)
  rcases hw with ⟨c,ho,hR⟩|hw
  ·unfold s9 at ho
   rw[hrow,if_neg Ba]at ho
   cases ho
   exact rz _ hR
  ·rw[VD hw]at hrow
   cases hrow
abbrev wk:Stmt:=top 98
def sc_law_no_row:zh ["_law_cell","_law_some"] ["_law_cell"] (defScope wk):=by walk_at "sc"
def qt(T:Txt K mg A)(F:Fun K "_law_no_row" "_law_no_row" wk f fd):FnOk P w K mg base CX0 1 f fd ["_law_cell"] (zw K (Um)):=by
 refine okD F sc_law_no_row (by walk_at "ln") fun _ _ _ _ _ _ hr ds Q h=>?_
 obtain⟨z,rfl,q⟩:=h
 refine⟨_,(zd (zq (i:=1) sc_law_no_row.nd rfl (Or.inl rfl) (zG (zb zi (zb zi (zb zi (zb zi (zb zi (zb zi (zb zi (zb zi ze))))))))))
 (zd (zq (i:=1) sc_law_no_row.nd rfl (Or.inl rfl) (zp y8 (dv 1) (zG (zb zi (zb zi (zb zi (zb zi (zb zi ze))))))))
 (zd (zq (i:=1) sc_law_no_row.nd rfl (Or.inl rfl) (zp y8 (dv 1) (zG (zb zi (zb zi (zb zi (zb zi (zb zi ze))))))))
 (zd (zq (i:=1) sc_law_no_row.nd rfl (Or.inl rfl) (zp y8 (dv 1) (zG (zb zi (zb zi (zb zi (zb zi (zb zi (zb zi ze)))))))))
 (zd (zq (i:=1) sc_law_no_row.nd rfl (Or.inl rfl) (zp y8 (dv 1) (zG (zb zi (zb zi (zb zi ze))))))
 (zf (zj (zC (dv 1) (zp xB (dv 0) zg) (fun _ _=>rfl))))))))),?_⟩
 refine⟨rfl,?_⟩
 refine⟨_,rfl,rfl,_,_,rfl,rfl,Bf rfl,?_⟩
 refine⟨_,rfl,rfl,_,_,rfl,rfl,Bf rfl,?_⟩
 refine⟨_,rfl,rfl,_,_,rfl,rfl,Bf rfl,?_⟩
 refine⟨_,rfl,rfl,_,_,rfl,rfl,Bf rfl,?_⟩
 refine⟨_,rfl,_,rfl,_,_,rfl,rfl,ph (by decide),?_⟩
 obtain⟨x,hx,e⟩:=rV (l:=nrR) (f:=Dt.str) (z:=z) (by decide)
 exact⟨_,_,_,rfl,rfl,e,q x hx⟩
abbrev xR:Stmt:=top 99
def sc_law_no_text:zh ["_law_base","_law_number","_law_some"] ["_law_base","_law_number"] (defScope xR):=by walk_at "sc"
def rg(T:Txt K mg A)(F:Fun K "_law_no_text" "_law_no_text" xR f fd):FnOk P w K mg base CX0 1 f fd ["_law_base","_law_number"] (xl K (jc ntR)):=by
 refine okF F sc_law_no_text (by walk_at "ln") fun _ _ _ _ _ _ hr ds Q h=>?_
 obtain⟨b,n,rfl,hb,hn,q⟩:=h
 refine⟨_,(zd (z8 (i:=2) sc_law_no_text.nd rfl (Or.inl rfl) (w9 (zb zi (zb (zH (zy (zF (dv 0) (zy (zF (dv 1) zN))))) (zb (zH (zy (zF (dv 0) (zy (zF (dv 1) zN))))) (zb zi ze))))))
 (xK 2 (zd (z8 (i:=2) sc_law_no_text.nd rfl (Or.inl rfl) (u5 (dv 2) (zG (zb (zH (zy (zF (dv 0) (zy (zF (dv 0) zN))))) (zb (zH (zy (zF (dv 0) (zy zN)))) (zb (zH (zy (zF (dv 0) (zy (zF (dv 0) zN))))) ze))))))
 (xK 2 (zd (z8 (i:=2) sc_law_no_text.nd rfl (Or.inl rfl) (u5 (dv 2) (zG (zb (zH (zy (zF (dv 0) (zy zN)))) (zb (zH (zy (zF (dv 0) (zy (zF (dv 0) zN))))) (zb (zH (zy (zF (dv 0) (zy zN)))) ze))))))
 (xK 2 (zd (z8 (i:=2) sc_law_no_text.nd rfl (Or.inl rfl) (u5 (dv 2) (zG (zb zi (zb zi (zb (zH (zy (zF (dv 0) (zy zN)))) (zb zi ze)))))))
 (xK 2 (zd (z8 (i:=2) sc_law_no_text.nd rfl (Or.inl rfl) (u5 (dv 2) (zG (zb zi (zb zi (zb zi (zb (zH (zy (zF (dv 0) (zy zN)))) ze)))))))
 (xK 2 (zd (z8 (i:=2) sc_law_no_text.nd rfl (Or.inl rfl) (u5 (dv 2) (zG (zb (zH (zy (zF (dv 0) (zy zN)))) (zb (QJ zi) (zb (zH (zy (zF (dv 0) (zy (zF (dv 1) zN))))) ze))))))
 (zd (w8 2 (zH (zy (zF (dv 0) (zy zN)))))
 (xK 2 (zd (z8 (i:=2) sc_law_no_text.nd rfl (Or.inl rfl) (u5 (dv 2) (zG (zb zi (zb zi (zb zi (zb zi ze)))))))
 (zf (wC 2)))))))))))))))),?_⟩
 have lb:=kB hb
 have ln:=qU (B0 hn (by decide))
 show OF _ _ _ [Sl.some (Dt.int b),Sl.some (Dt.int n),Sl.none]
 refine⟨_,rfl,b,rfl,lb,_,rfl,n,rfl,ln,_,rfl,b,rfl,lb,_,rfl,n,rfl,ln,rfl,_,rfl,?_⟩
 dsimp only[List.set_cons_succ,List.set_cons_zero,List.cons_append,List.nil_append]
 refine⟨_,rfl,_,rfl,_,rfl,b,rfl,lb,_,rfl,b,rfl,lb,_,rfl,b,rfl,lb,_,rfl,b,rfl,lb,_,rfl,b,rfl,lb,rfl,_,_,rfl,rfl,Bf rfl,_,rfl,?_⟩
 dsimp only[List.set_cons_succ,List.set_cons_zero,List.cons_append,List.nil_append]
 refine⟨_,rfl,_,rfl,_,rfl,b,rfl,lb,_,rfl,b,rfl,lb,_,rfl,b,rfl,lb,_,rfl,b,rfl,lb,rfl,_,_,rfl,rfl,Bf rfl,_,rfl,?_⟩
 dsimp only[List.set_cons_succ,List.set_cons_zero,List.cons_append,List.nil_append]
 refine⟨_,rfl,_,rfl,_,rfl,b,rfl,lb,rfl,_,_,rfl,rfl,Bf rfl,_,rfl,?_⟩
 dsimp only[List.set_cons_succ,List.set_cons_zero,List.cons_append,List.nil_append]
 refine⟨_,rfl,_,rfl,_,rfl,b,rfl,lb,rfl,_,_,rfl,rfl,Bf rfl,_,rfl,?_⟩
 dsimp only[List.set_cons_succ,List.set_cons_zero,List.cons_append,List.nil_append]
 refine⟨_,rfl,_,rfl,_,rfl,b,rfl,lb,_,rfl,b,rfl,lb,_,rfl,n,rfl,ln,rfl,_,_,rfl,rfl,Bf rfl,_,rfl,?_⟩
 dsimp only[List.set_cons_succ,List.set_cons_zero,List.cons_append,List.nil_append]
 refine⟨_,rfl,_,rfl,b,rfl,lb,Bf rfl,?_⟩
 dsimp only[List.set_cons_succ,List.set_cons_zero,List.cons_append,List.nil_append]
 refine⟨_,rfl,_,rfl,rfl,_,_,rfl,rfl,Bf rfl,_,rfl,?_⟩
 dsimp only[List.set_cons_succ,List.set_cons_zero,List.cons_append,List.nil_append]
 exact⟨_,rfl,q⟩
abbrev y2:Stmt:=top 100
def sc_law_no_number:zh ["_law_base","_law_number","_law_some"] ["_law_base","_law_number"] (defScope y2):=by walk_at "sc"
def uN(T:Txt K mg A)(F:Fun K "_law_no_number" "_law_no_number" y2 f fd):FnOk P w K mg base CX0 1 f fd ["_law_base","_law_number"] (zw K (jc nnR)):=by
 refine okD F sc_law_no_number (by walk_at "ln") fun _ _ _ _ _ _ hr ds Q h=>?_
 obtain⟨b,n,rfl,hb,hn,q⟩:=h
 refine⟨_,(zd (zq (i:=2) sc_law_no_number.nd rfl (Or.inl rfl) (zG (zb (zH (zy (zF (dv 0) (zy (zF (dv 1) zN))))) (zb (zH (zy (zF (dv 0) (zy (zF (dv 1) (zy zN)))))) (zb (zH (zy (zF (dv 1) zN))) ze)))))
 (zd (zq (i:=2) sc_law_no_number.nd rfl (Or.inl rfl) (zp y8 (dv 2) (zG (zb (zH (zy (zF (dv 0) (zy (zF (dv 1) zN))))) (zb (zH (zy (zF (dv 1) zN))) (zb (zH (zy (zF (dv 1) (zy zN)))) ze))))))
 (zd (zq (i:=2) sc_law_no_number.nd rfl (Or.inl rfl) (zp y8 (dv 2) (zG (zb zi (zb (zH (zy (zF (dv 0) (zy zN)))) (zb zi ze))))))
 (zf (zj (zp y8 (dv 2) (zG (zb zi (zb zi (zb zi ze)))))))))),?_⟩
 have lb:=kB hb
 have ln:=qU (B0 hn (by decide))
 refine⟨_,rfl,b,rfl,lb,_,rfl,n,rfl,ln,_,rfl,b,rfl,lb,_,rfl,n,rfl,ln,_,rfl,n,rfl,ln,rfl,?_⟩
 refine⟨_,rfl,_,rfl,b,rfl,lb,_,rfl,n,rfl,ln,_,rfl,n,rfl,ln,_,rfl,n,rfl,ln,rfl,_,_,rfl,rfl,Bf rfl,?_⟩
 refine⟨_,rfl,_,rfl,b,rfl,lb,rfl,_,_,rfl,rfl,Bf rfl,?_⟩
 exact⟨_,rfl,rfl,_,_,rfl,rfl,Bf rfl,q⟩
abbrev xq:Stmt:=top 101
def sc_law_too_less:zh ["_law_base","_law_some"] ["_law_base"] (defScope xq):=by walk_at "sc"
def tU(T:Txt K mg A)(F:Fun K "_law_too_less" "_law_too_less" xq f fd):FnOk P w K mg base CX0 1 f fd ["_law_base"] (zw K (Uk)):=by
 refine okD F sc_law_too_less (by walk_at "ln") fun _ _ _ _ _ _ hr ds Q h=>?_
 obtain⟨b,rfl,hb,q⟩:=h
 refine⟨_,(zd (zq (i:=1) sc_law_too_less.nd rfl (Or.inl rfl) (zG (zb (zH (zy (zF (dv 0) (zy zN)))) (zb zi (zb (zH (zy (zF (dv 0) (zy zN)))) (zb zi ze))))))
 (zf (zj (zp y8 (dv 1) (zG (zb zi (zb (zH (zy (zF (dv 0) (zy zN)))) (zb zi ze)))))))),?_⟩
 have lb:=kB hb
 refine⟨_,rfl,b,rfl,lb,_,rfl,b,rfl,lb,rfl,?_⟩
 exact⟨_,rfl,_,rfl,b,rfl,lb,rfl,_,_,rfl,rfl,Bf rfl,q⟩
abbrev xr:Stmt:=top 102
def sc_law_of_pairs:zh ["_law_base","_law_number","_law_some"] ["_law_base","_law_number"] (defScope xr):=by walk_at "sc"
def tV(T:Txt K mg A)(F:Fun K "_law_of_pairs" "_law_of_pairs" xr f fd):FnOk P w K mg base CX0 1 f fd ["_law_base","_law_number"] (zw K (Ul)):=by
 refine okD F sc_law_of_pairs (by walk_at "ln") fun _ _ _ _ _ _ hr ds Q h=>?_
 obtain⟨b,n,rfl,hb,hn,q⟩:=h
 refine⟨_,(zd (zq (i:=2) sc_law_of_pairs.nd rfl (Or.inl rfl) (zG (zb (zO (zb zi (zb zi ze))) (zb (zO (zb zi (zb zi ze))) (zb (zO (zb (zH (zy (zF (dv 1) zN))) (zb zi ze))) ze)))))
 (zd (zq (i:=2) sc_law_of_pairs.nd rfl (Or.inl rfl) (zp y8 (dv 2) (zG (zb (zO (zb (zH (zy (zF (dv 0) (zy zN)))) (zb zi ze))) (zb (zO (zb (zH (zy (zF (dv 0) (zy (zF (dv 1) zN))))) (zb zi ze))) ze)))))
 (zd (zq (i:=2) sc_law_of_pairs.nd rfl (Or.inl rfl) (zp y8 (dv 2) (zG (zb (zO (zb zi (zb zi ze))) (zb (zO (zb (zH (zy (zF (dv 1) zN))) (zb zi ze))) ze)))))
 (zf (zj (zp y8 (dv 2) (zG (zb (zO (zb zi (zb zi ze))) ze)))))))),?_⟩
 have lb:=kB hb
 have ln:=qU (B0 hn (by decide))
 refine⟨rfl,rfl,_,rfl,n,rfl,ln,rfl,rfl,?_⟩
 refine⟨_,rfl,_,rfl,b,rfl,lb,rfl,_,rfl,b,rfl,lb,_,rfl,n,rfl,ln,rfl,rfl,_,_,rfl,rfl,Bf rfl,?_⟩
 refine⟨_,rfl,rfl,_,rfl,n,rfl,ln,rfl,rfl,_,_,rfl,rfl,Bf rfl,?_⟩
 exact⟨_,rfl,rfl,rfl,_,_,rfl,rfl,Bf rfl,q⟩
abbrev uC:Stmt:=top 103
def sc_law_row:zh ["_law_cell","_law_base","_law_number","_law_pick","_law_some"] ["_law_cell"] (defScope uC):=by walk_at "sc"
def lu(T:Txt K mg A)(A0:DOk P w K mg base 1 "_law_no_row" (Um))(A2:FOk P w K mg base 1 "_law_no_text" (jc ntR))(A3:DOk P w K mg base 1 "_law_no_number" (jc nnR))(A4:DOk P w K mg base 1 "_law_too_less" (Uk))(A5:DOk P w K mg base 1 "_law_of_pairs" (Ul))(F:Fun K "_law_row" "_law_row" uC f fd):FnOk P w K mg base CX0 2 f fd ["_law_cell"] (zw K (k_)):=by
 refine okD F sc_law_row (by walk_at "ln") fun _ _ _ _ _ _ hr ds Q h=>?_
 obtain⟨z,rfl,h0,h1,q⟩:=h
 refine⟨_,(zd (zq (i:=1) sc_law_row.nd rfl (Or.inl rfl) (zp yY zg (zp xB (zp uR (dv 0) zg) zg)))
 (zd (zq (i:=2) sc_law_row.nd rfl (Or.inl rfl) (zp yY zg (zp xB (zp uR (dv 0) zg) (zp ky zg zg))))
 (zd (zq (i:=3) sc_law_row.nd rfl (Or.inl rfl) (zp uR (dv 0) zg))
 (zd (zA (zu (vR hr) (zp xB (dv 0) zg) zg (zo _)) (zf (zj (zO (zb (zl A0 (rom hr) rfl (zb (dv 3) ze)) (zb zi ze))))) zk)
 (zd (zA (zu (vR hr) (zp xB (dv 0) zg) zg (zo _)) (zd (zq (i:=4) sc_law_row.nd rfl (Or.inl rfl) (DF.de (sF A2 (rom hr) rfl (zb (dv 1) (zb (dv 2) ze)))))
 (zf (zj (zO (zb (zC (dv 4) (zp xB (dv 3) (yq rfl T.len (dv 4))) (fun _ _=>rfl)) (zb zi ze)))))) zk)
 (zd (zA (zu (vR hr) (zp xB (dv 0) zg) zg (zo _)) (zd (zq (i:=4) sc_law_row.nd rfl (Or.inl rfl) (zl A3 (rom hr) rfl (zb (dv 1) (zb (dv 2) ze))))
 (zf (zj (zO (zb (zC (dv 4) (zp xB (dv 3) (yq rfl T.len (dv 4))) (fun _ _=>rfl)) (zb zi ze)))))) zk)
 (zd (zA (zu (vR hr) (zp xB (dv 0) zg) zg (zo _)) (zd (zq (i:=4) sc_law_row.nd rfl (Or.inl rfl) (zl A4 (rom hr) rfl (zb (dv 1) ze)))
 (zf (zj (zO (zb (zC (dv 4) (zp xB (dv 3) (yq rfl T.len (dv 4))) (fun _ _=>rfl)) (zb zi ze)))))) zk)
 (zd (zq (i:=4) sc_law_row.nd rfl (Or.inl rfl) (zl A5 (rom hr) rfl (zb (dv 1) (zb (dv 2) ze))))
 (zf (zj (zC (dv 4) (zp xB (dv 3) (yq rfl T.len (dv 4))) (fun _ _=>rfl)))))))))))),?_⟩
 walk_at "rd"
 have e5:=Ov h0 5 51
 have e7:=Ov h0 7 (10^30)
 have b1:10+z.toNat/5%51≤60:=by have:=Nat.mod_lt (z.toNat/5) (show 0<51 by decide);omega
 have n1:1+z.toNat/7%10^30<10^31:=BV (Nat.add_le_add_left (Nat.le_of_lt (Nat.mod_lt _ (by decide))) 1) (by decide)
 have eb:(10:Int)+(z.fdiv 5).fmod 51=((10+z.toNat/5%51:Nat):Int):=by rw[show((5:Int))=((5:Nat):Int) from rfl,show((51:Int))=((51:Nat):Int) from rfl,e5];omega
 have en:(1:Int)+(z.fdiv 7).fmod (10^Int.toNat 30)=((1+z.toNat/7%10^30:Nat):Int):=by rw[show((7:Int))=((7:Nat):Int) from rfl,show(10:Int)^Int.toNat 30=((10^30:Nat):Int) by decide,e7,Int.natCast_add];rfl
 dsimp only
 rw[eb,en]
 have ref:=cZ (b:=10+z.toNat/5%51) (n:=1+z.toNat/7%10^30) (by omega) b1 (by omega) n1
 have re1:=cZ (b:=10+z.toNat/5%51) (n:=1) (by omega) b1 (by omega) (by decide)
 generalize 10 + z.toNat/5%51=b at *
 generalize 1 + z.toNat/7%10^30=n at *
 refine ifB (fun h=>?_) (fun h=>?_)
 ·exact⟨_,rfl,z.fdiv 255,rfl,fun s hs=>⟨rfl,q s .row (R_ s hs)⟩⟩
 walk_at "rd"
 refine ifB (fun h=>?_) (fun h=>?_)
 ·refine⟨_,rfl,_,rfl,b,n,rfl,b1,n1,?_⟩
  obtain⟨x,hx,e⟩:=rV (l:=ntR) (f:=fun r=>Dt.str (r.str b n)) (z:=z.fdiv 255) (by decide)
  exact⟨_,rfl,_,rfl,_,rfl,_,rfl,_,_,rfl,rfl,ph (by rw[List.length_map];decide),_,_,_,rfl,rfl,e,rfl,q _ .text (ref (x,.text) (by unfold bnR;simp[hx]))⟩
 walk_at "rd"
 refine ifB (fun h=>?_) (fun h=>?_)
 ·refine⟨_,rfl,_,rfl,b,n,rfl,b1,n1,?_⟩
  obtain⟨x,hx,e⟩:=rV (l:=nnR) (f:=fun r=>Dt.str (r.str b n)) (z:=z.fdiv 255) (by decide)
  exact⟨_,rfl,_,rfl,_,rfl,_,rfl,_,_,rfl,rfl,ph (by rw[List.length_map];decide),_,_,_,rfl,rfl,e,rfl,q _ .number (ref (x,.number) (by unfold bnR;simp[hx]))⟩
 walk_at "rd"
 refine ifB (fun h=>?_) (fun h=>?_)
 ·refine⟨_,rfl,b,rfl,b1,?_⟩
  obtain⟨x,hx,e⟩:=rV (l:=tlR) (f:=fun r=>Dt.str (r.str b 1)) (z:=z.fdiv 255) (by decide)
  exact⟨_,rfl,_,rfl,_,rfl,_,rfl,_,_,rfl,rfl,ph (by rw[List.length_map];decide),_,_,_,rfl,rfl,e,rfl,q _ .less (re1 (x,.less) (by unfold bnR;simp[hx]))⟩
 refine⟨_,rfl,_,rfl,b,n,rfl,b1,n1,?_⟩
 obtain⟨x,hx,e⟩:=rV (l:=opR) (f:=fun p=>Dt.tup [Dt.str (p.1.str b n),Dt.str p.2.nam]) (z:=z.fdiv 255) (by decide)
 exact⟨_,rfl,_,rfl,_,rfl,_,rfl,_,_,rfl,rfl,ph (by rw[List.length_map];decide),_,_,_,rfl,rfl,e,q _ _ (ref x (by unfold bnR;simp[hx]))⟩
abbrev xQ:Stmt:=top 97
def sc_law_refusal:zh ["_law_row_here","_law_kinds","e"] ["_law_row_here"] (defScope xQ):=by walk_at "sc"
def rd(T:Txt K mg A)(Al:DOkX P w K mg base 10 "said" (kf A))(F:Fun K "_law_refusal" "_law_refusal" xQ f fd):FnOk P w K mg base CX0 11 f fd ["_law_row_here"] (zw K (ja)):=by
 refine okD F sc_law_refusal (by walk_at "ln") fun _ _ _ _ _ _ hr ds Q h=>?_
 obtain⟨s,c,rfl,hs,q⟩:=h
 refine⟨_,(zd (zq (i:=1) sc_law_refusal.nd rfl (Or.inl rfl) (zG ze))
 (zd (cv (j:=2) rfl rfl sc_law_refusal.nd rfl rfl Al (rom hr) rfl (zb (dv 0) ze) (fun _=>(zd (zq (i:=1) sc_law_refusal.nd rfl (Or.inl rfl) (zG (zb (ir (K:=K) rfl T.isinstance T.n_ValueError (dv 2)) (zb (yf (K:=K) rfl T.isinstance T.KJ (dv 2)) (zb (yf (K:=K) rfl T.isinstance T.LH (dv 2)) (zb (yf (K:=K) rfl T.isinstance T.KK (dv 2)) ze))))))
 (zd (zq (i:=1) sc_law_refusal.nd rfl (Or.inl rfl) (zp y8 (dv 1) (zG (zb (yf (K:=K) rfl T.isinstance T.Kj (dv 2)) (zb (yf (K:=K) rfl T.isinstance T.Kk (dv 2)) (zb (yf (K:=K) rfl T.isinstance T.KL (dv 2)) ze))))))
 (zd (zq (i:=1) sc_law_refusal.nd rfl (Or.inl rfl) (zp y8 (dv 1) (zG (zb (yf (K:=K) rfl T.isinstance T.Kh (dv 2)) (zb (yf (K:=K) rfl T.isinstance T.K6 (dv 2)) (zb (yf (K:=K) rfl T.isinstance T.K7 (dv 2)) ze))))))
 (zf (zq (i:=1) sc_law_refusal.nd rfl (Or.inl rfl) (zp y8 (dv 1) (zG (zb (yf (K:=K) rfl T.isinstance T.K8 (dv 2)) (zb (yf (K:=K) rfl T.isinstance T.K9 (dv 2)) (zb (yf (K:=K) rfl T.isinstance T.K_ (dv 2)) ze))))))))))) rfl T.K5)
 (zf (zj (dv 1))))),?_⟩
 have hc:c.ix<13:=by cases c<;>decide
 have k:=fun j hj=>(T.kx c.ix j hc hj).1
 have k1:PySem.W.exmOne K (.ref (A.cls c)) (.ref A.OddError)=some true:=by
  have:=(T.kx c.ix 1 hc (by decide)).2
  rw[show(.ref (A.cls c):Value)=.ref (A.x c.ix) from rfl,this]
  cases c<;>rfl
 have ix:=MA T c
 refine⟨rfl,_,rfl,s,rfl,hs.2.1,hs.2.2,.inl ⟨c,hs.1,k1,?_⟩⟩
 refine⟨_,rfl,_,_,rfl,ix,T.kv _ hc,_,rfl,_,_,rfl,ix,k 2 (by decide),_,rfl,_,_,rfl,ix,k 3 (by decide),_,rfl,_,_,rfl,ix,k 4 (by decide),rfl,?_⟩
 refine⟨_,rfl,_,rfl,_,_,rfl,ix,k 5 (by decide),_,rfl,_,_,rfl,ix,k 6 (by decide),_,rfl,_,_,rfl,ix,k 7 (by decide),rfl,_,_,rfl,rfl,by show(4:Nat)+3≤100000;decide,?_⟩
 refine⟨_,rfl,_,rfl,_,_,rfl,ix,k 0 (by decide),_,rfl,_,_,rfl,ix,k 8 (by decide),_,rfl,_,_,rfl,ix,k 9 (by decide),rfl,_,_,rfl,rfl,by show(7:Nat)+3≤100000;decide,?_⟩
 refine⟨_,rfl,_,rfl,_,_,rfl,ix,k 10 (by decide),_,rfl,_,_,rfl,ix,k 11 (by decide),_,rfl,_,_,rfl,ix,k 12 (by decide),rfl,_,_,rfl,rfl,by show(10:Nat)+3≤100000;decide,?_⟩
 exact⟨_,rfl,q⟩
abbrev vi:Stmt:=top 104
def sc_law_due:zh ["_law_name","_law_names"] ["_law_name"] (defScope vi):=by walk_at "sc"
def lv(T:Txt K mg A)(F:Fun K "_law_due" "_law_due" vi f fd):FnOk P w K mg base CX0 1 f fd ["_law_name"] (zw K (bc)):=by
 refine okD F sc_law_due (by walk_at "ln") fun _ _ _ _ _ _ hr ds Q h=>?_
 obtain⟨c,rfl,q⟩:=h
 refine⟨_,(zd (zq (i:=1) sc_law_due.nd rfl (Or.inl rfl) (zG (zb zi (zb zi (zb zi (zb zi (zb zi (zb zi (zb zi (zb zi (zb zi ze)))))))))))
 (zf (zj (zp y8 (zG (zb vE ze)) (DF.de (Uf (ul (osc:=defScope vi) (N0:=["_law_name","_law_names"]) (bs:=["_law_other"]) (caps:=["_law_name"]) (js:=[0]) rfl (by decide +kernel) rfl rfl rfl (kJ (zp y8 (dv 1) (zG (zb zi (zb zi (zb zi ze)))))) (fun _ _ _ _ _=>(z4 (i:=0) (show List.Nodup [("_law_other":Str),("_law_name":Str)] by decide +kernel) rfl (Or.inl (lookup_relabel_local rfl)) (.inl rfl))) sy (fun _ _ _ _ _=>oM) (fun _ _ _ _ _=>(u6 (vR hr) (dv 1) (dv 0) (zo _)))))))))),?_⟩
 walk_at "rd"
 refine⟨Bf rfl,?_⟩
 refine⟨dueN.map Dt.str,fun i es=>es=(dueN.take i).map fun y=>Dt.bl (c.nam==y),rfl,Bf rfl,rfl,?_,?_⟩
 ·rintro i e es he rfl
  rw[Bn]at he
  obtain⟨y,hy,rfl⟩:=Bw.mp he
  refine⟨_,rfl,_,rfl,rfl,rfl,?_⟩
  show _++[_]=List.map (fun y=>Dt.bl (c.nam==y)) (dueN.take (i+1))
  rw[List.take_succ,hy,BI,oF]
  rfl
 ·rintro es rfl
  refine⟨_,_,rfl,rfl,by rw[A'];exact Bf rfl,?_⟩
  refine Mf q ?_
  have e:dueN.map (fun y=>c.nam==y)=thL c.ix:=by cases c<;>decide +kernel
  have e2:=congrArg (List.map Dt.bl) e
  rw[List.map_map]at e2
  show Dt.lst (Dt.bl true::(dueN.map fun y=>Dt.bl (c.nam==y)))=_
  rw[show(dueN.map fun y=>Dt.bl (c.nam==y))=dueN.map (Dt.bl∘fun y=>c.nam==y) from rfl,e2]
  rfl
abbrev sV:Stmt:=top 105
def sc_law:zh ["_law_script","_law_number","_law_ahead","_law_cell","_law_row_here","_law_name"] ["_law_script"] (defScope sV):=by walk_at "sc"
def Tm(T:Txt K mg A)(A6:DOk P w K mg base 1 "_law_cell_at" (bg))(Al:DOkX P w K mg base 10 "said" (kf A))(A7:DOk P w K mg base 2 "_law_row" (k_))(A8:DOk P w K mg base 11 "_law_refusal" (ja))(A9:DOk P w K mg base 1 "_law_due" (bc))(F:Fun K "law" "law" sV f fd):FnOk P w K mg base CX0 12 f fd ["_law_script"] (zw K (jd)):=by
 refine okD F sc_law (by walk_at "ln") fun _ _ _ _ _ _ hr ds Q h=>?_
 obtain⟨ns,rfl,hl,q⟩:=h
 refine⟨_,(zd (zq (i:=1) sc_law.nd rfl (Or.inl rfl) (zp xB (zl A6 (rom hr) rfl (zb (dv 0) (zb zg ze))) (zp ky zg zg)))
 (zd (zq (i:=2) sc_law.nd rfl (Or.inl rfl) (zG (zb (zE Al (rom hr) rfl (zb (zH (zy (zF (dv 1) zN))) ze)) (zb (zE Al (rom hr) rfl (zb zi ze)) ze))))
 (zd (lU (j:=3) rfl sc_law.nd rfl (Or.inl rfl) PassesOwn.never (cG (dv 0) oI (oH zg)) (zd (Qx (i:=4) (j:=5) rfl sc_law.nd rfl rfl (Or.inl rfl) (Or.inl rfl) (zl A7 (rom hr) rfl (zb (zp xB (dv 3) (zp ky zg zg)) ze)))
 (zf (zA (zu (ak hr) (zl A8 (rom hr) rfl (zb (dv 4) ze)) (zl A9 (rom hr) rfl (zb (dv 5) ze)) (zo _)) (zf (zj vE)) zk))))
 (zf (zj (u7 (u6 (vR hr) (dv 2) (zG (zb (zE Al (rom hr) rfl (zb (zH (zy (zF (dv 1) zN))) ze)) (zb (zE Al (rom hr) rfl (zb zi ze)) ze))) (zo _)) (oK (u6 (yJ) (zC (dv 2) zg (fun _ _=>rfl)) zi (zo _))))))))),?_⟩
 refine⟨_,rfl,ns,0,rfl,Int.le_refl _,fun z=>?_⟩
 have p40:(10:Int)^Int.toNat 40=((10^40:Nat):Int):=by decide
 have f0:∀z:Int,0≤z.fmod ((10^40:Nat):Int)∧z.fmod ((10^40:Nat):Int)<((10^40:Nat):Int):=fun z=>⟨Int.fmod_nonneg_of_pos z (by decide),Int.fmod_lt_of_pos z (by decide)⟩
 obtain⟨m,em,hm⟩:∃m:Nat,z.fmod ((10^40:Nat):Int)=m∧m<10^40:=⟨(z.fmod ((10^40:Nat):Int)).toNat,by have:=f0 z;omega,by have:=f0 z;omega⟩
 obtain⟨J,hJ,F,h0,a1,a2,sp⟩:=l9 hm
 obtain⟨b1,b2,b3⟩:=jz
 have lm:((m:Int)).natAbs.log2<1000:=qU (B0 hm (by decide))
 walk_at "rd"
 dsimp only
 rw[p40,em]
 refine⟨lm,_,rfl,a1,a2,.inr (.inl ⟨m,J,sp,hm,F,h0,hJ,?_⟩)⟩
 refine⟨_,rfl,b1,b2,.inr (.inr ⟨rfl,rfl,?_⟩)⟩
 generalize ey:rsh (wb (fgJ .below 2 [(m:Int)] J))=y
 refine⟨_,rfl,_,rfl,_,rfl,_,fun i ρ=>∃v3 v4 v5,ρ=[.some (.scr ns),.some (.int m),.some (.lst [.str y,.str (rsh [0,0,1])]),v3,v4,v5],rfl,⟨_,_,_,rfl⟩,?_,?_⟩
 ·rintro i e ρ' he ⟨v3,v4,v5,rfl⟩
  obtain⟨c,rfl⟩:=dE (Vq (Bp he))
  refine⟨_,rfl,_,_,rfl,rfl,Ue (by decide),_,_,rfl,rfl,(by rw[p40];show((10^40:Nat):Int)≠0;decide),?_⟩
  dsimp only
  rw[p40]
  refine⟨_,rfl,(f0 c).1,(f0 c).2,fun s cl hsc=>⟨_,_,rfl,?_⟩⟩
  refine⟨_,rfl,s,cl,rfl,hsc,_,rfl,cl,rfl,rfl,rfl,_,rfl,ifF (nT (ma 40 rfl)) ⟨_,_,_,rfl⟩⟩
 ·rintro ρ' ⟨v3,v4,v5,rfl⟩
  refine⟨_,rfl,_,rfl,m,rfl,lm,_,rfl,a1,a2,.inr (.inl ⟨m,J,sp,hm,F,h0,hJ,?_⟩)⟩
  refine⟨_,rfl,b1,b2,.inr (.inr ⟨rfl,rfl,rfl,rfl,?_⟩)⟩
  rw[ey,ma 40 rfl]
  refine⟨_,rfl,ifT rfl ?_⟩
  refine⟨_,rfl,_,_,_,rfl,rfl,rfl,_,_,rfl,rfl,?_⟩
  rw[b3]
  exact q
end
def BA(n q:Str)(st:Stmt)(ps:List Str)(us:List Value):Prop:=∀(kV doc pm:Value)(an:Option Addr)(cdv ct:Value),bindArgs (PySem.W.fnOf n q (defArgs st) (defBody st) (defScope st) .none kV doc pm an cdv ct) ⟨us,[]⟩=pure (ps.zip us)
def BZ(n q:Str)(st:Stmt)(ps:List Str):Prop:=∀us:List Value,us.length=ps.length→BA n q st ps us
def bz1{n q:Str}{st:Stmt}{ps:List Str}(hl:ps.length=1:=by rfl)(h:∀u0:Value,BA n q st ps [u0]:=by exact fun _ _ _ _ _ _ _=>rfl):BZ n q st ps:=fun us e=>match us,e.trans hl with | [_],_=>h _
def bz2{n q:Str}{st:Stmt}{ps:List Str}(hl:ps.length=2:=by rfl)(h:∀u0 u1:Value,BA n q st ps [u0,u1]:=by exact fun _ _ _ _ _ _ _ _=>rfl):BZ n q st ps:=fun us e=>match us,e.trans hl with | [_,_],_=>h _ _
def bz3{n q:Str}{st:Stmt}{ps:List Str}(hl:ps.length=3:=by rfl)(h:∀u0 u1 u2:Value,BA n q st ps [u0,u1,u2]:=by exact fun _ _ _ _ _ _ _ _ _=>rfl):BZ n q st ps:=fun us e=>match us,e.trans hl with | [_,_,_],_=>h _ _ _
def bz4{n q:Str}{st:Stmt}{ps:List Str}(hl:ps.length=4:=by rfl)(h:∀u0 u1 u2 u3:Value,BA n q st ps [u0,u1,u2,u3]:=by exact fun _ _ _ _ _ _ _ _ _ _=>rfl):BZ n q st ps:=fun us e=>match us,e.trans hl with | [_,_,_,_],_=>h _ _ _ _
section
variable(K:A_)
def FX(n q:Str)(st:Stmt)(f:Addr):Prop:=∃oc od kV dc pm an cd ct sl,K.lookup f=some ⟨oc,od,.func (PySem.W.fnOf n q (defArgs st) (defBody st) (defScope st) .none kV dc pm an cd ct),sl⟩∧PySem.W.codeIn K cd q=true∧PySem.W.keepIn K (.ref f)=true
def FD(n:Str)(st:Stmt)(f:Addr):Prop:=PySem.W.nsIn K mainGlobals n=some (some (.ref f))∧FX K n n st f
def FE(g n:Str)(st:Stmt)(f:Addr):Prop:=PySem.W.nsIn K mainGlobals g=some (some (.ref f))∧FX K n n st f
def FM(n q:Str)(st:Stmt)(f:Addr):Prop:=PySem.W.isFn K (.ref f)=true∧FX K n q st f
def Fi(C:Addr)(n:Str)(f:Addr):Prop:=PySem.W.findIn K (.ref C) n=some (some (.ref f))
def Ki(C D:Addr)(b:Bool):Prop:=PySem.W.kitOne K (.ref C) (.ref D)=some b
def Gc(n:Str)(C:Addr):Prop:=PySem.W.nsIn K mainGlobals n=some (some (.ref C))
def Gs(n y:Str)(t:Tok):Prop:=PySem.W.nsIn K mainGlobals n=some (some (.str y t))
def Zn(n:Str):Prop:=PySem.W.nsIn K mainGlobals n=some none
structure ClR(C:Addr)(x:Str):Prop where
 cls:Cls K C
 mks:PySem.W.makesIn K C=true
 kc:PySem.W.keepIn K (.ref C)=true
 na:PySem.W.findIn K (.ref C) x=some none
structure IR(C:Addr):Prop where
 ia:PySem.W.findIn K (.ref C) "__class__"=some (some (.builtin "object.__class__"))
 im:PySem.W.mroIn K C (.type "object")=some true
variable{K}{n q:Str}{st:Stmt}{f:Addr}
def FX.mk{oc od kV dc pm an cd ct sl}(l:K.lookup f=some ⟨oc,od,.func (PySem.W.fnOf n q (defArgs st) (defBody st) (defScope st) .none kV dc pm an cd ct),sl⟩)(c:PySem.W.codeIn K cd q=true)(k:PySem.W.keepIn K (.ref f)=true):FX K n q st f:=⟨_,_,_,_,_,_,_,_,_,l,c,k⟩
def FX.get(r:FX K n q st f)(ps:List Str)(h:BZ n q st ps):∃fd,Fun K n q st f fd∧Binds K fd ps []:=
 let⟨_,_,_,_,_,_,_,_,_,l,c,k⟩:=r; ⟨_,lP l c k,(lP l c k).binds fun a b c d e f us z=>h us z a b c d e f⟩
def FD.get(r:FD K n st f){h:Heap}{mg:be}(X:K.In h)(G:h.Ns mainGlobals mg)(ps:List Str)(h:BZ n n st ps):∃fd,mg n=some (.ref f)∧Fun K n n st f fd∧Binds K fd ps []:=
 let⟨fd,F,b⟩:=r.2.get ps h; ⟨fd,PySem.W.mg_of X G r.1,F,b⟩
def FE.get{g:Str}(r:FE K g n st f){h:Heap}{mg:be}(X:K.In h)(G:h.Ns mainGlobals mg)(ps:List Str)(h:BZ n n st ps):∃fd,mg g=some (.ref f)∧Fun K n n st f fd∧Binds K fd ps []:=
 let⟨fd,F,b⟩:=r.2.get ps h; ⟨fd,PySem.W.mg_of X G r.1,F,b⟩
def mkr(l:PySem.W.OpenLaw)(w:World)(base:Heap){mg:be}{C:Addr}{k:Nat}{fd:FuncData}{ps:List Str}{S:DSp}(c:Cls K C)(a:Fi K C n f)(r:FM K n q st f)(F:Fun K n q st f fd)(b:Binds K fd ps [])(o:FnOk l.prog w K mg base CX0 k f fd ps (zw K S)):MOk l.prog w K mg base k C n S:=.mk c ⟨_,_,_,⟨a,r.1,F.kp⟩,b,o⟩
def ce(l:PySem.W.OpenLaw)(w:World)(base:Heap){mg:be}{C:Addr}{k:Nat}{fd:FuncData}{ps:List Str}{S:DSp}(c:Cls K C)(a:Fi K C n f)(r:FM K n q st f)(F:Fun K n q st f fd)(b:Binds K fd ps [])(o:FnOk l.prog w K mg base CX0 k f fd ps (xl K S)):FMOk l.prog w K mg base k C n S:=.mk c ⟨_,_,_,⟨a,r.1,F.kp⟩,b,o⟩
def FM.get(r:FM K n q st f)(ps:List Str)(h:BZ n q st ps):∃fd,Fun K n q st f fd∧Binds K fd ps []:=r.2.get ps h
end
def Q9{f:Nat→Option Bool}{g h:Nat→Nat→Option Bool}{n:Nat}(z:((List.range n).all fun i=>f i==some true&&(List.range n).all fun j=>g i j==some (o7 i j)&&h i j==some (o7 i j))=true):(∀i j,i<n→j<n→g i j=some (o7 i j)∧h i j=some (o7 i j))∧∀i,i<n→f i=some true:=by
 have z:=Bs.mp z
 refine⟨fun i j hi hj=>?_,fun i hi=>?_⟩
 ·have a:=Bs.mp ((Bb ..).mp (z i (BX.mpr hi))).2 j (BX.mpr hj)
  have a:=(Bb ..).mp a
  exact⟨eq_of_beq a.1,eq_of_beq a.2⟩
 ·exact eq_of_beq ((Bb ..).mp (z i (BX.mpr hi))).1
theorem all_mk{l:PySem.W.OpenLaw}{w:World}{K:A_}{h:Heap}{mg:be}{fa:Addr}(X:K.In h)(G:h.Ns mainGlobals mg)(hfa:mg "law"=some (.ref fa))
 {Lo Lj Lp Lq Ll Lk Lz LI LA LB LC LD LE LF LJ LK LL LM LN f1 f2 f3 f4 f5 f6 f7 f8 f9 f10 f11 f12 f13 f14 f15 f16 f17 f18 f19 f20 f21 f22 f23 f24 f25 f26 f27 f28 f29 f30 f31 f32 f33 f34 f35 f36 f37 f38 f39 f40 f41 f42 f43 f44 f45 f46 f47 f48 f49 f50 f51 f52 f53 f54 f55 f56 f57 f58 f59 f60 f61 f62 f63 f64 f65 f66 f67 f68 f69 f70 f71 f72 f73 f74 f75 f76 f77 f78 f79 f80 f81 f82 f83 f84 f85 f86 D_COUNTS:Addr} {t_FIGURES tk_COUNTS_0 tk_COUNTS_1 tk_COUNTS_2 tk_COUNTS_3 tk_COUNTS_4 tk_COUNTS_5 tk_COUNTS_6 tk_COUNTS_7 tv_COUNTS_0 tv_COUNTS_1 tv_COUNTS_2 tv_COUNTS_3 tv_COUNTS_4 tv_COUNTS_5 tv_COUNTS_6 tv_COUNTS_7 ep_COUNTS:Tok}
 (prm:(Gc K "Plain" Lo∧
 Gc K "Below" Lj∧
 Gc K "Balanced" Lp∧
 Gc K "Growing" Lq∧
 Gc K "Falling" Ll∧
 Gc K "Pairs" Lk∧
 Gc K "NoWay" Lz∧
 Gc K "OddError" LI∧
 Gc K "NoRow" LA∧
 Gc K "NoText" LB∧
 Gc K "NoNumber" LC∧
 Gc K "TooLess" LD∧
 Gc K "NoPairs" LE)∧
 (Gc K "Nought" LF∧
 Gc K "NoWriting" LJ∧
 Gc K "NoRatio" LK∧
 Gc K "NoFalling" LL∧
 Gc K "NoSpan" LM∧
 Gc K "NoTotal" LN∧
 FD K "_law_cell_at" xS f1∧
 FD K "words_of" vJ f2∧
 FE K "has_figures_alone_texts" "has_figures_alone" z6 f3∧
 FD K "whole_read" wc f4∧
 FD K "is_whole" vO f5∧
 FD K "bounded" uF f6∧
 Fi K Lo "__init__" f7)∧
 (FM K "__init__" "Plain.__init__" xb f7∧
 Fi K Lj "__init__" f8∧
 FM K "__init__" "Below.__init__" xf f8∧
 Fi K Lp "__init__" f9∧
 FM K "__init__" "Balanced.__init__" yA f9∧
 Fi K Lq "__init__" f10∧
 FM K "__init__" "Growing.__init__" yE f10∧
 Fi K Ll "__init__" f11∧
 FM K "__init__" "Falling.__init__" yF f11∧
 Fi K Lk "__init__" f12∧
 FM K "__init__" "Pairs.__init__" xc f12∧
 FD K "way_made" vL f13∧
 FD K "way_read" vK f14)∧
 (FD K "whole_shown" xO f15∧
 FD K "row_shown" xJ f16∧
 FD K "trimmed" uz f17∧
 FD K "as_pair" uG f18∧
 FD K "added" pW f19∧
 FD K "thing_at" vM f20∧
 Fi K Lo "nought" f21∧
 Fi K Lj "nought" f21∧
 Fi K Lp "nought" f21∧
 Fi K Lq "nought" f21∧
 Fi K Ll "nought" f21∧
 FM K "nought" "Way.nought" wn f21∧
 Fi K Lk "nought" f22)∧
 (FM K "nought" "Pairs.nought" xt f22∧
 Fi K Lo "has" f23∧
 Fi K Lq "has" f23∧
 Fi K Ll "has" f23∧
 FM K "has" "Way.has" uI f23∧
 Fi K Lj "has" f24∧
 FM K "has" "Below.has" wP f24∧
 Fi K Lp "has" f25∧
 FM K "has" "Balanced.has" xx f25∧
 FD K "is_pair" uD f26∧
 Fi K Lk "has" f27∧
 FM K "has" "Pairs.has" wO f27∧
 Fi K Lo "low" f28)∧
 (Fi K Lj "low" f28∧
 Fi K Lq "low" f28∧
 Fi K Ll "low" f28∧
 Fi K Lk "low" f28∧
 FM K "low" "Way.low" uH f28∧
 Fi K Lp "low" f29∧
 FM K "low" "Balanced.low" xw f29∧
 Fi K Lo "high" f30∧
 FM K "high" "Plain.high" wo f30∧
 Fi K Lj "high" f31∧
 FM K "high" "Below.high" wr f31∧
 Fi K Lp "high" f32∧
 FM K "high" "Balanced.high" y4 f32)∧
 (Fi K Lq "high" f33∧
 FM K "high" "Growing.high" xu f33∧
 Fi K Ll "high" f34∧
 FM K "high" "Falling.high" xv f34∧
 Fi K Lk "high" f35∧
 FM K "high" "Pairs.high" wq f35∧
 Fi K Lo "ratio" f36∧
 FM K "ratio" "Plain.ratio" xU f36∧
 Fi K Lj "ratio" f37∧
 FM K "ratio" "Below.ratio" xW f37∧
 Fi K Lp "ratio" f38∧
 FM K "ratio" "Balanced.ratio" yR f38∧
 Fi K Lq "ratio" f39)∧
 (FM K "ratio" "Growing.ratio" y3 f39∧
 Fi K Lk "ratio" f40∧
 FM K "ratio" "Pairs.ratio" xV f40∧
 Fi K Lo "split" f41∧
 Fi K Lj "split" f41∧
 Fi K Lp "split" f41∧
 Fi K Lq "split" f41∧
 FM K "split" "Way.split" wN f41∧
 FD K "figures_and_carries" yi f42∧
 FD K "settled" uB f43∧
 FD K "written" uy f44∧
 FD K "number_read" xP f45∧
 FD K "multiplied" wj f46)∧
 (Fi K Lo "weights" f47∧
 Fi K Lj "weights" f47∧
 Fi K Lp "weights" f47∧
 Fi K Lq "weights" f47∧
 Fi K Lk "weights" f47∧
 FM K "weights" "Way.weights" xT f47∧
 FD K "worth" pS f48∧
 FD K "has_mosts_above_noughts_alone" zP f49∧
 FE K "has_figures_alone_writings" "has_figures_alone" zU f50∧
 FD K "is_writing" wm f51∧
 FD K "held_to_be_writings" yh f52∧
 FD K "held_to_be_a_heap" yw f53∧
 FD K "step_at" uA f54)∧
 (FD K "how_often" wL f55∧
 FD K "changes" uE f56∧
 FD K "do_steps" vP f57∧
 FD K "steps_and_writing" yu f58∧
 FD K "fallen" sW f59∧
 FD K "written_row" xN f60∧
 FD K "shared" sU f61∧
 FD K "share_said" wd f62∧
 FD K "as_wanted" wM f63∧
 FD K "moved" pU f64∧
 FD K "row_plus" wf f65∧
 FD K "plus" mY f66∧
 FD K "row_times" xI f67)∧
 (FD K "lend" mZ f68∧
 FD K "lender_above" xp f69∧
 FD K "without_debts" y1 f70∧
 FD K "minus" pV f71∧
 FD K "order" pT f72∧
 FD K "order_said" wg f73∧
 FD K "reckoning_said" yQ f74∧
 FD K "row_read" vN f75∧
 FD K "writing_said" xo f76∧
 FD K "said" mX f77∧
 FD K "_law_no_row" wk f78∧
 FD K "_law_no_text" xR f79∧
 FD K "_law_no_number" y2 f80)∧
 (FD K "_law_too_less" xq f81∧
 FD K "_law_of_pairs" xr f82∧
 FD K "_law_row" uC f83∧
 FD K "_law_refusal" xQ f84∧
 FD K "_law_due" vi f85∧
 FD K "law" sV f86∧
 ClR K Lo "base"∧
 ClR K Lj "base"∧
 ClR K Lp "half"∧
 ClR K Lq "first"∧
 ClR K Ll "most"∧
 ClR K Lk "most"∧
 IR K Lo)∧
 (Ki K Lo Ll false∧
 Ki K Lo Lk false∧
 Ki K Lo Lj false∧
 IR K Lj∧
 Ki K Lj Ll false∧
 Ki K Lj Lk false∧
 Ki K Lj Lj true∧
 IR K Lp∧
 Ki K Lp Ll false∧
 Ki K Lp Lk false∧
 Ki K Lp Lj false∧
 IR K Lq∧
 Ki K Lq Ll false)∧
 (Ki K Lq Lk false∧
 Ki K Lq Lj false∧
 IR K Ll∧
 Ki K Ll Ll true∧
 Ki K Ll Lk false∧
 Ki K Ll Lj false∧
 IR K Lk∧
 Ki K Lk Ll false∧
 Ki K Lk Lk true∧
 Ki K Lk Lj false∧
 (PySem.W.specialIn K (.builtin "object.__class__") "__get__"=some (some (.builtin "getset_descriptor.__get__")))∧
 (PySem.W.takesIn K (.builtin "object.__class__")=some true)∧
 ExcK K LD)∧
 (yP K LD∧
 ExcK K LB∧
 yP K LB∧
 ExcK K Lz∧
 yP K Lz∧
 ExcK K LA∧
 yP K LA∧
 ExcK K LE∧
 yP K LE∧
 ExcK K LF∧
 yP K LF∧
 ExcK K LC∧
 yP K LC)∧
 ((((List.range 13).all fun i=>PySem.W.kitOne K (.ref ([Lz,LI,LA,LB,LC,LD,LE,LF,LJ,LK,LL,LM,LN].getD i 0)) (.type "ValueError")==some true&&(List.range 13).all fun j=>PySem.W.kitOne K (.ref ([Lz,LI,LA,LB,LC,LD,LE,LF,LJ,LK,LL,LM,LN].getD i 0)) (.ref ([Lz,LI,LA,LB,LC,LD,LE,LF,LJ,LK,LL,LM,LN].getD j 0))==some (o7 i j)&&PySem.W.exmOne K (.ref ([Lz,LI,LA,LB,LC,LD,LE,LF,LJ,LK,LL,LM,LN].getD i 0)) (.ref ([Lz,LI,LA,LB,LC,LD,LE,LF,LJ,LK,LL,LM,LN].getD j 0))==some (o7 i j))=true)∧
 Gs K "FIGURES" "0123456789" t_FIGURES∧
 Gc K "COUNTS" D_COUNTS∧
 (K.lookup D_COUNTS=some ⟨.type "dict",none,.dict #[⟨PyData.keyHash w.params "write",.str "write" tk_COUNTS_0,.int 3 tv_COUNTS_0⟩,⟨PyData.keyHash w.params "worth",.str "worth" tk_COUNTS_1,.int 3 tv_COUNTS_1⟩,⟨PyData.keyHash w.params "plus",.str "plus" tk_COUNTS_2,.int 4 tv_COUNTS_2⟩,⟨PyData.keyHash w.params "minus",.str "minus" tk_COUNTS_3,.int 4 tv_COUNTS_3⟩,⟨PyData.keyHash w.params "times",.str "times" tk_COUNTS_4,.int 4 tv_COUNTS_4⟩,⟨PyData.keyHash w.params "share",.str "share" tk_COUNTS_5,.int 4 tv_COUNTS_5⟩,⟨PyData.keyHash w.params "order",.str "order" tk_COUNTS_6,.int 4 tv_COUNTS_6⟩,⟨PyData.keyHash w.params "move",.str "move" tk_COUNTS_7,.int 4 tv_COUNTS_7⟩] ep_COUNTS,#[]⟩)∧
 ((D_COUNTS==sysModules)=false)∧
 Zn K "isinstance"∧
 Zn K "int"∧
 Zn K "bool"∧
 Zn K "tuple"∧
 Zn K "list"∧
 Zn K "len"∧
 Zn K "range"∧
 Zn K "zip")∧
 (Zn K "enumerate"∧
 Zn K "reversed"∧
 Zn K "min"∧
 Zn K "max"∧
 Zn K "str"∧
 Zn K "ValueError")):
 ∃fd:FuncData,(∀(s:Shared)(v:Value),BindsTo s fd ⟨[v],[]⟩ [("_law_script",v)])∧∀base:Heap,K.In base→base.Ns mainGlobals mg→FnOk l.prog w K mg base CX0 12 fa fd ["_law_script"] (zw K (jd)):=by
 obtain⟨⟨Ja,KN,Jb,Jc,KO,KP,Jd,Je,Jf,Jg,Jh,Ji,Jj⟩,⟨Jk,Jl,Jm,Jn,Jo,Jp,r1,r2,r3,r4,r5,r6,Jq⟩,⟨r7,Jr,r8,Js,r9,Jt,r10,Ju,r11,Jv,r12,r13,r14⟩,⟨r15,r16,r17,r18,r19,r20,Jw,Jx,Jy,Jz,JA,r21,JB⟩,⟨r22,JC,JD,JE,r23,JF,r24,JG,r25,r26,JH,r27,JI⟩,⟨JJ,JK,JL,JM,r28,JN,r29,JO,r30,JP,r31,JQ,r32⟩,⟨JR,r33,JS,r34,JT,r35,JU,r36,JV,r37,JW,r38,JX⟩,⟨r39,JY,r40,JZ,J0,J1,J2,r41,r42,r43,r44,r45,r46⟩,⟨J3,J4,J5,J6,J7,r47,r48,r49,r50,r51,r52,r53,r54⟩,⟨r55,r56,r57,r58,r59,r60,r61,r62,r63,r64,r65,r66,r67⟩,⟨r68,r69,r70,r71,r72,r73,r74,r75,r76,r77,r78,r79,r80⟩,⟨r81,r82,r83,r84,r85,r86,LP,LQ,LR,LS,LT,LU,KQ⟩,⟨L5,L6,KB,KR,L7,L8,KC,KS,L9,Ka,KD,KT,Kb⟩,⟨Kc,KE,KU,LX,Ke,KH,KW,Kf,Kg,KI,in_,it_,LY⟩,⟨Kl,LG,Km,Kn,KM,Ko,Kp,LZ,Kq,Kr,Ks,Kt,Ku⟩,⟨kxB,g_FIGURES,gD_COUNTS,lD_COUNTS,sD_COUNTS,z_isinstance,z_int,z_bool,z_tuple,z_list,z_len,z_range,z_zip⟩,⟨z_enumerate,z_reversed,z_min,z_max,z_str,z_ValueError⟩⟩:=prm
 have mn {n:Str} (z:Zn K n):=PySem.W.mg_none_of X G z
 have mo {n:Str} {C:Addr} (z:Gc K n C):=PySem.W.mg_of X G z
 let A:Adr:=⟨Lo,Lj,Lp,Lq,Ll,Lk,fun i=>[Lz,LI,LA,LB,LC,LD,LE,LF,LJ,LK,LL,LM,LN].getD i 0⟩
 have T:Txt K mg A:=⟨Ms K,mn z_isinstance,mn z_int,mn z_bool,mn z_tuple,mn z_list,mn z_len,mn z_range,mn z_zip,mn z_enumerate,mn z_reversed,mn z_min,mn z_max,mn z_str,mn z_ValueError,⟨_,PySem.W.mg_of X G g_FIGURES⟩,LP.cls,LP.na,LQ.cls,LQ.na,LR.cls,LR.na,LS.cls,LS.na,LT.cls,LT.na,LU.cls,LU.na,mo KO,mo KP,mo KN,⟨LP.cls,KQ.1,in_,it_,KQ.2⟩,L5,L6,KB,⟨LQ.cls,KR.1,in_,it_,KR.2⟩,L7,L8,KC,⟨LR.cls,KS.1,in_,it_,KS.2⟩,L9,Ka,KD,⟨LS.cls,KT.1,in_,it_,KT.2⟩,Kb,Kc,KE,⟨LT.cls,KU.1,in_,it_,KU.2⟩,LX,Ke,KH,⟨LU.cls,KW.1,in_,it_,KW.2⟩,Kf,Kg,KI,mo Jd,mo Je,mo Jf,mo Jg,mo Jh,mo Ji,mo Jj,mo Jk,mo Jl,mo Jm,mo Jn,mo Jo,mo Jp,LY,Kl,LG,Km,Kn,KM,Ko,Kp,LZ,Kq,Kr,Ks,Kt,Ku,(Q9 kxB).1,(Q9 kxB).2⟩
 have GD_COUNTS:GDi l.prog w K mg "COUNTS" [("write",3),("worth",3),("plus",4),("minus",4),("times",4),("share",4),("order",4),("move",4)]:=GDi.of [("write",tk_COUNTS_0,3,tv_COUNTS_0),("worth",tk_COUNTS_1,3,tv_COUNTS_1),("plus",tk_COUNTS_2,4,tv_COUNTS_2),("minus",tk_COUNTS_3,4,tv_COUNTS_3),("times",tk_COUNTS_4,4,tv_COUNTS_4),("share",tk_COUNTS_5,4,tv_COUNTS_5),("order",tk_COUNTS_6,4,tv_COUNTS_6),("move",tk_COUNTS_7,4,tv_COUNTS_7)] (mo gD_COUNTS) lD_COUNTS sD_COUNTS (show(["write","worth","plus","minus","times","share","order","move"]:List Str).Nodup by decide +kernel)
 obtain⟨_,m1,F1,b1⟩:=r1.get X G ["_law_script","_law_k"] bz2
 obtain⟨_,m2,F2,b2⟩:=r2.get X G ["row"] bz1
 obtain⟨_,m3,F3,b3⟩:=r3.get X G ["text"] bz1
 obtain⟨_,m4,F4,b4⟩:=r4.get X G ["text"] bz1
 obtain⟨_,m5,F5,b5⟩:=r5.get X G ["value"] bz1
 obtain⟨_,m6,F6,b6⟩:=r6.get X G ["number","least","most"] bz3
 obtain⟨_,F7,b7⟩:=r7.get ["self","base"] bz2
 obtain⟨_,F8,b8⟩:=r8.get ["self","base"] bz2
 obtain⟨_,F9,b9⟩:=r9.get ["self","half"] bz2
 obtain⟨_,F10,b10⟩:=r10.get ["self","first"] bz2
 obtain⟨_,F11,b11⟩:=r11.get ["self","most"] bz2
 obtain⟨_,F12,b12⟩:=r12.get ["self","most"] bz2
 obtain⟨_,m13,F13,b13⟩:=r13.get X G ["name","number"] bz2
 obtain⟨_,m14,F14,b14⟩:=r14.get X G ["text"] bz1
 obtain⟨_,m15,F15,b15⟩:=r15.get X G ["number"] bz1
 obtain⟨_,m16,F16,b16⟩:=r16.get X G ["row"] bz1
 obtain⟨_,m17,F17,b17⟩:=r17.get X G ["row"] bz1
 obtain⟨_,m18,F18,b18⟩:=r18.get X G ["number"] bz1
 obtain⟨_,m19,F19,b19⟩:=r19.get X G ["one","other"] bz2
 obtain⟨_,m20,F20,b20⟩:=r20.get X G ["row","place"] bz2
 obtain⟨_,F21,b21⟩:=r21.get ["self"] bz1
 obtain⟨_,F22,b22⟩:=r22.get ["self"] bz1
 obtain⟨_,F23,b23⟩:=r23.get ["self","number"] bz2
 obtain⟨_,F24,b24⟩:=r24.get ["self","number"] bz2
 obtain⟨_,F25,b25⟩:=r25.get ["self","number"] bz2
 obtain⟨_,m26,F26,b26⟩:=r26.get X G ["value"] bz1
 obtain⟨_,F27,b27⟩:=r27.get ["self","number"] bz2
 obtain⟨_,F28,b28⟩:=r28.get ["self","place"] bz2
 obtain⟨_,F29,b29⟩:=r29.get ["self","place"] bz2
 obtain⟨_,F30,b30⟩:=r30.get ["self","place"] bz2
 obtain⟨_,F31,b31⟩:=r31.get ["self","place"] bz2
 obtain⟨_,F32,b32⟩:=r32.get ["self","place"] bz2
 obtain⟨_,F33,b33⟩:=r33.get ["self","place"] bz2
 obtain⟨_,F34,b34⟩:=r34.get ["self","place"] bz2
 obtain⟨_,F35,b35⟩:=r35.get ["self","place"] bz2
 obtain⟨_,F36,b36⟩:=r36.get ["self","place"] bz2
 obtain⟨_,F37,b37⟩:=r37.get ["self","place"] bz2
 obtain⟨_,F38,b38⟩:=r38.get ["self","place"] bz2
 obtain⟨_,F39,b39⟩:=r39.get ["self","place"] bz2
 obtain⟨_,F40,b40⟩:=r40.get ["self","place"] bz2
 obtain⟨_,F41,b41⟩:=r41.get ["self","total","place"] bz3
 obtain⟨_,m42,F42,b42⟩:=r42.get X G ["way","totals"] bz2
 obtain⟨_,m43,F43,b43⟩:=r43.get X G ["way","totals"] bz2
 obtain⟨_,m44,F44,b44⟩:=r44.get X G ["way","number"] bz2
 obtain⟨_,m45,F45,b45⟩:=r45.get X G ["text"] bz1
 obtain⟨_,m46,F46,b46⟩:=r46.get X G ["one","other"] bz2
 obtain⟨_,F47,b47⟩:=r47.get ["self","many"] bz2
 obtain⟨_,m48,F48,b48⟩:=r48.get X G ["way","row"] bz2
 obtain⟨_,m49,F49,b49⟩:=r49.get X G ["way","row"] bz2
 obtain⟨_,m50,F50,b50⟩:=r50.get X G ["way","row"] bz2
 obtain⟨_,m51,F51,b51⟩:=r51.get X G ["way","row"] bz2
 obtain⟨_,m52,F52,b52⟩:=r52.get X G ["way","rows"] bz2
 obtain⟨_,m53,F53,b53⟩:=r53.get X G ["way","heap"] bz2
 obtain⟨_,m54,F54,b54⟩:=r54.get X G ["way","heap","place"] bz3
 obtain⟨_,m55,F55,b55⟩:=r55.get X G ["way","heap","step"] bz3
 obtain⟨_,m56,F56,b56⟩:=r56.get X G ["way","step"] bz2
 obtain⟨_,m57,F57,b57⟩:=r57.get X G ["way","heap","step","many"] bz4
 obtain⟨_,m58,F58,b58⟩:=r58.get X G ["way","heap"] bz2
 obtain⟨_,m59,F59,b59⟩:=r59.get X G ["way","heap"] bz2
 obtain⟨_,m60,F60,b60⟩:=r60.get X G ["way","row"] bz2
 obtain⟨_,m61,F61,b61⟩:=r61.get X G ["way","row","many"] bz3
 obtain⟨_,m62,F62,b62⟩:=r62.get X G ["way","writing","many"] bz3
 obtain⟨_,m63,F63,b63⟩:=r63.get X G ["way","number"] bz2
 obtain⟨_,m64,F64,b64⟩:=r64.get X G ["way","row","other"] bz3
 obtain⟨_,m65,F65,b65⟩:=r65.get X G ["one","other"] bz2
 obtain⟨_,m66,F66,b66⟩:=r66.get X G ["way","one","other"] bz3
 obtain⟨_,m67,F67,b67⟩:=r67.get X G ["row","factor"] bz2
 obtain⟨_,m68,F68,b68⟩:=r68.get X G ["way","row","lender"] bz3
 obtain⟨_,m69,F69,b69⟩:=r69.get X G ["row","place"] bz2
 obtain⟨_,m70,F70,b70⟩:=r70.get X G ["way","row"] bz2
 obtain⟨_,m71,F71,b71⟩:=r71.get X G ["way","one","other"] bz3
 obtain⟨_,m72,F72,b72⟩:=r72.get X G ["way","one","other"] bz3
 obtain⟨_,m73,F73,b73⟩:=r73.get X G ["way","one","other"] bz3
 obtain⟨_,m74,F74,b74⟩:=r74.get X G ["asked","way","one","other"] bz4
 obtain⟨_,m75,F75,b75⟩:=r75.get X G ["way","text"] bz2
 obtain⟨_,m76,F76,b76⟩:=r76.get X G ["words","way","writing"] bz3
 obtain⟨_,m77,F77,b77⟩:=r77.get X G ["row"] bz1
 obtain⟨_,m78,F78,b78⟩:=r78.get X G ["_law_cell"] bz1
 obtain⟨_,m79,F79,b79⟩:=r79.get X G ["_law_base","_law_number"] bz2
 obtain⟨_,m80,F80,b80⟩:=r80.get X G ["_law_base","_law_number"] bz2
 obtain⟨_,m81,F81,b81⟩:=r81.get X G ["_law_base"] bz1
 obtain⟨_,m82,F82,b82⟩:=r82.get X G ["_law_base","_law_number"] bz2
 obtain⟨_,m83,F83,b83⟩:=r83.get X G ["_law_cell"] bz1
 obtain⟨_,m84,F84,b84⟩:=r84.get X G ["_law_row_here"] bz1
 obtain⟨_,m85,F85,b85⟩:=r85.get X G ["_law_name"] bz1
 obtain⟨a86,_,_,kV,dc,pm,an,cd,ct,_,l86,c86,k86⟩:=r86
 cases hfa.symm.trans (PySem.W.mg_of X G a86)
 have F86:=lP (st:=sV) l86 c86 k86
 refine⟨PySem.W.fnOf "law" "law" (defArgs sV) (defBody sV) (defScope sV) .none kV dc pm an cd ct,fun s v=>.of_eq rfl,fun base _ _=>?_⟩
 have A6:=DOk.mk' F1 m1 b1 (rh (P:=l.prog) (w:=w) (base:=base) T F1)
 have AX:=FOkX.mk' F2 m2 b2 (nJ (P:=l.prog) (w:=w) (base:=base) T GD_COUNTS F2)
 have Aw:DOk l.prog w K mg base 1 "has_figures_alone_texts" (o6):=⟨_,_,_,m3,F3.kp,b3,xz (P:=l.prog) (w:=w) (base:=base) T F3⟩
 have Af:=DOkX.mk' F4 m4 b4 (qo T Aw F4)
 have Ab:=DOk.mk' F5 m5 b5 (nP (P:=l.prog) (w:=w) (base:=base) T F5)
 have Ac:=DOkX.mk' F6 m6 b6 (lz T Ab F6)
 have Kv:tq l.prog w K mg base 3 "Plain" A.Plain "base" (Kd.ok .plain) A.NoWay:=⟨_,_,_,mo Ja,⟨LP.mks,Jq,r7.1,LP.kc⟩,b7,qv T Ac F7⟩
 have Kw:tq l.prog w K mg base 3 "Below" A.Below "base" (Kd.ok .below) A.NoWay:=⟨_,_,_,mo KN,⟨LQ.mks,Jr,r8.1,LQ.kc⟩,b8,qz T Ac F8⟩
 have Kx:tq l.prog w K mg base 3 "Balanced" A.Balanced "half" (Kd.ok .balanced) A.NoWay:=⟨_,_,_,mo Jb,⟨LR.mks,Js,r9.1,LR.kc⟩,b9,uP T Ac F9⟩
 have Ky:tq l.prog w K mg base 3 "Growing" A.Growing "first" (Kd.ok .growing) A.NoWay:=⟨_,_,_,mo Jc,⟨LS.mks,Jt,r10.1,LS.kc⟩,b10,tX T Ac F10⟩
 have Kz:tq l.prog w K mg base 3 "Falling" A.Falling "most" (Kd.ok .falling) A.NoWay:=⟨_,_,_,mo KO,⟨LT.mks,Ju,r11.1,LT.kc⟩,b11,tZ T Ac F11⟩
 have KA:tq l.prog w K mg base 3 "Pairs" A.Pairs "most" (Kd.ok .pairs) A.NoWay:=⟨_,_,_,mo KP,⟨LU.mks,Jv,r12.1,LU.kc⟩,b12,qx T Ac F12⟩
 have Ax:=DOkX.mk' F13 m13 b13 (nL T Kv Kw Kx Ky Kz KA F13)
 have As:=DOkX.mk' F14 m14 b14 (nK T Af Ax F14)
 have Ay:=DOk.mk' F15 m15 b15 (rb (P:=l.prog) (w:=w) (base:=base) T F15)
 have Ah:=DOk.mk' F16 m16 b16 (oi T Ay F16)
 have An:=FOk.mk' F17 m17 b17 (lp (P:=l.prog) (w:=w) (base:=base) T F17)
 have Ai:=DOk.mk' F18 m18 b18 (lA T Ab F18)
 have Ad:=DOk.mk' F19 m19 b19 (gx T Ab Ai F19)
 have Aj:=DOk.mk' F20 m20 b20 (nM (P:=l.prog) (w:=w) (base:=base) T F20)
 have J8:=mkr l w base T.Lu Jw r21 F21 b21 (yy T F21)
 have J9:=mkr l w base T.Lv Jx r21 F21 b21 (yy T F21)
 have J_:=mkr l w base T.Ls Jy r21 F21 b21 (yy T F21)
 have Ia:=mkr l w base T.Lw Jz r21 F21 b21 (yy T F21)
 have Ib:=mkr l w base T.Lr JA r21 F21 b21 (yy T F21)
 have Ic:=mkr l w base T.Lx JB r22 F22 b22 (tW T F22)
 have HNo:∀k:Kd,MOk l.prog w K mg base 1 (A.at k) "nought" (VG k):=fun k=>match k with
  | .plain=>J8|.below=>J9|.balanced=>J_|.growing=>Ia|.falling=>Ib|.pairs=>Ic
 have Id:=mkr l w base T.Lu JC r23 F23 b23 (vQ T Ab F23)
 have Ie:=mkr l w base T.Lw JD r23 F23 b23 (vQ T Ab F23)
 have Ig:=mkr l w base T.Lr JE r23 F23 b23 (vQ T Ab F23)
 have Ih:=mkr l w base T.Lv JF r24 F24 b24 (oq T Ab F24)
 have Ii:=mkr l w base T.Ls JG r25 F25 b25 (sf T Ab F25)
 have Am:=DOk.mk' F26 m26 b26 (lw T Ab F26)
 have Ij:=mkr l w base T.Lx JH r27 F27 b27 (om T Am F27)
 have HHas:∀k:Kd,MOk l.prog w K mg base 3 (A.at k) "has" (vZ k):=fun k=>match k with
  | .plain=>Id.mono (by decide)
  | .below=>Ih.mono (by decide)
  | .balanced=>Ii.mono (by decide)
  | .growing=>(Ie.imp fun ds Q ⟨o,d,m,e,a,q⟩=>⟨o,d,m,e,a,by cases m<;>exact q⟩).mono (by decide)
  | .falling=>(Ig.imp fun ds Q ⟨o,d,m,e,a,q⟩=>⟨o,d,m,e,a,by cases m<;>exact q⟩).mono (by decide)
  | .pairs=>Ij.mono (by decide)
 have Ik:=mkr l w base T.Lu JI r28 F28 b28 (xA T F28)
 have Il:=mkr l w base T.Lv JJ r28 F28 b28 (xA T F28)
 have Im:=mkr l w base T.Lw JK r28 F28 b28 (xA T F28)
 have Io:=mkr l w base T.Lr JL r28 F28 b28 (xA T F28)
 have Ip:=mkr l w base T.Lx JM r28 F28 b28 (xA T F28)
 have Iq:=mkr l w base T.Ls JN r29 F29 b29 (se T F29)
 have Ir:=mkr l w base T.Lu JO r30 F30 b30 (qw T F30)
 have Iu:=mkr l w base T.Lv JP r31 F31 b31 (qA T F31)
 have Iv:=mkr l w base T.Ls JQ r32 F32 b32 (uQ T F32)
 have Iw:=mkr l w base T.Lw JR r33 F33 b33 (tY T F33)
 have Ix:=mkr l w base T.Lr JS r34 F34 b34 (t_ T F34)
 have Iy:=mkr l w base T.Lx JT r35 F35 b35 (qy T F35)
 have HLo:∀k:Kd,MOk l.prog w K mg base 1 (A.at k) "low" (wa A k (k.low))∧MOk l.prog w K mg base 1 (A.at k) "high" (wa A k (k.high)):=fun k=>match k with
  | .plain=>⟨Ik.imp fun ds Q ⟨n,p,e,_,q⟩=>⟨_,_,e,q⟩,Ir⟩
  | .below=>⟨Il.imp fun ds Q ⟨n,p,e,_,q⟩=>⟨_,_,e,q⟩,Iu⟩
  | .balanced=>⟨Iq,Iv⟩
  | .growing=>⟨Im.imp fun ds Q ⟨n,p,e,_,q⟩=>⟨_,_,e,q⟩,Iw⟩
  | .falling=>⟨Io.imp fun ds Q ⟨n,p,e,_,q⟩=>⟨_,_,e,q⟩,Ix⟩
  | .pairs=>⟨Ip.imp fun ds Q ⟨n,p,e,_,q⟩=>⟨_,_,e,q⟩,Iy⟩
 have Iz:=mkr l w base T.Lu JU r36 F36 b36 (rj T F36)
 have IA:=mkr l w base T.Lv JV r37 F37 b37 (rm T F37)
 have IB:=mkr l w base T.Ls JW r38 F38 b38 (ub T F38)
 have IC:=mkr l w base T.Lw JX r39 F39 b39 (uO T F39)
 have ID:=mkr l w base T.Lx JY r40 F40 b40 (rk T F40)
 have HR:∀k:Kd,k.five=true→MOk l.prog w K mg base 1 (A.at k) "ratio" (vb A k (k.ratN)):=fun k hk=>match k,hk with
  | .plain,_=>Iz
  | .below,_=>IA
  | .balanced,_=>IB
  | .growing,_=>IC
  | .pairs,_=>ID
 have IE:=mkr l w base T.Lu JZ r41 F41 b41 (xg T HLo HR F41)
 have IF:=mkr l w base T.Lv J0 r41 F41 b41 (xg T HLo HR F41)
 have IM:=mkr l w base T.Ls J1 r41 F41 b41 (xg T HLo HR F41)
 have IG:=mkr l w base T.Lw J2 r41 F41 b41 (xg T HLo HR F41)
 have HSp:∀k:Kd,k.three=true→MOk l.prog w K mg base 3 (A.at k) "split" (mC A k):=fun k hk=>match k,hk with
  | .plain,_=>(IE.imp fun ds Q ⟨n,t,j,e,a,b,q⟩=>⟨.plain,n,t,j,e,rfl,a,b,q⟩).mono (by decide)
  | .below,_=>(IF.imp fun ds Q ⟨n,t,j,e,a,b,q⟩=>⟨.below,n,t,j,e,rfl,a,b,q⟩).mono (by decide)
  | .growing,_=>(IG.imp fun ds Q ⟨n,t,j,e,a,b,q⟩=>⟨.growing,n,t,j,e,rfl,a,b,q⟩).mono (by decide)
 have Az:=TOkX.mk' F42 m42 b42 (wy T Ad Aj HNo HHas HSp F42)
 have Ao:=FOkX.mk' F43 m43 b43 (lr T An Az F43)
 have Aq:=FOkX.mk' F44 m44 b44 (lh T Ao HHas F44)
 have AY:=DOkX.mk' F45 m45 b45 (rc T Af F45)
 have Ag:=DOk.mk' F46 m46 b46 (qs T Ab Ai F46)
 have IH:=ce l w base T.Lu J3 r47 F47 b47 (yl T Ad Ag HNo HR F47)
 have II:=ce l w base T.Lv J4 r47 F47 b47 (yl T Ad Ag HNo HR F47)
 have IJ:=ce l w base T.Ls J5 r47 F47 b47 (yl T Ad Ag HNo HR F47)
 have IK:=ce l w base T.Lw J6 r47 F47 b47 (yl T Ad Ag HNo HR F47)
 have IL:=ce l w base T.Lx J7 r47 F47 b47 (yl T Ad Ag HNo HR F47)
 have HW:∀k:Kd,k.five=true→FMOk l.prog w K mg base 4 (A.at k) "weights" (Uh A k):=fun k hk=>match k,hk with
  | .plain,_=>(IH.imp fun ds Q ⟨n,m,e,a,b,c,q⟩=>⟨.plain,n,m,e,rfl,a,b,c,q⟩).mono (by decide)
  | .below,_=>(II.imp fun ds Q ⟨n,m,e,a,b,c,q⟩=>⟨.below,n,m,e,rfl,a,b,c,q⟩).mono (by decide)
  | .balanced,_=>(IJ.imp fun ds Q ⟨n,m,e,a,b,c,q⟩=>⟨.balanced,n,m,e,rfl,a,b,c,q⟩).mono (by decide)
  | .growing,_=>(IK.imp fun ds Q ⟨n,m,e,a,b,c,q⟩=>⟨.growing,n,m,e,rfl,a,b,c,q⟩).mono (by decide)
  | .pairs,_=>(IL.imp fun ds Q ⟨n,m,e,a,b,c,q⟩=>⟨.pairs,n,m,e,rfl,a,b,c,q⟩).mono (by decide)
 have Av:=DOk.mk' F48 m48 b48 (gr T Ad Ag HNo HW F48)
 have AA:=DOk.mk' F49 m49 b49 (yI (P:=l.prog) (w:=w) (base:=base) T F49)
 have AB:DOk l.prog w K mg base 2 "has_figures_alone_writings" (kg A):=⟨_,_,_,m50,F50.kp,b50,yX (P:=l.prog) (w:=w) (base:=base) T HLo F50⟩
 have Ap:=DOk.mk' F51 m51 b51 (qu T AA AB F51)
 have Ae:=DOk.mk' F52 m52 b52 (wx T Ap F52)
 have AD:=DOk.mk' F53 m53 b53 (wT (P:=l.prog) (w:=w) (base:=base) T F53)
 have AE:=DOk.mk' F54 m54 b54 (lq (P:=l.prog) (w:=w) (base:=base) T F54)
 have AF:=DOk.mk' F55 m55 b55 (oj (P:=l.prog) (w:=w) (base:=base) T F55)
 have AC:=DOk.mk' F56 m56 b56 (ly (P:=l.prog) (w:=w) (base:=base) T F56)
 have AG:=AOk.mk' F57 m57 b57 (nQ T AC F57)
 have AH:=TOk.mk' F58 m58 b58 (wS T AD AE AF AG An F58)
 have AI:=FOk.mk' F59 m59 b59 (jF T AH F59)
 have Ak:=FOkX.mk' F60 m60 b60 (ra T AI Ao F60)
 have AJ:=TOkX.mk' F61 m61 b61 (jE T Ae Ak F61)
 have AU:=DOkX.mk' F62 m62 b62 (qp T AJ Ah F62)
 have AK:=DOk.mk' F63 m63 b63 (ol T Ai Am F63)
 have AV:=FOkX.mk' F64 m64 b64 (gv T Ae Aq AK Av F64)
 have Ar:=DOk.mk' F65 m65 b65 (nO T Ad Aj F65)
 have AR:=FOkX.mk' F66 m66 b66 (ag T Ae Ak Ar F66)
 have AN:=DOk.mk' F67 m67 b67 (oh T Ag F67)
 have AL:=AOk.mk' F68 m68 b68 (ah (P:=l.prog) (w:=w) (base:=base) T F68)
 have AM:=DOkX.mk' F69 m69 b69 (tT (P:=l.prog) (w:=w) (base:=base) T F69)
 have AO:=FOkX.mk' F70 m70 b70 (uM T AL AM F70)
 have AS:=FOkX.mk' F71 m71 b71 (gw T Ae Ar AN Ak AO F71)
 have AQ:=DOkX.mk' F72 m72 b72 (gu T Ae Aj F72)
 have AT:=DOkX.mk' F73 m73 b73 (qr T AQ F73)
 have AW:=DOkX.mk' F74 m74 b74 (ua T Ah AR AS AT F74)
 have Au:=FOkX.mk' F75 m75 b75 (nN T Af Ap F75)
 have AZ:=DOkX.mk' F76 m76 b76 (tS T Av AU Af Ah AV As AW Au F76)
 have Al:=DOkX.mk' F77 m77 b77 (af T AX As Ah Aq AY AZ Au F77)
 have A0:=DOk.mk' F78 m78 b78 (qt (P:=l.prog) (w:=w) (base:=base) T F78)
 have A2:=FOk.mk' F79 m79 b79 (rg (P:=l.prog) (w:=w) (base:=base) T F79)
 have A3:=DOk.mk' F80 m80 b80 (uN (P:=l.prog) (w:=w) (base:=base) T F80)
 have A4:=DOk.mk' F81 m81 b81 (tU (P:=l.prog) (w:=w) (base:=base) T F81)
 have A5:=DOk.mk' F82 m82 b82 (tV (P:=l.prog) (w:=w) (base:=base) T F82)
 have A7:=DOk.mk' F83 m83 b83 (lu T A0 A2 A3 A4 A5 F83)
 have A8:=DOk.mk' F84 m84 b84 (rd T Al F84)
 have A9:=DOk.mk' F85 m85 b85 (lv (P:=l.prog) (w:=w) (base:=base) T F85)
 exact Tm T A6 Al A7 A8 A9 F86
theorem walk{l:PySem.W.OpenLaw}{q:Program}{loose:List Str}{XP:(Str→Option Value)→Heap→Prop}{YP:World→Heap→Prop}{d:DefRec}{K:Params→PySem.W.Frag}(hn:l.most=some 63)(hdf:d.params.defaults=[])
  (hY:∀(w:World)(h:Heap),YP w h→(K w.params).In h)
  (F:∀(w:World)(mg:be)(fa:Addr)(h:Heap),(K w.params).In h→h.Ns mainGlobals mg→mg d.name=some (.ref fa)→
   ∃fd:FuncData,(∀(s:Shared)(u:Value),BindsTo s fd ⟨[u],[]⟩ [("_law_script",u)])∧∀base:Heap,(K w.params).In base→base.Ns mainGlobals mg→FnOk l.prog w (K w.params) mg base CX0 12 fa fd ["_law_script"] (zw (K w.params) (jd))):
  PySem.W.WalkO q loose XP YP l.row.toRowW d [] (fun f vs=>PySem.call f vs):=
 L2.walk_of (n:=63) (k:=12) (x:="_law_script") (CX:=fun _=>CX0) (sp:=fun w=>zw (K w.params) (jd)) hn (by decide) hdf ⟨rfl,by decide,by decide⟩ hY F (fun w H a ns hl _ hS=>⟨⟨H,H,Same.refl H⟩,[.scr ns],fun d=>d=.bl true,rfl,allIs_cons.mpr ⟨_,_,rfl,is_scr.mpr ⟨a,rfl,hS⟩,allIs_nil.mpr rfl⟩,⟨ns,rfl,hl,rfl⟩,fun d v W' _ i e=>by subst e;exact is_bl.mp i⟩) fun _ _ _ _ _ z=>z
end My
local macro_rules | `(tactic| walk_at "fx") => `(tactic| (refine' My.FX.mk ?l ?c ?k; (case l => k_is); (case c => k_is); (case k => k_is)))
local macro_rules | `(tactic| walk_at "pp") => `(tactic| (repeat (with_reducible refine' And.intro ?a ?_; (case a => walk_at "pq"))); walk_at "pq")
local macro_rules | `(tactic| walk_at "pq") => `(tactic| (repeat (with_reducible refine' And.intro ?a ?_; (case a => walk_at "kk"))); walk_at "kk")
local macro_rules | `(tactic| walk_at "kk") => `(tactic| first | k_is | kit_is | kts_exm | (delta L2.ExcK; k_exc) | (delta My.Fi; k_is) | (delta My.Zn; k_is) | (delta My.Gs; k_is) | (delta My.Gc; k_is) | (delta My.Ki; kit_is) | (delta My.FD; refine ⟨?a, ?b⟩; (case a => k_is); (case b => walk_at "fx")) | (delta My.FE; refine ⟨?a, ?b⟩; (case a => k_is); (case b => walk_at "fx")) | (delta My.FM; refine ⟨?a, ?b⟩; (case a => k_is); (case b => walk_at "fx")) | (refine ⟨⟨?_, ?_, ?_, ?_⟩, ?_, ?_, ?_⟩ <;> k_is) | (refine ⟨?_, ?_, ?_, ?_, ?_, ?_, ?_⟩ <;> k_is) | (refine ⟨?_, ?_⟩ <;> k_is) | kernel_rfl)
open PySem PySem.W PyProof.Rows
set_option maxRecDepth 100000 in
set_option maxHeartbeats 0 in
theorem PySem.Challenge.cw_oddbases_k60_rows_refused_holds : PySem.Challenge.rw_oddbases_k60_rows_refused.Holds := by
 w_on;o_law
 refine holds_open (q:=My.h_view_39) (loose:=["has_figures_alone_writings","has_figures_alone_texts","COUNTS"]) (Xt:=(fun s=>xlAt My.h_view_39 [] s&&recOk (RowW.records (OpenRow.toRowW PySem.Challenge.rw_oddbases_k60_rows_refused.row)) s)) (XP:=XL My.h_view_39 []) (Yf:=Hook.obs (kHook My.h_heap_39 My.myAs My.myE)) (Ya:=Hook.val (kHook My.h_heap_39 My.myAs My.myE)) (YP:=Hook.says (kHook My.h_heap_39 My.myAs My.myE)) (N:=15414) My.left (Hook.of _) (Hook.keeps _) (fun s e=>xl_of s (Bool.and_eq_true_iff.mp e).1) XL.keeps (by rfl) (by rfl) (by rfl) (fun s e=>recFacts_of (Bool.and_eq_true_iff.mp e).2) (by rfl) (by first|assumption|decide +kernel) (by decide +kernel) ⟨rfl,rfl,rfl,rfl,rfl,by decide +kernel⟩ ?hw ?hc
 case hw=>w_witness2
 k_fill
 refine My.walk (l:=PySem.Challenge.rw_oddbases_k60_rows_refused) rfl rfl (fun w h Y=>PySem.W.kIn_of Y) ?F
 case F=>
  intro w mg fa h KX G hmg
  refine' My.all_mk KX G hmg ?h
  case h=>walk_at "pp"
