import PyProof.Rows.All
import Wide.All
import OpenK.AllK
import Wide.FinOn
import Lean
import PyProof.EqAt
import PyProof.EqKinds
import PyProof.TupleCall
import PyProof.NeKinds
import PySem.Challenge.RW_oddbases_k59_rows_answered
set_option Elab.async false
set_option linter.all false
set_option maxRecDepth 100000
set_option bootstrap.genMatcherCode false
noncomputable section
local macro_rules | `(tactic| walk_at "v") => `(tactic| first | exact Or.inl rfl | exact Or.inr (Or.inl rfl) | exact Or.inr (Or.inr rfl))
local macro_rules | `(tactic| walk_at "f") => `(tactic| first | exact .inl rfl | exact .inr rfl | assumption)
abbrev Bq:=PySem.W.Frag
theorem Br:type_of% @List.getD_eq_getElem?_getD:=@List.getD_eq_getElem?_getD
theorem Bs:type_of% @List.length_map:=@List.length_map
theorem Bt:type_of% @Int.mul_le_mul_of_nonneg_right:=@Int.mul_le_mul_of_nonneg_right
theorem Bu:type_of% @List.getElem?_eq_getElem:=@List.getElem?_eq_getElem
theorem Bv:type_of% @List.length_append:=@List.length_append
theorem Bw:type_of% @Bool.false_ne_true:=@Bool.false_ne_true
theorem Bx:type_of% @List.getElem?_map:=@List.getElem?_map
theorem By:type_of% @Nat.le_refl:=@Nat.le_refl
theorem Bz:type_of% @Int.fmod_nonneg_of_pos:=@Int.fmod_nonneg_of_pos
theorem BB:type_of% @Int.mul_le_mul_of_nonneg_left:=@Int.mul_le_mul_of_nonneg_left
theorem BC:type_of% @List.size_toArray:=@List.size_toArray
theorem BD:type_of% @List.mem_singleton:=@List.mem_singleton
theorem BE:type_of% @List.mem_cons:=@List.mem_cons
theorem BF:type_of% @Int.fmod_lt_of_pos:=@Int.fmod_lt_of_pos
theorem BG:type_of% @List.getElem?_eq_none:=@List.getElem?_eq_none
theorem BH:type_of% @List.mem_of_getElem?:=@List.mem_of_getElem?
theorem BI:type_of% @List.mem_cons_of_mem:=@List.mem_cons_of_mem
theorem BJ:type_of% @List.mem_cons_self:=@List.mem_cons_self
theorem BK:type_of% @List.getElem?_set_ne:=@List.getElem?_set_ne
theorem BL:type_of% @Bool.and_eq_true:=@Bool.and_eq_true
theorem BM:type_of% @List.length_cons:=@List.length_cons
theorem BN:type_of% @Int.mul_zero:=@Int.mul_zero
theorem BO:type_of% @Nat.lt_of_lt_of_le:=@Nat.lt_of_lt_of_le
theorem BP:type_of% @Int.mul_le_mul:=@Int.mul_le_mul
theorem BQ:type_of% @List.length_reverse:=@List.length_reverse
theorem BR:type_of% @List.mem_map:=@List.mem_map
theorem BS:type_of% @Nat.le_trans:=@Nat.le_trans
theorem BU:type_of% @Option.map_eq_some_iff:=@Option.map_eq_some_iff
theorem BV:type_of% @Int.zero_mul:=@Int.zero_mul
theorem BW:type_of% @Int.le_refl:=@Int.le_refl
theorem BX:type_of% @Int.mul_nonneg:=@Int.mul_nonneg
theorem BY:type_of% @Nat.ne_of_lt:=@Nat.ne_of_lt
theorem B0:type_of% @List.getElem?_set_self:=@List.getElem?_set_self
theorem B1:type_of% @List.getElem?_append_right:=@List.getElem?_append_right
theorem B2:type_of% @List.getElem?_append_left:=@List.getElem?_append_left
theorem B3:type_of% @List.map_append:=@List.map_append
theorem B4:type_of% @Nat.zero_le:=@Nat.zero_le
theorem B5:type_of% @Int.natAbs_natCast:=@Int.natAbs_natCast
theorem B6:type_of% @Nat.pow_le_pow_right:=@Nat.pow_le_pow_right
theorem B7:type_of% @List.mem_append:=@List.mem_append
theorem B8:type_of% @List.length_eq_zero_iff:=@List.length_eq_zero_iff
theorem B9:type_of% @List.drop_eq_getElem_cons:=@List.drop_eq_getElem_cons
theorem B_:type_of% @List.length_set:=@List.length_set
theorem B':type_of% @List.mem_reverse:=@List.mem_reverse
theorem Ca:type_of% @Nat.lt_or_ge:=@Nat.lt_or_ge
theorem Cb:type_of% @Int.toNat_natCast:=@Int.toNat_natCast
theorem Cc:type_of% @Int.mul_one:=@Int.mul_one
theorem Cd:type_of% @List.getElem?_eq_some_iff:=@List.getElem?_eq_some_iff
theorem Ce:type_of% @Nat.lt_trans:=@Nat.lt_trans
theorem Cf:type_of% @Int.natAbs_mul:=@Int.natAbs_mul
theorem Cg:type_of% @List.map_cons:=@List.map_cons
theorem Ch:type_of% @List.length_range:=@List.length_range
theorem Ci:type_of% @Int.mul_comm:=@Int.mul_comm
theorem Cj:type_of% @Nat.lt_of_le_of_lt:=@Nat.lt_of_le_of_lt
theorem Ck:type_of% @Nat.lt_irrefl:=@Nat.lt_irrefl
theorem Cm:type_of% @List.append_nil:=@List.append_nil
theorem Cn:type_of% @Nat.not_lt_zero:=@Nat.not_lt_zero
theorem Co:type_of% @List.all_eq_true:=@List.all_eq_true
theorem Cp:type_of% @Int.add_zero:=@Int.add_zero
theorem Cq:type_of% @List.replicate_succ:=@List.replicate_succ
theorem Cr:type_of% @List.mem_append_right:=@List.mem_append_right
theorem Cs:type_of% @List.length_replicate:=@List.length_replicate
theorem Ct:type_of% @Nat.pow_add:=@Nat.pow_add
theorem Cu:type_of% @Nat.mul_le_mul_right:=@Nat.mul_le_mul_right
theorem Cv:type_of% @Int.mul_neg:=@Int.mul_neg
theorem Cw:type_of% @List.flatten_cons:=@List.flatten_cons
theorem Cy:type_of% @List.map_map:=@List.map_map
theorem CA:type_of% @List.getElem?_range:=@List.getElem?_range
theorem CB:type_of% @Int.lt_or_le:=@Int.lt_or_le
theorem CC:type_of% @Int.one_mul:=@Int.one_mul
theorem CD:type_of% @List.reverse_cons:=@List.reverse_cons
theorem CF:type_of% @List.reverse_append:=@List.reverse_append
theorem CG:type_of% @Nat.pow_succ:=@Nat.pow_succ
theorem CH:type_of% @Int.add_mul:=@Int.add_mul
theorem CI:type_of% @List.cons_ne_nil:=@List.cons_ne_nil
theorem CJ:type_of% @List.map_reverse:=@List.map_reverse
theorem CK:type_of% @Nat.le_of_ble_eq_true:=@Nat.le_of_ble_eq_true
theorem CL:type_of% @Bool.eq_iff_iff:=@Bool.eq_iff_iff
theorem CM:type_of% @Int.neg_mul_neg:=@Int.neg_mul_neg
theorem CN:type_of% @Int.le_trans:=@Int.le_trans
theorem CO:type_of% @Int.mul_fdiv_cancel_left:=@Int.mul_fdiv_cancel_left
theorem CP:type_of% @List.getElem?_replicate:=@List.getElem?_replicate
theorem CQ:type_of% @List.take_succ:=@List.take_succ
theorem CS:type_of% @Int.mul_add:=@Int.mul_add
theorem CT:type_of% @List.take_of_length_le:=@List.take_of_length_le
theorem CU:type_of% @List.append_assoc:=@List.append_assoc
theorem CV:type_of% @List.reverse_reverse:=@List.reverse_reverse
theorem CW:type_of% @Int.neg_mul:=@Int.neg_mul
theorem CY:type_of% @Nat.mul_le_mul:=@Nat.mul_le_mul
theorem CZ:type_of% @List.drop_zero:=@List.drop_zero
theorem C0:type_of% @Nat.succ_ne_self:=@Nat.succ_ne_self
theorem C1:type_of% @Nat.le_add_right:=@Nat.le_add_right
theorem C2:type_of% @Nat.zero_add:=@Nat.zero_add
theorem C3:type_of% @List.all_cons:=@List.all_cons
theorem C4:type_of% @List.any_cons:=@List.any_cons
abbrev ug(x:PySem.Str):Prop:=(x==("__debug__":PySem.Str))=false
abbrev we(x:PySem.Str):Prop:=(x==("__classdict__":PySem.Str))=false
abbrev J'(v:PySem.Env)(e:PySem.Expr)(es:List PySem.Expr):Prop:=PySem.starEach (e::es) v=(false,PySem.eval e v)::PySem.starEach es v
abbrev K'(v:PySem.Env)(p:PySem.Pos)(es:List PySem.Expr):Prop:=(PySem.backTo p (PySem.starEach es v)).any (·.1)=false
abbrev am:=List (PySem.Addr×PySem.Obj)
abbrev be:=PySem.Str→Option PySem.Value
abbrev cp:=PySem.Value→PySem.Shared→Prop
namespace L2
open PySem PySem.Spec PyProof.Rows
abbrev Key:=Sum Int Str
def Vn:Key→Value→Bool
 | .inl k,v=>Value.isInt k v
 | .inr x,v=>Value.isStrOf x v
def Hg(w:World):Key→Int
 | .inl k=>hashInt k
 | .inr x=>hashStr w x
theorem yn:∀{k:Key}{v:Value},Vn k v=true→(∃i t,k=Sum.inl i∧v=Value.int i t)∨(∃x t,k=Sum.inr x∧v=Value.str x t)
 | .inl i,v,h=>by
  obtain⟨t,e⟩:=Value.isInt_shape (k:=i) (v:=v) h
  exact .inl ⟨i,t,rfl,e⟩
 | .inr x,v,h=>by
  obtain⟨t,e⟩:=Value.isStrOf_shape (x:=x) (v:=v) h
  exact .inr ⟨x,t,rfl,e⟩
def UI(a b:Int):decide ((Sum.inl a:Key)=Sum.inl b)=(a==b):=by
 by_cases e:a=b
 ·subst e;simp
 ·have h:¬(Sum.inl a:Key)=Sum.inl b:=fun q=>e (Sum.inl.inj q)
  rw[decide_eq_false h]
  exact(beq_eq_false_iff_ne.mpr e).symm
def UF(a b:Str):decide ((Sum.inr a:Key)=Sum.inr b)=decide (a=b):=by
 by_cases e:a=b
 ·subst e;simp
 ·have h:¬(Sum.inr a:Key)=Sum.inr b:=fun q=>e (Sum.inr.inj q)
  rw[decide_eq_false h,decide_eq_false e]
def UH(a:Int)(b:Str):decide ((Sum.inl a:Key)=Sum.inr b)=false:=decide_eq_false (fun q=>nomatch q)
def UG(a:Str)(b:Int):decide ((Sum.inr a:Key)=Sum.inl b)=false:=decide_eq_false (fun q=>nomatch q)
def kG(prog:Program)(w:World):PySem.KeyKind prog w Key where
 is:=Vn
 hash:=Hg w
 inj:=fun v a b ha hb=>by
  rcases yn ha with ⟨i,t,rfl,rfl⟩|⟨x,t,rfl,rfl⟩
  ·rcases yn hb with ⟨j,u,rfl,e⟩|⟨y,u,rfl,e⟩
   ·injection e with e1 _;rw[e1]
   ·exact nomatch e
  ·rcases yn hb with ⟨j,u,rfl,e⟩|⟨y,u,rfl,e⟩
   ·exact nomatch e
   ·injection e with e1 _;rw[e1]
 byValue:=fun k v h=>by
  rcases yn h with ⟨i,t,rfl,rfl⟩|⟨x,t,rfl,rfl⟩<;>rfl
 pyHash:=fun hv h=>by
  rcases yn hv with ⟨i,t,rfl,rfl⟩|⟨x,t,rfl,rfl⟩
  ·exact wpAny_pyHash_int h
  ·exact wpAny_pyHash_str h
 eqBool:=fun hu hv h=>by
  rcases yn hu with ⟨i,t,rfl,rfl⟩|⟨x,t,rfl,rfl⟩
  ·rcases yn hv with ⟨j,u,rfl,rfl⟩|⟨y,u,rfl,rfl⟩
   ·rw[UI]at h;exact wpAny_eqBool_int h
   ·rw[UH]at h;exact SeqAt.EqAt.int_str i t y u _ _ _ _ h
  ·rcases yn hv with ⟨j,u,rfl,rfl⟩|⟨y,u,rfl,rfl⟩
   ·rw[UG]at h;exact SeqAt.EqAt.str_int x t j u _ _ _ _ h
   ·rw[UF]at h;exact wpAny_eqBool_str h
 «strs»:=fun k x t v h=>by
  rcases yn h with ⟨i,u,rfl,e⟩|⟨y,u,rfl,e⟩
  ·exact nomatch e
  ·injection e with e1 _
   subst e1
   cases v<;>rfl
inductive V where
 | non|bl (b:Bool)|int (i:Int)|str (x:Str)|byt (b:Array UInt8)|flt (b:UInt64)|ref (a:Addr)|ty (n:String)
 deriving DecidableEq
def RelV:V→Value→Prop
 | .non,u=>u=Value.none
 | .bl b,u=>u=Value.bool b
 | .int i,u=>∃t,u=Value.int i t
 | .str x,u=>∃t,u=Value.str x t
 | .byt b,u=>∃t,u=Value.bytes b t
 | .flt b,u=>∃t,u=Value.float b t
 | .ref a,u=>u=Value.ref a
 | .ty n,u=>u=Value.type n
abbrev Vals:List V→List Value→Prop:=Paired RelV
def Vals.length{xs:List V}{us:List Value}(r:Vals xs us):xs.length=us.length:=Paired.length r
theorem Vals.get:∀{xs:List V}{us:List Value}{i:Nat}{x:V},Vals xs us→xs[i]? = some x→∃u,us[i]? = some u∧RelV x u
 | _,_,_,_,.nil,e=>by simp at e
 | _,_,0,_,.cons r _,e=>by simp at e;subst e;exact⟨_,rfl,r⟩
 | _,_,i+1,x,.cons _ t,e=>by
  obtain⟨u,h1,h2⟩:=Vals.get (i:=i) (x:=x) t (by simpa using e)
  exact⟨u,by simpa using h1,h2⟩
theorem Vals.set{x:V}{u:Value}(r:RelV x u):∀{xs:List V}{us:List Value}(i:Nat),Vals xs us→Vals (xs.set i x) (us.set i u)
 | _,_,_,.nil=>.nil
 | _,_,0,.cons _ t=>.cons r t
 | _,_,i+1,.cons q t=>.cons q (Vals.set r i t)
theorem Vals.append:∀{xs ys:List V}{us ws:List Value},Vals xs us→Vals ys ws→Vals (xs++ys) (us++ws)
 | _,_,_,_,.nil,s=>s
 | _,_,_,_,.cons r t,s=>.cons r (Vals.append t s)
theorem Vals.take:∀{xs:List V}{us:List Value}(n:Nat),Vals xs us→Vals (xs.take n) (us.take n)
 | _,_,0,_=>.nil
 | _,_,_+1,.nil=>.nil
 | _,_,n+1,.cons r t=>.cons r (Vals.take n t)
theorem Vals.drop:∀{xs:List V}{us:List Value}(n:Nat),Vals xs us→Vals (xs.drop n) (us.drop n)
 | _,_,0,r=>r
 | _,_,_+1,.nil=>.nil
 | _,_,n+1,.cons _ t=>Vals.drop n t
def RelO:Option V→Option Value→Prop
 | some v,some u=>RelV v u
 | none,none=>True
 | _,_=>False
def KV{κ:Type}:List (κ×V)→List (κ×Value)→Prop:=Paired fun(p:κ×V)(q:κ×Value)=>p.1=q.1∧RelV p.2 q.2
def kV:Key→V
 | .inl i=>.int i
 | .inr x=>.str x
inductive HO where
 | lst (xs:List V)
 | tup (xs:List V)
 | dK (kvs:List (Key×V))|dT (kvs:List (List Key×V))
 | set (S:Int→Bool) (n:Nat)
 | ins (C dx:Addr) (fs:List (Str×V))
 | own (x:Addr)
 | xd (fs:List (Str×V))
 | met (f x:Addr)
 | rng (lo hi:Int)
 | frz (o:Obj) (u:HO)
 | tbl (ps:Array Value)
 | ext (φ:Heap→Prop)
abbrev Hp:=Addr→Option HO
def upd(H:Hp)(a:Addr)(o:HO):Hp:=fun b=>if b=a then some o else H b
def zB{H:Hp}{a:Addr}{o:HO}:upd H a o a=some o:=by unfold upd;rw[if_pos rfl]
def zC{H:Hp}{a b:Addr}{o:HO}(h:b≠a):upd H a o b=H b:=by unfold upd;rw[if_neg h]
def yr{H:Hp}{a b:Addr}{o:HO}(h:H a=some o)(h':H b=none):a≠b:=by
 intro e;subst e;rw[h]at h';cases h'
section
variable(P:Program)(w:World)
def ObjOk(H:Hp)(h:Heap)(a:Addr):HO→Prop
 | .lst xs=>xs.length≤sizeLine∧∃(its:List Value)(n:Nat),Vals xs its∧h.get? a=some { cls:=.type "list",data:=.seq its.toArray n }
 | .tup xs=>xs.length≤sizeLine∧∃its:List Value,Vals xs its∧IsTup h a its.toArray
 | .dK kvs=>kvs.length≤sizeLine∧(a==sysModules)=false∧∃vs,KV kvs vs∧h.DictOf (kG P w) a vs
 | .dT kvs=>kvs.length≤sizeLine∧(a==sysModules)=false∧∃xs:List (List Key×Addr×Value),
   Paired (fun(p:List Key×V)(q:List Key×Addr×Value)=>p.1=q.1∧H q.2.1=some (.tup (p.1.map kV))∧RelV p.2 q.2.2) kvs xs∧
   ∃o es ep,h.get? a=some o∧o.ExactDict∧o.data=.dict es ep∧es.toList=xs.map (entryOfKey (tupleKind (kG P w)))∧(xs.map (·.1)).Nodup
 | .set S n=>h.SetOf (intKind P w) a S n
 | .ins C dx fs=>H dx=some (.own a)∧fs.length≤1000∧dx≠a∧h.get? a=some (PySem.W.instObj C dx)∧
   ∃mA,h.Ns1 dx mA∧(∀f,RelO (fs.lookup f) (mA f))∧PySem.Within mA (fs.map (·.1))
 | .own _=>∃o,h.get? a=some o
 | .xd fs=>∃mA,h.Ns1 a mA∧∀f,RelO (fs.lookup f) (mA f)
 | .rng lo hi=>∃t u v,h.get? a=some { cls:=.type "range",data:=.fields #[.int lo t,.int hi u,.int 1 v] }
 | .frz o u=>h.get? a=some o∧ObjOk H h a u
 | .tbl ps=>h.get? a=some { cls:=.none,data:=.fields ps }
 | .met f x=>h.get? a=some (PySem.W.methodObj (.ref f) (.ref x))
 | .ext φ=>φ h∧(∃o,h.get? a=some o)∧∀h1 h2:Heap,φ h1→(∀o,h1.get? a=some o→h2.get? a=some o)→φ h2
def HOk(H:Hp)(h:Heap):Prop:=∀a o,H a=some o→ObjOk P w H h a o
end
section
variable{P:Program}{w:World}{H H':Hp}{h h':Heap}{a:Addr}{o:HO}
def ObjOk.lt(x:ObjOk P w H h a o):a<h.objs.size:=by
 cases o with
 | lst xs=>obtain⟨_,_,_,_,e⟩:=x;exact Heap.lt_size e
 | tup xs=>obtain⟨_,_,_,p⟩:=x;exact p.lt
 | dK kvs=>obtain⟨_,_,_,_,o,_,_,e,_⟩:=x;exact Heap.lt_size e
 | dT kvs=>obtain⟨_,_,_,_,o,_,_,e,_⟩:=x;exact Heap.lt_size e
 | set S n=>obtain⟨o,_,_,_,e,_⟩:=x;exact Heap.lt_size e
 | ins C dx fs=>obtain⟨_,_,_,e,_⟩:=x;exact Heap.lt_size e
 | own y=>obtain⟨_,e⟩:=x;exact Heap.lt_size e
 | xd fs=>obtain⟨_,⟨_,_,_,e,_⟩,_⟩:=x;exact Heap.lt_size e
 | rng lo hi=>obtain⟨_,_,_,e⟩:=x;exact Heap.lt_size e
 | frz ob u=>obtain⟨e,_⟩:=x;exact Heap.lt_size e
 | tbl ps=>exact Heap.lt_size (show h.get? a=some _ from x)
 | met f y=>exact Heap.lt_size (show h.get? a=some _ from x)
 | ext φ=>obtain⟨_,⟨_,e⟩,_⟩:=x;exact Heap.lt_size e
theorem Paired.mapP{α β:Type}{F G:α→β→Prop}:∀{l₁:List α}{l₂:List β},Paired F l₁ l₂→(∀a b,F a b→G a b)→Paired G l₁ l₂
 | _,_,.nil,_=>.nil
 | _,_,.cons r t,f=>.cons (f _ _ r) (Paired.mapP t f)
theorem ObjOk.stay(x:ObjOk P w H h a o)(k:∀b u,(b=a∨H b=some (.own a))→h.get? b=some u→h'.get? b=some u)
  (ho:∀b,H b=some (.own a)→H' b=some (.own a)) (ht:∀b xs,H b=some (.tup xs)→H' b=some (.tup xs)):ObjOk P w H' h' a o:=by
 induction o with
 | lst xs=>obtain⟨z,its,n,r,e⟩:=x;exact⟨z,its,n,r,k _ _ (.inl rfl) e⟩
 | tup xs=>obtain⟨z,its,r,ob,e,c⟩:=x;exact⟨z,its,r,ob,k _ _ (.inl rfl) e,c⟩
 | dK kvs=>obtain⟨z,y,vs,r,ob,es,ep,e,c⟩:=x;exact⟨z,y,vs,r,ob,es,ep,k _ _ (.inl rfl) e,c⟩
 | dT kvs=>
  obtain⟨z,y,xs,r,ob,es,ep,e,c⟩:=x
  exact⟨z,y,xs,Paired.mapP r fun p q z=>⟨z.1,ht _ _ z.2.1,z.2.2⟩,ob,es,ep,k _ _ (.inl rfl) e,c⟩
 | set S n=>obtain⟨ob,es,ep,t,e,c⟩:=x;exact⟨ob,es,ep,t,k _ _ (.inl rfl) e,c⟩
 | ins C dx fs=>
  obtain⟨d,z,ne,e,mA,⟨od,es,ep,e2,c⟩,r⟩:=x
  exact⟨ho _ d,z,ne,k _ _ (.inl rfl) e,mA,⟨od,es,ep,k _ _ (.inr d) e2,c⟩,r⟩
 | own y=>obtain⟨ob,e⟩:=x;exact⟨ob,k _ _ (.inl rfl) e⟩
 | xd fs=>obtain⟨mA,⟨od,es,ep,e,c⟩,r⟩:=x;exact⟨mA,⟨od,es,ep,k _ _ (.inl rfl) e,c⟩,r⟩
 | rng lo hi=>obtain⟨t,u,v,e⟩:=x;exact⟨t,u,v,k _ _ (.inl rfl) e⟩
 | frz ob u ih=>obtain⟨e,q⟩:=x;exact⟨k _ _ (.inl rfl) e,ih q⟩
 | tbl ps=>
  have e:h.get? a=some { cls:=.none,data:=.fields ps }:=x
  show h'.get? a=some { cls:=.none,data:=.fields ps }
  exact k a _ (.inl rfl) e
 | met f y=>
  have e:h.get? a=some (PySem.W.methodObj (.ref f) (.ref y)):=x
  show h'.get? a=some (PySem.W.methodObj (.ref f) (.ref y))
  exact k a _ (.inl rfl) e
 | ext φ=>obtain⟨p,⟨o,e⟩,st⟩:=x;exact⟨st _ _ p fun o q=>k _ _ (.inl rfl) q,⟨o,k _ _ (.inl rfl) e⟩,st⟩
def HOk.lt(x:HOk P w H h)(e:H a=some o):a<h.objs.size:=(x a o e).lt
def HOk.fresh(x:HOk P w H h)(e:h.objs.size≤a):H a=none:=by
 cases q:H a with
 | none=>rfl
 | some u=>exact absurd (BO (x.lt q) e) (Ck _)
def HOk.kept(x:HOk P w H h)(k:∀b u,h.get? b=some u→h'.get? b=some u):HOk P w H h':=fun a o e=>
 (x a o e).stay (fun b u _ q=>k b u q) (fun _ q=>q) fun _ _ q=>q
def HOk.laid(x:HOk P w H h)(k:∀b u,h.get? b=some u→h'.get? b=some u)(hp:h.objs.size≤a)(new:ObjOk P w (upd H a o) h' a o):HOk P w (upd H a o) h':=fun b u e=>by
 have hn:=x.fresh hp
 by_cases hb:b=a
 ·subst hb;rw[zB]at e;cases e;exact new
 ·rw[zC hb]at e
  exact(x b u e).stay (fun c v _ q=>k c v q) (fun c q=>by rw[zC (yr q hn)];exact q) fun c xs q=>by rw[zC (yr q hn)];exact q
end
def Rd(H:Hp)(a:Addr)(u:HO):Prop:=H a=some u∨∃o,H a=some (.frz o u)
def Rd.ok{P:Program}{w:World}{H:Hp}{h:Heap}{a:Addr}{u:HO}(r:Rd H a u)(x:HOk P w H h):ObjOk P w H h a u:=by
 rcases r with r|⟨o,r⟩
 ·exact x a u r
 ·obtain⟨_,q⟩:=x a _ r
  exact q
def Mut:Option HO→Prop
 | some (.lst _)=>True
 | some (.dK _)=>True
 | some (.dT _)=>True
 | some (.set _ _)=>True
 | some (.ins _ _ _)=>True
 | some (.ext _)=>True
 | _=>False
section
variable{P:Program}{w:World}{H:Hp}{h h':Heap}{x e:Addr}{o':HO}
theorem HOk.write(ok:HOk P w H h)(mu:Mut (H x))(he:e=x∨H e=some (.own x))(k:∀b u,b≠e→h.get? b=some u→h'.get? b=some u)(heo:∃u,h'.get? e=some u)
  (new:ObjOk P w (upd H x o') h' x o'):HOk P w (upd H x o') h':=fun b u q=>by
 have nown:∀c y,H c=some (.own y)→c≠x:=fun c y r z=>by subst z;rw[r]at mu;exact mu
 have ntup:∀c xs,H c=some (.tup xs)→c≠x:=fun c xs r z=>by subst z;rw[r]at mu;exact mu
 by_cases hb:b=x
 ·subst hb;rw[zB]at q;cases q;exact new
 ·rw[zC hb]at q
  by_cases hbe:b=e
  ·have q':H b=some (.own x):=by
    rcases he with z|z
    ·exact absurd (hbe.trans z) hb
    ·rw[hbe];exact z
   rw[q]at q';cases q'
   obtain⟨v,hv⟩:=heo
   exact⟨v,by rw[hbe];exact hv⟩
  ·refine(ok b u q).stay (fun c v hc r=>k c v ?_ r) (fun c r=>by rw[zC (nown c b r)];exact r) fun c xs r=>by rw[zC (ntup c xs r)];exact r
   rcases hc with rfl|hc
   ·exact hbe
   ·rintro rfl
    rcases he with z|z
    ·exact nown c b hc z
    ·rw[hc]at z;cases z;exact hb rfl
end
structure Un(fs ex:List Addr)(H H':Hp)(h h':Heap):Prop where
 keep:∀b o,h.get? b=some o→H b=none→b∉fs→b∉ex→h'.get? b=some o
 slot:∀b o,h.get? b=some o→H b=none→b∈fs→b∉ex→∃sl,h'.get? b=some { o with slots:=sl }
 free:∀b o,h.get? b=some o→H b=none→b∉ex→H' b=none
 there:∀b o,h.get? b=some o→b∉ex→∃o',h'.get? b=some o'
 tups:∀b xs,H b=some (.tup xs)→H' b=some (.tup xs)
 frzs:∀b o u,H b=some (.frz o u)→H' b=some (.frz o u)
 tbls:∀b ps,H b=some (.tbl ps)→∃more,H' b=some (.tbl (ps++more))
section
variable{fs ex:List Addr}{H H1:Hp}{h h1 h':Heap}{a x e:Addr}{o:HO}
def Un.any(u:Un fs ex H H1 h h1){b:Addr}{ob:Obj}(q:h.get? b=some ob)(n:H b=none)(hx:b∉ex):∃sl,h1.get? b=some { ob with slots:=sl }:=by
 by_cases hb:b∈fs
 ·exact u.slot b ob q n hb hx
 ·exact⟨ob.slots,u.keep b ob q n hb hx⟩
def Un.kept(k:∀b u,h.get? b=some u→h'.get? b=some u):Un fs ex H H h h':=
 ⟨fun b ob q _ _ _=>k b ob q,fun b ob q _ _ _=>⟨ob.slots,k b ob q⟩,fun _ _ _ n _=>n,fun b ob q _=>⟨ob,k b ob q⟩,fun _ _ q=>q,fun _ _ _ q=>q,fun _ ps q=>⟨#[],by rw[q];simp⟩⟩
def Un.refl:Un fs ex H H h h:=Un.kept fun _ _ q=>q
theorem Un.laid(k:∀b u,h.get? b=some u→h'.get? b=some u)(hp:h.objs.size≤a)(hn:H a=none):Un fs ex H (upd H a o) h h' where
 keep:=fun b u q _ _ _=>k b u q
 slot:=fun b u q _ _ _=>⟨u.slots,k b u q⟩
 free:=fun b u q n _=>by rw[zC (BY (BO (Heap.lt_size q) hp))];exact n
 there:=fun b u q _=>⟨u,k b u q⟩
 tups:=fun b xs q=>by rw[zC (yr q hn)];exact q
 frzs:=fun b u xs q=>by rw[zC (yr q hn)];exact q
 tbls:=fun b ps q=>⟨#[],by rw[zC (yr q hn),q];simp⟩
def Un.write(mu:Mut (H x))(he:e=x∨H e=some (.own x))(k:∀b u,b≠e→h.get? b=some u→h'.get? b=some u)(heo:∃u,h'.get? e=some u):Un fs ex H (upd H x o) h h':=by
 have hx:∀b,H b=none→b≠x:=fun b n z=>by subst z;rw[n]at mu;exact mu
 have hb:∀b,H b=none→b≠e:=fun b n z=>by
  subst z
  rcases he with r|r
  ·exact hx b n r
  ·rw[n]at r;cases r
 have hm:∀b u,H b=some u→¬Mut (some u)→b≠x:=fun b u q nm z=>by subst z;rw[q]at mu;exact nm mu
 refine⟨fun b u q n _ _=>k b u (hb b n) q,fun b u q n _ _=>⟨u.slots,k b u (hb b n) q⟩,fun b u q n _=>by rw[zC (hx b n)];exact n,fun b u q _=>?_,
  fun b xs q=>by rw[zC (hm b _ q fun z=>z)];exact q,fun b u xs q=>by rw[zC (hm b _ q fun z=>z)];exact q,fun b ps q=>⟨#[],by rw[zC (hm b _ q fun z=>z),q];simp⟩⟩
 by_cases hbe:b=e
 ·subst hbe;exact heo
 ·exact⟨u,k b u hbe q⟩
end
def trk(h:Heap)(H:Hp):List Addr:=(List.range h.objs.size).filter fun a=>(H a).isSome
def kQ(h:Heap)(H:Hp):Heap:=PySem.W.hideAll h (trk h H)
def bL(h:Heap)(H:Hp):(kQ h H).objs.size=h.objs.size:=PySem.W.hideAll_size _ _
def ZN{h:Heap}{H:Hp}{b:Addr}{o:Obj}(e:h.get? b=some o)(n:H b=none):(kQ h H).get? b=some o:=
 PySem.W.hideAll_get _ e fun hm=>by
  have q:(H b).isSome=true:=(List.mem_filter.mp hm).2
  rw[n]at q;simp at q
def Xy{h:Heap}{H:Hp}{b:Addr}{o:Obj}(e:(kQ h H).get? b=some o):h.get? b=some o∧H b=none:=by
 have e':h.get? b=some o:=PySem.W.of_hideAll (trk h H) e
 refine⟨e',?_⟩
 cases q:H b with
 | none=>rfl
 | some x=>
  have hm:b∈trk h H:=List.mem_filter.mpr ⟨List.mem_range.mpr (Heap.lt_size e'),by simp[q]⟩
  have z:(kQ h H).get? b=none:=PySem.W.hideAll_none (trk h H) hm
  rw[z]at e;cases e
def Wg(g h:Heap)(L:Addr):List (Addr×Obj):=(List.range h.objs.size).filterMap fun a=>if a=L∨(g.get? a).isSome=true then none else(h.get? a).map fun o=>(a,o)
def y_(g h:Heap)(L d:Addr):List (Addr×Obj):=(Wg g h L).filter fun p=>decide (p.1≠d)
structure Mod(K:Bq)(mg:be)(base:Heap):Prop where
 kin:K.In base
 glob:base.Ns mainGlobals mg
 blt:∃mb,base.Ns builtinsNs mb∧∀x:Str,x≠"__name__"→mb x=bootBuiltins x
 nolimit:base.NoLimit
structure Cx where
 prog:Program
 w:World
 K:PySem.W.Frag
 mg:Str→Option Value
 base:Heap
 A:Around
 N:List Str
 s₀:Shared
 H₀:Hp
 env:Env
 outer:List Env
 stack:List Env
 ex:List Addr
 fn:Str→Bool
 calm:Bool
 pn:List (Addr×Obj)
 xe:Value→Shared→Prop
def frs(l:List Env):List Addr:=l.filterMap (·.frame)
abbrev Cx.fs(X:Cx):List Addr:=frs X.outer
def Vis(sc:Scope)(x:Str):Prop:=sc.names.lookup x=some .local∨sc.names.lookup x=some .cell∨sc.names.lookup x=some .free
def Loc(sc:Scope)(x:Str):Prop:=sc.names.lookup x=some .local∨sc.names.lookup x=some .cell
def HV(env:Env)(h:Heap)(m:be)(x:Str)(u:Value):Prop:=
 (env.kindOf x=some .local∧m x=some u)∨((env.kindOf x=some .cell∨env.kindOf x=some .free)∧∃c,env.cells.lookup x=some c∧h.IsCell c (some u))
structure Cx.Ok(X:Cx):Prop where
 mod:Mod X.K X.mg X.base
 kind:X.env.scope.kind=.function
 glob:X.env.globals=mainGlobals
 blt:X.env.builtins=builtinsNs
 above:X.s₀.heap.objs.size≤X.env.locals
 inj:∀x y c,X.env.cells.lookup x=some c→X.env.cells.lookup y=some c→x=y
 has:∀x,(X.env.kindOf x=some .cell∨X.env.kindOf x=some .free)→∃c,X.env.cells.lookup x=some c
 cab:∀x c,X.fn x=true→X.env.cells.lookup x=some c→X.s₀.heap.objs.size≤c
 hd:X.calm=true→X.A.handled=none
 frames:X.A.frames=some X.stack
 stk:X.stack=X.outer∨(X.stack=X.env::X.outer∧X.env.frame=some X.env.locals)
 exf:∀b∈X.ex,b≠X.env.locals∧∀x c,X.env.cells.lookup x=some c→c≠b
 bs:∀b o,X.base.get? b=some o→X.s₀.heap.get? b=some o∧X.H₀ b=none
 bsz:X.base.objs.size≤X.s₀.heap.objs.size
 noex:∀b o,X.base.get? b=some o→b∉X.ex
 exfs:∀b∈X.ex,b∉X.fs
 funs:X.s₀.heap.FunFrames X.base X.outer
 frf:∀b∈X.fs,X.H₀ b=none
structure Inv(X:Cx)(f':am)(σ:List (Option V))(H:Hp)(s:Shared):Prop where
 ok:X.Ok
 os:s.os=X.s₀.os
 bare:AllBare s.gens
 base:Un X.fs X.ex X.H₀ H X.s₀.heap s.heap
 loc:∃m,s.heap.Ns X.env.locals m∧∀(i:Nat)(x:Str)(v:V),X.N[i]? = some x→σ[i]? = some (some v)→Vis X.env.scope x→∃u,RelV v u∧HV X.env s.heap m x u
 cell:∀x c,X.env.cells.lookup x=some c→∃v,s.heap.IsCell c v
 free:H X.env.locals=none
 freeC:∀x c,X.env.cells.lookup x=some c→H c=none
 pin:∀p∈X.pn++f',s.heap.get? p.1=some p.2∧H p.1=none∧p.1≠X.env.locals∧p.1∉X.fs∧∀v,p.2.data≠.cell v
 hok:HOk X.prog X.w H s.heap
 len:σ.length=X.N.length
section
variable{X:Cx}{f':am}{σ:List (Option V)}{H H':Hp}{s:Shared}{h':Heap}
def Cx.Ok.nofr(ok:X.Ok){b:Addr}{o:Obj}(e:X.base.get? b=some o):b∉X.fs:=fun hb=>by
 have:=(ok.funs.mem hb).1
 rw[e]at this;cases this
def Inv.bs(I:Inv X f' σ H s):∀b o,X.base.get? b=some o→s.heap.get? b=some o∧H b=none:=fun b o e=>
 ⟨I.base.keep b o (I.ok.bs b o e).1 (I.ok.bs b o e).2 (I.ok.nofr e) (I.ok.noex b o e),I.base.free b o (I.ok.bs b o e).1 (I.ok.bs b o e).2 (I.ok.noex b o e)⟩
def Inv.bk(I:Inv X f' σ H s):∀b o,X.base.get? b=some o→s.heap.get? b=some o:=fun b o e=>(I.bs b o e).1
def Inv.mod(I:Inv X f' σ H s):Mod X.K X.mg X.base:=I.ok.mod
def Inv.kIn(I:Inv X f' σ H s):X.K.In s.heap:=I.ok.mod.kin.keeps I.bk
def Inv.lt(I:Inv X f' σ H s):X.env.locals<s.heap.objs.size:=let⟨_,hn,_⟩:=I.loc;hn.lt
def Inv.sz(I:Inv X f' σ H s):X.s₀.heap.objs.size≤s.heap.objs.size:=BS I.ok.above (Nat.le_of_lt I.lt)
def Inv.nofs(I:Inv X f' σ H s){a:Addr}(h:s.heap.objs.size≤a):a∉X.fs:=fun hb=>by
 obtain⟨_,o,ho,_⟩:=I.ok.funs.mem hb
 exact absurd (BO (Heap.lt_size ho) (BS I.sz h)) (Ck _)
def Inv.cne(I:Inv X f' σ H s):∀x c,X.env.cells.lookup x=some c→c≠X.env.locals:=fun x c e z=>by
 obtain⟨v,o,ho,hd⟩:=I.cell x c e
 obtain⟨m,⟨o',es,ep,ho',hd',_⟩,_⟩:=I.loc
 rw[z,ho']at ho;cases ho;rw[hd']at hd;cases hd
def Inv.funs(I:Inv X f' σ H s):s.heap.FunFrames X.base X.outer:=by
 have all:∀(l:List Env),(∀b∈frs l,b∈X.fs)→X.s₀.heap.FunFrames X.base l→s.heap.FunFrames X.base l:=by
  intro l
  induction l with
  | nil=>intro _ _;trivial
  | cons env r ih=>
   intro hs hl
   obtain⟨hk,⟨L,o,hf,hn,ho,hd⟩,hr⟩:=hl
   have hL:L∈X.fs:=hs L (by unfold frs;rw[List.filterMap_cons,hf];exact List.mem_cons_self)
   obtain⟨sl,e⟩:=I.base.slot L o ho (I.ok.frf L hL) hL fun z=>I.ok.exfs L z hL
   exact⟨hk,⟨L,_,hf,hn,e,hd⟩,ih (fun b hb=>hs b (by unfold frs;rw[List.filterMap_cons,hf];exact List.mem_cons_of_mem _ hb)) hr⟩
 exact all X.outer (fun _ hb=>hb) I.ok.funs
def Inv.stack(I:Inv X f' σ H s):s.heap.FunFrames X.base X.stack:=by
 rcases I.ok.stk with e|⟨e,hf⟩
 ·rw[e];exact I.funs
 ·rw[e]
  obtain⟨m,hn,_⟩:=I.loc
  refine .cons (by rw[I.ok.kind];decide) hf hn ?_ I.funs
  exact Heap.get?_none_of_le (BS I.ok.bsz I.ok.above)
def Inv.stkSub(I:Inv X f' σ H s):∀b∈frs X.stack,b∈X.env.locals::X.fs:=fun b hb=>by
 rcases I.ok.stk with e|⟨e,hf⟩
 ·rw[e]at hb;exact BI _ hb
 ·rw[e]at hb
  unfold frs at hb
  rw[List.filterMap_cons,hf]at hb
  exact hb
def Inv.stkFree(I:Inv X f' σ H s):∀b∈frs X.stack,H b=none:=fun b hb=>by
 rcases BE.mp (I.stkSub b hb) with e|hb
 ·rw[e];exact I.free
 ·obtain⟨_,o,ho,_⟩:=I.ok.funs.mem hb
  exact I.base.free b o ho (I.ok.frf b hb) fun z=>I.ok.exfs b z hb
theorem Inv.step{g':Array GenState}{t':Nat}{d':Drawn}{ch:List Addr}(I:Inv X f' σ H s)
  (hch:∀b∈ch,(b∈X.ex∨X.s₀.heap.objs.size≤b)∧b≠X.env.locals∧(∀x c,X.env.cells.lookup x=some c→c≠b)∧∀p∈X.pn++f',p.1≠b)
  (keep:∀b o,b≠X.env.locals→b∉X.fs→b∉ch→s.heap.get? b=some o→H b=none→h'.get? b=some o)
  (slot:∀b o,b≠X.env.locals→b∈X.fs→b∉ch→s.heap.get? b=some o→H b=none→∃sl,h'.get? b=some { o with slots:=sl }) (free:∀b o,b∉ch→s.heap.get? b=some o→H b=none→H' b=none)
  (there:∀b o,b∉ch→s.heap.get? b=some o→∃o',h'.get? b=some o')
  (tups:∀b xs,H b=some (.tup xs)→H' b=some (.tup xs)) (frzs:∀b o u,H b=some (.frz o u)→H' b=some (.frz o u)) (tbls:∀b ps,H b=some (.tbl ps)→∃more,H' b=some (.tbl (ps++more)))
  (ns:∀m,s.heap.Ns X.env.locals m→h'.Ns X.env.locals m) (hok:HOk X.prog X.w H' h') (hg:AllBare g'):
  Inv X f' σ H' { s with heap:=h',gens:=g',drawn:=d',toks:=t' }:=by
 have neL:∀b o,X.s₀.heap.get? b=some o→b≠X.env.locals:=fun b o e=>BY (BO (Heap.lt_size e) I.ok.above)
 have neC:∀b o,X.s₀.heap.get? b=some o→b∉X.ex→b∉ch:=fun b o e hx hb=>by
  rcases(hch b hb).1 with z|z
  ·exact hx z
  ·exact absurd (BO (Heap.lt_size e) z) (Ck _)
 have cellK:∀x c,X.env.cells.lookup x=some c→∀v,s.heap.IsCell c v→h'.IsCell c v:=fun x c e v ⟨o,ho,hd⟩=>by
  have nch:c∉ch:=fun z=>(hch c z).2.2.1 x c e rfl
  by_cases hc:c∈X.fs
  ·obtain⟨sl,q⟩:=slot c o (I.cne x c e) hc nch ho (I.freeC x c e)
   exact⟨_,q,hd⟩
  ·exact⟨o,keep c o (I.cne x c e) hc nch ho (I.freeC x c e),hd⟩
 refine⟨I.ok,I.os,hg,⟨fun b o e n hb hx=>?_,fun b o e n hb hx=>?_,fun b o e n hx=>?_,fun b o e hx=>?_,fun b xs e=>tups b xs (I.base.tups b xs e),fun b o xs e=>frzs b o xs (I.base.frzs b o xs e),fun b ps e=>?_⟩,?_,fun x c e=>?_,?_,fun x c e=>?_,fun p hp=>?_,hok,I.len⟩
 ·exact keep b o (neL b o e) hb (neC b o e hx) (I.base.keep b o e n hb hx) (I.base.free b o e n hx)
 ·obtain⟨sl,e1⟩:=I.base.slot b o e n hb hx
  obtain⟨sl',e2⟩:=slot b _ (neL b o e) hb (neC b o e hx) e1 (I.base.free b o e n hx)
  exact⟨sl',e2⟩
 ·obtain⟨o',e1⟩:=I.base.there b o e hx
  exact free b o' (neC b o e hx) e1 (I.base.free b o e n hx)
 ·obtain⟨o',e1⟩:=I.base.there b o e hx
  exact there b o' (neC b o e hx) e1
 ·obtain⟨m1,e1⟩:=I.base.tbls b ps e
  obtain⟨m2,e2⟩:=tbls b _ e1
  exact⟨m1++m2,by rw[e2,Array.append_assoc]⟩
 ·obtain⟨m,hn,hl⟩:=I.loc
  refine⟨m,ns m hn,fun i x v e1 e2 e3=>?_⟩
  obtain⟨u,r,l⟩:=hl i x v e1 e2 e3
  refine⟨u,r,?_⟩
  rcases l with l|⟨k,c,e,z⟩
  ·exact .inl l
  ·exact .inr ⟨k,c,e,cellK x c e _ z⟩
 ·obtain⟨v,z⟩:=I.cell x c e
  exact⟨v,cellK x c e v z⟩
 ·obtain⟨m,⟨o,_,_,ho,_⟩,_⟩:=I.loc
  exact free _ o (fun z=>(hch _ z).2.1 rfl) ho I.free
 ·obtain⟨v,o,ho,hd⟩:=I.cell x c e
  exact free c o (fun z=>(hch c z).2.2.1 x c e rfl) ho (I.freeC x c e)
 ·obtain⟨e,n,ne,nf,d⟩:=I.pin p hp
  have nch:p.1∉ch:=fun z=>(hch p.1 z).2.2.2 p hp rfl
  exact⟨keep p.1 p.2 ne nf nch e n,free p.1 p.2 nch e n,ne,nf,d⟩
def Inv.un{t':Nat}(I:Inv X f' σ H s)(u:Un X.fs [] H H' s.heap h')(hok:HOk X.prog X.w H' h'):Inv X f' σ H' { s with heap:=h',toks:=t' }:=by
 obtain⟨m,⟨o,es,ep,ho,r⟩,_⟩:=id I.loc
 obtain⟨sl,hL⟩:=u.any ho I.free (by simp)
 exact I.step (g':=s.gens) (d':=s.drawn) (ch:=[]) (fun _ z=>nomatch z) (fun b o _ hb _ e n=>u.keep b o e n hb (by simp)) (fun b o _ hb _ e n=>u.slot b o e n hb (by simp)) (fun b o _ e n=>u.free b o e n (by simp)) (fun b o _ e=>u.there b o e (by simp)) u.tups u.frzs u.tbls (fun m' hm=>by
  obtain⟨o',es',ep',ho',r'⟩:=hm
  rw[ho]at ho';cases ho'
  exact⟨_,es',ep',hL,r'⟩) hok I.bare
theorem Inv.call{g':Array GenState}{t':Nat}{d':Drawn}{ch:List Addr}(I:Inv X f' σ H s)(u:Un (frs X.stack) ch H H' s.heap h')(hok:HOk X.prog X.w H' h')(hg:AllBare g')
  (hch:∀b∈ch,(b∈X.ex∨X.s₀.heap.objs.size≤b)∧b≠X.env.locals∧(∀x c,X.env.cells.lookup x=some c→c≠b)∧∀p∈X.pn++f',p.1≠b):
  Inv X f' σ H' { s with heap:=h',gens:=g',drawn:=d',toks:=t' }:=by
 obtain⟨m,⟨o,es,ep,ho,r⟩,_⟩:=id I.loc
 obtain⟨sl,hL⟩:=u.any ho I.free fun z=>(hch _ z).2.1 rfl
 exact I.step (ch:=ch) hch (fun b o hL hb hc e n=>u.keep b o e n (fun z=>(BE.mp (I.stkSub b z)).elim hL hb) hc) (fun b o _ _ hc e n=>u.any e n hc) (fun b o hc e n=>u.free b o e n hc) (fun b o hc e=>u.there b o e hc) u.tups u.frzs u.tbls (fun m' hm=>by
  obtain⟨o',es',ep',ho',r'⟩:=hm
  rw[ho]at ho';cases ho'
  exact⟨_,es',ep',hL,r'⟩) hok hg
theorem Inv.turned{t':Nat}{it:Addr}(I:Inv X f' σ H s)(k:∀b o,b≠it→s.heap.get? b=some o→h'.get? b=some o)(hn:H it=none)(hL:it≠X.env.locals)
  (h1:it∈X.ex∨X.s₀.heap.objs.size≤it) (h2:∀x c,X.env.cells.lookup x=some c→c≠it) (h3:∀p∈X.pn++f',p.1≠it):Inv X f' σ H { s with heap:=h',toks:=t' }:=by
 have nit:∀b u,H b=some u→b≠it:=fun b u e z=>by rw[z,hn]at e;cases e
 refine I.step (g':=s.gens) (d':=s.drawn) (ch:=[it]) (fun b hb=>?_) (fun b o _ _ hc e _=>k b o (fun z=>hc (by simp[z])) e) (fun b o _ _ hc e _=>⟨o.slots,k b o (fun z=>hc (by simp[z])) e⟩) (fun _ _ _ _ n=>n)
  (fun b o hc e=>⟨o,k b o (fun z=>hc (by simp[z])) e⟩) (fun _ _ e=>e) (fun _ _ _ e=>e) (fun b ps e=>⟨#[],by rw[e];simp⟩) (fun m hm=>?_) (fun b u e=>?_) I.bare
 ·have e:b=it:=by simpa using hb
  subst e
  exact⟨h1,hL,h2,h3⟩
 ·obtain⟨o,es,ep,ho,r⟩:=hm
  exact⟨o,es,ep,k _ o (Ne.symm hL) ho,r⟩
 ·refine(I.hok b u e).stay (fun c v hc q=>k c v ?_ q) (fun _ q=>q) fun _ _ q=>q
  rcases hc with z|z
  ·rw[z];exact nit b u e
  ·exact nit c _ z
def Inv.tok(I:Inv X f' σ H s)(t:Nat):Inv X f' σ H { s with toks:=t }:=I.un (h':=s.heap) (t':=t) Un.refl I.hok
def Inv.kept{t':Nat}(I:Inv X f' σ H s)(k:∀b u,s.heap.get? b=some u→h'.get? b=some u):Inv X f' σ H { s with heap:=h',toks:=t' }:=I.un (Un.kept k) (I.hok.kept k)
theorem Inv.laid{a:Addr}{o:HO}{t':Nat}(I:Inv X f' σ H s)(k:∀b u,s.heap.get? b=some u→h'.get? b=some u)(hp:s.heap.objs.size≤a)(new:ObjOk X.prog X.w (upd H a o) h' a o):
  Inv X f' σ (upd H a o) { s with heap:=h',toks:=t' }:=I.un (Un.laid k hp (I.hok.fresh hp)) (I.hok.laid k hp new)
theorem Inv.write{x e:Addr}{o:HO}{t':Nat}(I:Inv X f' σ H s)(mu:Mut (H x))(he:e=x∨H e=some (.own x))(k:∀b u,b≠e→s.heap.get? b=some u→h'.get? b=some u)(heo:∃u,h'.get? e=some u)
  (new:ObjOk X.prog X.w (upd H x o) h' x o):Inv X f' σ (upd H x o) { s with heap:=h',toks:=t' }:=I.un (Un.write mu he k heo) (I.hok.write mu he k heo new)
def Inv.pins_of{pins':am}(I:Inv X f' σ H s)(h:∀p∈pins',s.heap.get? p.1=some p.2∧H p.1=none∧p.1≠X.env.locals∧p.1∉X.fs∧∀v,p.2.data≠.cell v):Inv X pins' σ H s:=
 ⟨I.ok,I.os,I.bare,I.base,I.loc,I.cell,I.free,I.freeC,fun p hp=>(B7.mp hp).elim (fun z=>I.pin p (List.mem_append_left _ z)) (h p),I.hok,I.len⟩
def iC{N:List Str}(hN:N.Nodup){i j:Nat}{x:Str}(a:N[i]? = some x)(b:N[j]? = some x):i=j:=by
 obtain⟨h1,e1⟩:=Cd.mp a
 obtain⟨h2,e2⟩:=Cd.mp b
 exact(List.getElem_inj hN).mp (e1.trans e2.symm)
theorem mH{M:Model}{A:Around}{E:cp}{i:Nat}{x:Str}{v:V}{u:Value}{Q:Unit→Shared→Prop}(I:Inv X f' σ H s)(hN:X.N.Nodup)(hi:X.N[i]? = some x)(hx:Loc X.env.scope x)(r:RelV v u)
  (h:∀s',Inv X f' (σ.set i (some v)) H s'→(∃a,Heap.SameBut a s.heap s'.heap∧(a=X.env.locals∨X.env.cells.lookup x=some a))→Q () s') (hf:X.fn x=true∨X.env.scope.names.lookup x=some .local:=by walk_at "f"):wpAny M A (storeName X.env x u) Q E s:=by
 obtain⟨m,hn,hl⟩:=id I.loc
 have hcls:(X.env.scope.kind == .class||(X.env.scope.kind == .module&&X.env.locals != X.env.globals))=false:=by rw[I.ok.kind];rfl
 have hiσ:i<σ.length:=by rw[I.len];exact(Cd.mp hi).1
 have cne:=I.cne
 have tracked:∀{a:Addr}{h':Heap},(∃o,s.heap.get? a=some o∧H a=none)→Heap.SameBut a s.heap h'→HOk X.prog X.w H h':=fun{a h'} ha hs b ob e=>by
  obtain⟨_,_,hfree⟩:=ha
  refine(I.hok b ob e).stay (fun c w' hc q=>(hs.2 c ?_).trans q) (fun _ q=>q) fun _ _ q=>q
  rintro rfl
  rcases hc with rfl|hc
  ·rw[hfree]at e;cases e
  ·rw[hfree]at hc;cases hc
 rcases hx with hk|hk
 ·refine wpAny_storeName_local hk hn (fun h' hn' hs=>?_) hcls
  obtain⟨oL,_,_,hoL,_⟩:=id hn
  refine h _ ⟨I.ok,I.os,I.bare,⟨fun b o e n hb hx=>?_,fun b o e n hb hx=>?_,I.base.free,fun b o e hx=>?_,I.base.tups,I.base.frzs,I.base.tbls⟩,⟨_,hn',fun j y v' e1 e2 e3=>?_⟩,fun y c e=>?_,I.free,I.freeC,fun p hp=>?_,tracked ⟨oL,hoL,I.free⟩ hs,by simpa using I.len⟩ ⟨_,hs,.inl rfl⟩
  ·exact(hs.2 b (BY (BO (Heap.lt_size e) I.ok.above))).trans (I.base.keep b o e n hb hx)
  ·obtain⟨sl,e1⟩:=I.base.slot b o e n hb hx
   exact⟨sl,(hs.2 b (BY (BO (Heap.lt_size e) I.ok.above))).trans e1⟩
  ·obtain⟨o',e1⟩:=I.base.there b o e hx
   exact⟨o',(hs.2 b (BY (BO (Heap.lt_size e) I.ok.above))).trans e1⟩
  ·by_cases hj:j=i
   ·subst hj
    rw[hi]at e1;cases e1
    rw[B0 hiσ]at e2
    cases e2
    exact⟨u,r,.inl ⟨hk,by simp⟩⟩
   ·rw[BK (Ne.symm hj)]at e2
    obtain⟨u',r',q⟩:=hl j y v' e1 e2 e3
    refine⟨u',r',?_⟩
    rcases q with ⟨k,e⟩|⟨k,c,e,z⟩
    ·refine .inl ⟨k,?_⟩
     have:y≠x:=fun e=>hj (iC hN e1 (e ▸ hi))
     simp[this,e]
    ·exact .inr ⟨k,c,e,z.sameBut hs (cne y c e)⟩
  ·obtain⟨w',z⟩:=I.cell y c e
   exact⟨w',z.sameBut hs (cne y c e)⟩
  ·obtain⟨e,n,ne,nf,d⟩:=I.pin p hp
   exact⟨(hs.2 p.1 ne).trans e,n,ne,nf,d⟩
 ·have hfn:X.fn x=true:=by
   rcases hf with z|z
   ·exact z
   ·rw[z]at hk;cases hk
  obtain⟨c,hc⟩:=I.ok.has x (.inl hk)
  obtain⟨w',z⟩:=I.cell x c hc
  refine wpAny_storeName_cell I.ok.kind hk hc z (fun h' hc' hs=>?_)
  obtain⟨oc,hoc,hocd⟩:=id z
  refine h { s with heap:=h' } ⟨I.ok,I.os,I.bare,⟨fun b o e n hb hx=>?_,fun b o e n hb hx=>?_,I.base.free,fun b o e hx=>?_,I.base.tups,I.base.frzs,I.base.tbls⟩,⟨m,hn.sameBut hs (Ne.symm (cne x c hc)),fun j y v' e1 e2 e3=>?_⟩,fun y c' e=>?_,I.free,I.freeC,fun p hp=>?_,tracked ⟨oc,hoc,I.freeC x c hc⟩ hs,by simpa using I.len⟩ ⟨c,hs,.inr hc⟩
  ·exact(hs.2 b (BY (BO (Heap.lt_size e) (I.ok.cab x c hfn hc)))).trans (I.base.keep b o e n hb hx)
  ·obtain⟨sl,e1⟩:=I.base.slot b o e n hb hx
   exact⟨sl,(hs.2 b (BY (BO (Heap.lt_size e) (I.ok.cab x c hfn hc)))).trans e1⟩
  ·obtain⟨o',e1⟩:=I.base.there b o e hx
   exact⟨o',(hs.2 b (BY (BO (Heap.lt_size e) (I.ok.cab x c hfn hc)))).trans e1⟩
  ·by_cases hj:j=i
   ·subst hj
    rw[hi]at e1;cases e1
    rw[B0 hiσ]at e2
    cases e2
    exact⟨u,r,.inr ⟨.inl hk,c,hc,hc'⟩⟩
   ·rw[BK (Ne.symm hj)]at e2
    obtain⟨u',r',q⟩:=hl j y v' e1 e2 e3
    refine⟨u',r',?_⟩
    rcases q with q|⟨k,c',e,z'⟩
    ·exact .inl q
    ·refine .inr ⟨k,c',e,z'.sameBut hs ?_⟩
     rintro rfl
     exact hj (iC hN e1 (I.ok.inj _ _ _ e hc ▸ hi))
  ·by_cases hcc:c'=c
   ·subst hcc;exact⟨_,hc'⟩
   ·obtain⟨w2,z2⟩:=I.cell y c' e
    exact⟨w2,z2.sameBut hs hcc⟩
  ·obtain⟨e,n,ne,nf,d⟩:=I.pin p hp
   refine⟨(hs.2 p.1 ?_).trans e,n,ne,nf,d⟩
   intro q
   rw[q,hoc]at e
   have q':oc=p.2:=Option.some.inj e
   exact d w' (by rw[←q'];exact hocd)
theorem uw{M:Model}{A:Around}{E:cp}{i:Nat}{x:Str}{v:V}{u:Value}{Q:Unit→Shared→Prop}(I:Inv X f' σ H s)(hN:X.N.Nodup)(hi:X.N[i]? = some x)(hx:Loc X.env.scope x)(r:RelV v u)
  (h:∀s',Inv X f' (σ.set i (some v)) H s'→Q () s') (hf:X.fn x=true∨X.env.scope.names.lookup x=some .local:=by walk_at "f"):wpAny M A (storeName X.env x u) Q E s:=
 mH I hN hi hx r (fun s' I' _=>h s' I') hf
theorem Inv.call'{s':Shared}{ch:List Addr}(I:Inv X f' σ H s)(ho:s'.os=s.os)(u:Un (frs X.stack) ch H H' s.heap s'.heap)(hok:HOk X.prog X.w H' s'.heap)(hg:AllBare s'.gens)
  (hch:∀b∈ch,(b∈X.ex∨X.s₀.heap.objs.size≤b)∧b≠X.env.locals∧(∀x c,X.env.cells.lookup x=some c→c≠b)∧∀p∈X.pn++f',p.1≠b):Inv X f' σ H' s':=by
 obtain⟨h',g',d',t',o'⟩:=s'
 have e:o'=s.os:=ho
 subst e
 exact I.call (g':=g') (t':=t') (d':=d') u hok hg hch
end
abbrev XK:=Value→Option Addr→Hp→Prop
abbrev St:=List (Option V)
abbrev VK:=V→Hp→Prop
abbrev TE:=St→Hp→VK→Prop
abbrev TT:=St→Hp→(Bool→Hp→Prop)→Prop
abbrev TA:=St→Hp→(List V→Hp→Prop)→Prop
structure tT where
 nx:St→Hp→Prop
 rt:VK
 bk:St→Hp→Prop:=fun _ _=>False
 ct:St→Hp→Prop:=fun _ _=>False
abbrev TS:=tT→St→Hp→Prop
def EP(X:Cx)(f':am)(σ:St)(Q:VK)(u:Value)(s':Shared):Prop:=∃v H',Inv X f' σ H' s'∧RelV v u∧Q v H'
def TP(X:Cx)(f':am)(σ:St)(Q:Bool→Hp→Prop)(b:Bool)(s':Shared):Prop:=∃H',Inv X f' σ H' s'∧Q b H'
def AP(X:Cx)(f':am)(σ:St)(Q:List V→Hp→Prop)(us:List Value)(s':Shared):Prop:=∃vs H',Inv X f' σ H' s'∧Vals vs us∧Q vs H'
def SP(X:Cx)(f':am)(D:tT)(f:Flow)(s':Shared):Prop:=
 match f with
 | .next=>∃σ' H',Inv X f' σ' H' s'∧D.nx σ' H'
 | .brk=>∃σ' H',Inv X f' σ' H' s'∧D.bk σ' H'
 | .cont=>∃σ' H',Inv X f' σ' H' s'∧D.ct σ' H'
 | .ret u=>∃v σ' H',Inv X f' σ' H' s'∧RelV v u∧D.rt v H'
def PE(X:Cx)(e:Expr)(t:TE):Prop:=
 ∀(f':am)(s:Shared)(σ:St)(H:Hp)(Q:VK),Inv X f' σ H s→t σ H Q→wpAny (model X.prog X.w) X.A (eval e X.env) (EP X f' σ Q) X.xe s
def PT(X:Cx)(e:Expr)(t:TT):Prop:=
 ∀(f':am)(s:Shared)(σ:St)(H:Hp)(Q:Bool→Hp→Prop),Inv X f' σ H s→t σ H Q→wpAny (model X.prog X.w) X.A (isTrue e X.env (eval e X.env)) (TP X f' σ Q) X.xe s
def PW(X:Cx)(e:Expr)(t:TT):Prop:=
 ∀(whole:Sem Value)(f':am)(s:Shared)(σ:St)(H:Hp)(Q:Bool→Hp→Prop),Inv X f' σ H s→t σ H Q→wpAny (model X.prog X.w) X.A (isTrue e X.env whole) (TP X f' σ Q) X.xe s
def PW.pt{X:Cx}{e:Expr}{t:TT}(h:PW X e t):PT X e t:=h _
def PA(X:Cx)(es:List Expr)(t:TA):Prop:=
 ∀(pos:Pos)(f':am)(s:Shared)(σ:St)(H:Hp)(Q:List V→Hp→Prop),Inv X f' σ H s→t σ H Q→wpAny (model X.prog X.w) X.A (spliced (backTo pos (starEach es X.env))) (AP X f' σ Q) X.xe s
def PS(X:Cx)(st:Stmt)(t:TS):Prop:=
 ∀(f':am)(s:Shared)(σ:St)(H:Hp)(D:tT),Inv X f' σ H s→t D σ H→wpAny (model X.prog X.w) X.A (exec st X.env) (SP X f' D) X.xe s
def PSs(X:Cx)(st:List Stmt)(t:TS):Prop:=
 ∀(f':am)(s:Shared)(σ:St)(H:Hp)(D:tT),Inv X f' σ H s→t D σ H→wpAny (model X.prog X.w) X.A (execs st X.env) (SP X f' D) X.xe s
def thn{α:Type}{t:Sem α}{Q Q':α→Shared→Prop}{M:Model}{A:Around}{E:cp}{s:Shared}(h:wpAny M A t Q E s)(hQ:∀a s,Q a s→Q' a s):wpAny M A t Q' E s:=wpAny_mono h hQ fun _ _ x=>x
section
variable{X:Cx}
def YT(i:Nat):TE:=fun σ H Q=>∃v,σ[i]? = some (some v)∧Q v H
def tC(v:V):TE:=fun _ H Q=>Q v H
def xa{i:Nat}{x:Str}{pos:Pos}(hN:X.N[i]? = some x)(hv:Vis X.env.scope x)(hd:ug x:=by decide)(hcd:we x:=by decide):PE X (.Name x pos) (YT i):=by
 intro f' s σ H Q I h
 obtain⟨v,e,h⟩:=h
 obtain⟨m,hn,hl⟩:=I.loc
 obtain⟨u,r,l⟩:=hl i x v hN e hv
 have fin:EP X f' σ Q u s:=⟨v,H,I,r,h⟩
 rcases l with ⟨hk,hm⟩|⟨hk,c,hc,hcell⟩
 ·exact wpAny_Name (wpAny_loadName_local I.ok.kind hk hn hm fin) hd
 ·rcases hk with hk|hk
  ·exact wpAny_Name (wpAny_loadName_cell I.ok.kind hk hc hcell fin) hd
  ·exact wpAny_Name (wpAny_loadName_free I.ok.kind hk hc hcell fin hcd) hd
def Zi{i j pos}:PE X (.Constant (.int i) j pos) (tC (.int i)):=fun _ _ _ H _ I h=>wpAny_Constant_int ⟨.int i,H,I.tok _,⟨_,rfl⟩,h⟩
def Sa{b j pos}:PE X (.Constant (.bool b) j pos) (tC (.bl b)):=fun _ _ _ H _ I h=>Constant_bool ⟨.bl b,H,I,rfl,h⟩
def Uk{j pos}:PE X (.Constant .none j pos) (tC .non):=fun _ _ _ H _ I h=>Constant_none ⟨.non,H,I,rfl,h⟩
def kh{x j pos}:PE X (.Constant (.str x) j pos) (tC (.str x)):=fun _ _ _ H _ I h=>Calls.Constant_str ⟨.str x,H,I.tok _,⟨_,rfl⟩,h⟩
def Gl(X:Cx)(x:Str):Prop:=X.env.kindOf x=some .globalImplicit
theorem kN{E:cp}{f':am}{s:Shared}{σ:St}{H:Hp}{x:Str}{u:Value}{pos:Pos}{Q:cp}(I:Inv X f' σ H s)(hg:Gl X x)(hm:X.mg x=some u)(h:Q u s)
  (hd:ug x:=by decide):wpAny (model X.prog X.w) X.A (eval (.Name x pos) X.env) Q E s:=
 Calls.Name_function_global I.ok.kind hg (Calls.loadGlobal_global (by rw[I.ok.glob];exact I.mod.glob.keeps I.bk) hm h) hd
theorem vc{E:cp}{f':am}{s:Shared}{σ:St}{H:Hp}{x:Str}{u:Value}{pos:Pos}{Q:cp}(I:Inv X f' σ H s)(hg:Gl X x)(hm:X.mg x=none)(hv:bootBuiltins x=some u)(h:Q u s)
  (hn:x≠"__name__":=by decide) (hd:ug x:=by decide):wpAny (model X.prog X.w) X.A (eval (.Name x pos) X.env) Q E s:=by
 obtain⟨mb,h1,h2⟩:=I.mod.blt
 exact Calls.Name_function_global I.ok.kind hg (Calls.loadGlobal_builtin (by rw[I.ok.glob];exact I.mod.glob.keeps I.bk) hm (by rw[I.ok.blt];exact h1.keeps I.bk) ((h2 x hn).trans hv) h) hd
def ki{x:Str}{v:V}{u:Value}{pos:Pos}(hg:Gl X x)(hm:X.mg x=some u)(r:RelV v u)(hd:ug x:=by decide):PE X (.Name x pos) (tC v):=
 fun _ _ _ H _ I h=>kN I hg hm ⟨v,H,I,r,h⟩ hd
def ce{x:Str}{v:V}{u:Value}{pos:Pos}(hg:Gl X x)(hm:X.mg x=none)(hv:bootBuiltins x=some u)(r:RelV v u)(hn:x≠"__name__":=by decide)(hd:ug x:=by decide):PE X (.Name x pos) (tC v):=
 fun _ _ _ H _ I h=>vc I hg hm hv ⟨v,H,I,r,h⟩ hn hd
variable{a b:Expr}{ta tb:TE}{pos:Pos}
def PC(X:Cx)(op:CmpOp)(a b:Expr)(t:TE):Prop:=
 ∀(f':am)(s:Shared)(σ:St)(H:Hp)(Q:VK),Inv X f' σ H s→t σ H Q→
  wpAny (model X.prog X.w) X.A (eval a X.env) (fun v s₁=>wpAny (model X.prog X.w) X.A (eval b X.env) (fun u s₂=>wpAny (model X.prog X.w) X.A (compareOp op v u) (EP X f' σ Q) X.xe s₂) X.xe s₁) X.xe s
def iD(b:Expr){op:CmpOp}(h:op≠.In)(h2:op≠.NotIn):behindInMarks op b=false:=by
 have e1:(op==CmpOp.In)=false:=by cases op<;>first|rfl|exact absurd rfl h
 have e2:(op==CmpOp.NotIn)=false:=by cases op<;>first|rfl|exact absurd rfl h2
 cases b<;>simp[behindInMarks,e1,e2]
def TH(ta:TE):TE:=fun σ H Q=>ta σ H fun x H1=>Q (.bl (decide (x=.non))) H1
def Tz(ta:TE):TE:=fun σ H Q=>ta σ H fun x H1=>Q (.bl (!decide (x=.non))) H1
def RelV.none_iff{x:V}{v:Value}(r:RelV x v):(v==Value.none)=decide (x=.non):=by
 cases x with
 | non=>cases r;rfl
 | bl _=>cases r;rfl
 | int _=>obtain⟨t,rfl⟩:=r;rfl
 | str _=>obtain⟨t,rfl⟩:=r;rfl
 | byt _=>obtain⟨t,rfl⟩:=r;rfl
 | flt _=>obtain⟨t,rfl⟩:=r;rfl
 | ref _=>cases r;rfl
 | ty _=>cases r;rfl
def Uq{j pos'}(ha:PE X a ta):PC X .Is a (.Constant .none j pos') (TH ta):=by
 intro f' s σ H Q I h
 refine thn (ha f' s σ H _ I h) fun v s1 zz=>?_
 obtain⟨x,H1,I1,r1,q1⟩:=zz
 exact Constant_none (is_none_gen ⟨.bl _,H1,I1,by rw[r1.none_iff];rfl,q1⟩)
def Xp{j pos'}(ha:PE X a ta):PC X .IsNot a (.Constant .none j pos') (Tz ta):=by
 intro f' s σ H Q I h
 refine thn (ha f' s σ H _ I h) fun v s1 zz=>?_
 obtain⟨x,H1,I1,r1,q1⟩:=zz
 exact Constant_none (isnot_none_gen ⟨.bl _,H1,I1,by rw[r1.none_iff];rfl,q1⟩)
def tB(t:TE):TT:=fun σ H Q=>t σ H fun x H1=>∃c,x=.bl c∧Q c H1
def Um{op:CmpOp}{t:TE}(h:PC X op a b t)(h1:behindInMarks op b=false:=by first|exact iD _ (by decide) (by decide)|rfl):PE X (.Compare a [op] [b] pos) t:=fun f' s σ H Q I hw=>wpAny_Compare1 (h f' s σ H Q I hw) h1
def Uc{op:CmpOp}{t:TE}(h:PC X op a b t)(h1:behindInMarks op b=false:=by first|exact iD _ (by decide) (by decide)|rfl):PT X (.Compare a [op] [b] pos) (tB t):=by
 intro f' s σ H Q I hw
 refine wpAny_isTrue_Compare1 (thn (h f' s σ H _ I hw) fun v s1 h1=>thn h1 fun u s2 h2=>thn h2 fun c s3 zz=>?_) h1
 obtain⟨x,H1,I1,r1,q1⟩:=zz
 obtain⟨d,rfl,q⟩:=q1
 cases r1
 exact wpAny_truthy_bool ⟨H1,I1,q⟩
def Ua{e:Expr}{t:TE}(h:PE X e t)(he:∀whole,isTrue e X.env whole=(do let v ←whole;standAt e.pos;holding [v] (truthy v)):=by intro _;rfl):PT X e (tB t):=by
 intro f' s σ H Q I hw
 refine isTrue_plain (thn (h f' s σ H _ I hw) fun v s1 zz=>?_) (he _)
 obtain⟨x,H1,I1,r1,q1⟩:=zz
 obtain⟨d,rfl,q⟩:=q1
 cases r1
 exact wpAny_truthy_bool ⟨H1,I1,q⟩
variable{tA tB':TT}{y_:List Expr}
def LM(t u:TT):TT:=fun σ H Q=>t σ H fun c H1=>if c=true then u σ H1 Q else Q false H1
def tOr(t u:TT):TT:=fun σ H Q=>t σ H fun c H1=>if c=true then Q true H1 else u σ H1 Q
def LF(t:TT):TT:=fun σ H Q=>t σ H fun c H1=>Q (!c) H1
def Xc(ha:PT X a tA):PW X (.BoolOp .And [a] pos) tA:=by
 intro wh f' s σ H Q I h
 refine isTrue_and (thn (ha f' s σ H Q I h) fun c s1 e=>?_)
 cases c with
 | true=>exact isTrue_and_nil e
 | false=>exact e
def V9(ha:PT X a tA):PW X (.BoolOp .Or [a] pos) tA:=by
 intro wh f' s σ H Q I h
 refine isTrue_or (thn (ha f' s σ H Q I h) fun c s1 e=>?_)
 cases c with
 | false=>exact isTrue_or_nil e
 | true=>exact e
def V_(ha:PT X a tA)(hb:PW X (.BoolOp .And (b::y_) pos) tB'):PW X (.BoolOp .And (a::b::y_) pos) (LM tA tB'):=by
 intro wh f' s σ H Q I h
 refine isTrue_and (thn (ha f' s σ H _ I h) fun c s1 zz=>?_)
 obtain⟨H1,I1,q1⟩:=zz
 cases c with
 | true=>exact hb wh f' s1 σ H1 Q I1 q1
 | false=>exact⟨H1,I1,q1⟩
def T3(ha:PT X a tA)(hb:PW X (.BoolOp .Or (b::y_) pos) tB'):PW X (.BoolOp .Or (a::b::y_) pos) (tOr tA tB'):=by
 intro wh f' s σ H Q I h
 refine isTrue_or (thn (ha f' s σ H _ I h) fun c s1 zz=>?_)
 obtain⟨H1,I1,q1⟩:=zz
 cases c with
 | true=>exact⟨H1,I1,q1⟩
 | false=>exact hb wh f' s1 σ H1 Q I1 q1
def Ub(ha:PT X a tA):PT X (.UnaryOp .Not a pos) (LF tA):=by
 intro f' s σ H Q I h
 exact isTrue_not (ha f' s σ H (fun c H1=>Q (!c) H1) I h)
def TR(ta tb:TE):TE:=fun σ H Q=>ta σ H fun x H1=>∃c,x=.bl c∧if c=true then tb σ H1 Q else Q (.bl false) H1
def LE(ta tb:TE):TE:=fun σ H Q=>ta σ H fun x H1=>∃c,x=.bl c∧if c=true then Q (.bl true) H1 else tb σ H1 Q
def Ty(ta:TE):TE:=fun σ H Q=>ta σ H fun x H1=>∃c,x=.bl c∧Q (.bl (!c)) H1
def Ui{op}{t:TE}(h:PE X a t):PE X (.BoolOp op [a] pos) t:=fun f' s σ H Q I hw=>BoolOp_one (h f' s σ H Q I hw)
def Uo(ha:PE X a ta)(hb:PE X (.BoolOp .And (b::y_) pos) tb):PE X (.BoolOp .And (a::b::y_) pos) (TR ta tb):=by
 intro f' s σ H Q I h
 refine BoolOp_and (thn (ha f' s σ H _ I h) fun v s1 zz=>?_)
 obtain⟨x,H1,I1,r1,q1⟩:=zz
 obtain⟨c,rfl,q1⟩:=q1
 cases r1
 refine wpAny_truthy_bool ?_
 cases c with
 | true=>exact hb f' s1 σ H1 Q I1 q1
 | false=>exact⟨.bl false,H1,I1,rfl,q1⟩
def T8(ha:PE X a ta)(hb:PE X (.BoolOp .Or (b::y_) pos) tb):PE X (.BoolOp .Or (a::b::y_) pos) (LE ta tb):=by
 intro f' s σ H Q I h
 refine BoolOp_or (thn (ha f' s σ H _ I h) fun v s1 zz=>?_)
 obtain⟨x,H1,I1,r1,q1⟩:=zz
 obtain⟨c,rfl,q1⟩:=q1
 cases r1
 refine wpAny_truthy_bool ?_
 cases c with
 | false=>exact hb f' s1 σ H1 Q I1 q1
 | true=>exact⟨.bl true,H1,I1,rfl,q1⟩
def Uj(ha:PE X a ta):PE X (.UnaryOp .Not a pos) (Ty ta):=by
 intro f' s σ H Q I h
 refine UnaryOp_ (thn (ha f' s σ H _ I h) fun v s1 zz=>?_)
 obtain⟨x,H1,I1,r1,q1⟩:=zz
 obtain⟨c,rfl,q1⟩:=q1
 cases r1
 exact not_of (wpAny_truthy_bool ⟨.bl (!c),H1,I1,rfl,q1⟩)
def tIf(t:TT)(ta tb:TE):TE:=fun σ H Q=>t σ H fun c H1=>if c=true then ta σ H1 Q else tb σ H1 Q
def Zj{c:Expr}(hc:PT X c tA)(ha:PE X a ta)(hb:PE X b tb):PE X (.IfExp c a b pos) (tIf tA ta tb):=by
 intro f' s σ H Q I h
 refine wpAny_IfExp (thn (hc f' s σ H _ I h) fun d s1 zz=>?_)
 obtain⟨H1,I1,q1⟩:=zz
 cases d with
 | true=>exact ha f' s1 σ H1 Q I1 q1
 | false=>exact hb f' s1 σ H1 Q I1 q1
end
def SqL(K:Bq)(H:Hp)(a:Addr)(xs:List V):Prop:=
 Rd H a (.lst xs)∨
  ∃(o:Obj)(its:Array Value)(n:Nat),K.lookup a=some o∧o.cls=.type "list"∧o.dict=none∧o.data=.seq its n∧its.size≤sizeLine∧Vals xs its.toList
def SqT(K:Bq)(H:Hp)(a:Addr)(xs:List V):Prop:=
 Rd H a (.tup xs)∨
  ∃(o:Obj)(its:Array Value)(n:Nat),K.lookup a=some o∧o.cls=.type "tuple"∧o.data=.seq its n∧its.size≤sizeLine∧Vals xs its.toList
def HQ:Value→Option V
 | .none=>some .non
 | .bool b=>some (.bl b)
 | .int i _=>some (.int i)
 | .str x _=>some (.str x)
 | .bytes b _=>some (.byt b)
 | .float b _=>some (.flt b)
 | .ref a=>some (.ref a)
 | .type n=>some (.ty n)
 | _=>none
def RelV.abs{x:V}{u:Value}(r:RelV x u):HQ u=some x:=by
 cases x with
 | non=>cases r;rfl
 | bl _=>cases r;rfl
 | int _=>obtain⟨t,rfl⟩:=r;rfl
 | str _=>obtain⟨t,rfl⟩:=r;rfl
 | byt _=>obtain⟨t,rfl⟩:=r;rfl
 | flt _=>obtain⟨t,rfl⟩:=r;rfl
 | ref _=>cases r;rfl
 | ty _=>cases r;rfl
def RelV.inj{x y:V}{u:Value}(r:RelV x u)(q:RelV y u):x=y:=Option.some.inj (r.abs.symm.trans q.abs)
theorem Vals.inj:∀{xs ys:List V}{us:List Value},Vals xs us→Vals ys us→xs=ys
 | _,_,_,.nil,.nil=>rfl
 | _,_,_,.cons r t,.cons r' t'=>by rw[r.inj r',Vals.inj t t']
section
variable{X:Cx}{f':am}{σ:St}{H:Hp}{s:Shared}{a:Addr}{xs ys:List V}
def SqL.of{K:Bq}(h:H a=some (.lst xs)):SqL K H a xs:=.inl (.inl h)
def SqT.of{K:Bq}(h:H a=some (.tup xs)):SqT K H a xs:=.inl (.inl h)
def Inv.list(I:Inv X f' σ H s)(h:SqL X.K H a xs):∃its:List Value,Vals xs its∧PlainL s.heap a its.toArray∧xs.length≤sizeLine:=by
 rcases h with h|⟨o,its,n,hk,hc,hd,hs,hz,r⟩
 ·obtain⟨z,its,n,r,e⟩:=h.ok I.hok
  exact⟨its,r,⟨_,n,e,rfl,rfl,rfl⟩,z⟩
 ·refine⟨its.toList,r,⟨o,n,I.kIn a o hk,hc,hd,by simpa using hs⟩,?_⟩
  have e:=r.length
  simp only[Array.length_toList]at e
  omega
def Inv.tuple(I:Inv X f' σ H s)(h:SqT X.K H a xs):∃its:List Value,Vals xs its∧IsTup s.heap a its.toArray∧xs.length≤sizeLine:=by
 rcases h with h|⟨o,its,n,hk,hc,hs,hz,r⟩
 ·obtain⟨z,its,r,p⟩:=h.ok I.hok
  exact⟨its,r,p,z⟩
 ·refine⟨its.toList,r,⟨o,I.kIn a o hk,hc,n,by simpa using hs⟩,?_⟩
  have e:=r.length
  simp only[Array.length_toList]at e
  omega
def Inv.list_inj(I:Inv X f' σ H s)(h:SqL X.K H a xs)(h':SqL X.K H a ys):xs=ys:=by
 obtain⟨its,r,⟨o,n,e,_,_,d⟩,_⟩:=I.list h
 obtain⟨its',r',⟨o',n',e',_,_,d'⟩,_⟩:=I.list h'
 rw[e]at e';cases e'
 rw[d]at d'
 injection d' with d1 _
 have:its=its':=by simpa using congrArg Array.toList d1
 subst this
 exact r.inj r'
end
abbrev Cx.wish(X:Cx)(E:cp):Cx:={ X with xe:=E }
abbrev Cx.nox(X:Cx):Cx:=X.wish fun _ _=>False
def Cx.Ok.wish{X:Cx}(ok:X.Ok)(E:cp):(X.wish E).Ok:=
 ⟨ok.mod,ok.kind,ok.glob,ok.blt,ok.above,ok.inj,ok.has,ok.cab,ok.hd,ok.frames,ok.stk,ok.exf,ok.bs,ok.bsz,ok.noex,ok.exfs,ok.funs,ok.frf⟩
def Cx.Ok.unwish{X:Cx}{E:cp}(ok:(X.wish E).Ok):X.Ok:=
 ⟨ok.mod,ok.kind,ok.glob,ok.blt,ok.above,ok.inj,ok.has,ok.cab,ok.hd,ok.frames,ok.stk,ok.exf,ok.bs,ok.bsz,ok.noex,ok.exfs,ok.funs,ok.frf⟩
section
variable{X:Cx}{f':am}{σ:St}{H:Hp}{s:Shared}{E:cp}
def Inv.wish(I:Inv X f' σ H s)(E:cp):Inv (X.wish E) f' σ H s:=⟨I.ok.wish E,I.os,I.bare,I.base,I.loc,I.cell,I.free,I.freeC,I.pin,I.hok,I.len⟩
def Inv.unwish(I:Inv (X.wish E) f' σ H s):Inv X f' σ H s:=⟨I.ok.unwish,I.os,I.bare,I.base,I.loc,I.cell,I.free,I.freeC,I.pin,I.hok,I.len⟩
def SP.unwish{D:tT}{f:Flow}{s':Shared}(h:SP (X.wish E) f' D f s'):SP X f' D f s':=by
 cases f with
 | next=>obtain⟨σ',H',I,q⟩:=h;exact⟨σ',H',I.unwish,q⟩
 | brk=>obtain⟨σ',H',I,q⟩:=h;exact⟨σ',H',I.unwish,q⟩
 | cont=>obtain⟨σ',H',I,q⟩:=h;exact⟨σ',H',I.unwish,q⟩
 | ret u=>obtain⟨v,σ',H',I,r,q⟩:=h;exact⟨v,σ',H',I.unwish,r,q⟩
def PSs.nox{st:List Stmt}{t:TS}(h:PSs X.nox st t):PSs X st t:=fun f' s σ H D I hw=>
 wpAny_mono (h f' s σ H D (I.wish _) hw) (fun _ _ q=>q.unwish) fun _ _ z=>False.elim z
end
section
variable{X:Cx}{st:Stmt}{y_:List Stmt}{t u:TS}{e:Expr}{te:TE}{pos:Pos}
def TD:TS:=fun D σ H=>D.nx σ H
def LC(t u:TS):TS:=fun D σ H=>t { D with nx:=u D } σ H
def Xe:PSs X [] TD:=fun _ _ σ H _ I h=>wpAny_execs_nil ⟨σ,H,I,h⟩
def jX(h1:PS X st t)(h2:PSs X y_ u):PSs X (st::y_) (LC t u):=by
 intro f' s σ H D I h
 refine wpAny_execs_cons (thn (h1 f' s σ H { D with nx:=u D } I h) fun f s1 q=>?_)
 cases f with
 | next=>
  obtain⟨σ',H',I',q⟩:=q
  exact h2 f' s1 σ' H' D I' q
 | ret v=>exact q
 | brk=>exact q
 | cont=>exact q
def vR(h1:PS X st t):PSs X [st] t:=by
 intro f' s σ H D I h
 refine wpAny_execs_cons (thn (h1 f' s σ H D I h) fun f s1 q=>?_)
 cases f with
 | next=>exact wpAny_execs_nil q
 | ret v=>exact q
 | brk=>exact q
 | cont=>exact q
def Inv.quiet{f':am}{σ:St}{H:Hp}{s:Shared}(I:Inv X f' σ H s):interactive X.env=false:=by simp[interactive,I.ok.kind]
def TK(te:TE):TS:=fun D σ H=>te σ H fun _ H1=>D.nx σ H1
def vT(he:PE X e te)(hs:swapsWith e none pos.line X.env=pure false:=by rfl):PS X (.Expr e pos) (TK te):=by
 intro f' s σ H D I h
 exact wpAny_Expr_any (thn (he f' s σ H _ I h) fun v s1 ⟨x,H1,I1,r1,q1⟩=>⟨σ,H1,I1,q1⟩) I.quiet hs
def Tw(te:TE):TS:=fun D σ H=>te σ H D.rt
def oV(he:PE X e te):PS X (.Return (some e) pos) (Tw te):=by
 intro f' s σ H D I h
 exact wpAny_Return_some (thn (he f' s σ H _ I h) fun v s1 ⟨x,H1,I1,r1,q1⟩=>⟨x,σ,H1,I1,r1,q1⟩)
def LH(c:TT)(t u:TS):TS:=fun D σ H=>c σ H fun b H1=>if b=true then t D σ H1 else u D σ H1
def T4{c:Expr}{a b:List Stmt}{tc:TT}(hc:PT X c tc)(ha:PSs X a t)(hb:PSs X b u):PS X (.If c a b pos) (LH tc t u):=by
 intro f' s σ H D I h
 refine wpAny_If (thn (hc f' s σ H _ I h) fun d s1 zz=>?_)
 obtain⟨H1,I1,q1⟩:=zz
 cases d with
 | true=>exact ha f' s1 σ H1 D I1 q1
 | false=>exact hb f' s1 σ H1 D I1 q1
def V0:TS:=fun _ _ _=>False
def Zb:PS X st V0:=fun _ _ _ _ _ _ h=>h.elim
end
abbrev TG:=V→St→Hp→(St→Hp→Prop)→Prop
abbrev TGs:=List V→St→Hp→(St→Hp→Prop)→Prop
def PG(X:Cx)(target:Expr)(t:TG):Prop:=
 ∀(f':am)(s:Shared)(σ:St)(H:Hp)(v:V)(u:Value)(Q:St→Hp→Prop),Inv X f' σ H s→RelV v u→t v σ H Q→
  wpAny (model X.prog X.w) X.A (assign target X.env u) (fun _ s'=>∃σ' H',Inv X f' σ' H' s'∧Q σ' H') X.xe s
def PGs(X:Cx)(ts:List Expr)(t:TGs):Prop:=
 ∀(f':am)(s:Shared)(σ:St)(H:Hp)(vs:List V)(us:List Value)(Q:St→Hp→Prop),Inv X f' σ H s→Vals vs us→t vs σ H Q→
  wpAny (model X.prog X.w) X.A (assignInOrder ((assignEach ts X.env).map (·.2)) us) (fun _ s'=>∃σ' H',Inv X f' σ' H' s'∧Q σ' H') X.xe s
abbrev Tm:=V→V→V→Hp→(Hp→Prop)→Prop
def Lx(X:Cx)(t:Tm):Prop:=
 ∀(f':am)(s:Shared)(σ:St)(H:Hp)(o i v:V)(ov iv u:Value)(Q:Hp→Prop),Inv X f' σ H s→RelV o ov→RelV i iv→RelV v u→t o i v H Q→
  wpAny (model X.prog X.w) X.A (setItem ov iv u) (fun _ s'=>∃H',Inv X f' σ H' s'∧Q H') X.xe s
abbrev TIp:=V→V→Hp→VK→Prop
def PIp(X:Cx)(op:Operator)(t:TIp):Prop:=
 ∀(f':am)(s:Shared)(σ:St)(H:Hp)(x y:V)(v u:Value)(Q:VK),Inv X f' σ H s→RelV x v→RelV y u→t x y H Q→
  wpAny (model X.prog X.w) X.A (inplaceOp op v u) (EP X f' σ Q) X.xe s
section
variable{X:Cx}{pos:Pos}
def iQ(i:Nat):TG:=fun v σ H Q=>Q (σ.set i (some v)) H
def yf{i:Nat}{x:Str}(hN:X.N.Nodup)(hi:X.N[i]? = some x)(hx:Loc X.env.scope x)(hf:X.fn x=true∨X.env.scope.names.lookup x=some .local:=by walk_at "f"):PG X (.Name x pos) (iQ i):=by
 intro f' s σ H v u Q I r h
 exact wpAny_assign_Name (uw I hN hi hx r (fun s' I'=>⟨_,H,I',h⟩) hf)
def Hq:TGs:=fun vs σ H Q=>vs=[]∧Q σ H
def Mv(t:TG)(u:TGs):TGs:=fun vs σ H Q=>∃v r,vs=v::r∧t v σ H fun σ' H'=>u r σ' H' Q
def kg:PGs X [] Hq:=by
 intro f' s σ H vs us Q I r h
 obtain⟨e,h⟩:=h
 subst e
 cases r
 exact assignInOrder_nil ⟨σ,H,I,h⟩
theorem vj{e:Expr}{es:List Expr}{t:TG}{u:TGs}(h1:PG X e t)(h2:PGs X es u)
  (hs:(assignEach (e::es) X.env).map (·.2)=assign e X.env::(assignEach es X.env).map (·.2):=by rfl):PGs X (e::es) (Mv t u):=by
 intro f' s σ H vs us Q I r h
 obtain⟨v,vr,e1,h⟩:=h
 subst e1
 cases r with
 | cons r rr=>
  rw[hs]
  refine assignInOrder_cons (thn (h1 f' s σ H _ _ _ I r h) fun _ s1 zz=>?_)
  obtain⟨σ1,H1,I1,q1⟩:=zz
  exact h2 f' s1 σ1 H1 _ _ Q I1 rr q1
def Hn(K:Bq)(n:Nat)(t:TGs):TG:=fun v σ H Q=>∃a xs,v=.ref a∧SqT K H a xs∧xs.length=n∧t xs σ H Q
theorem fI{es:List Expr}{k:Nat}{t:TGs}{n:Nat}(hc:X.calm=true)(h:PGs X es t)
  (hn:(assignEach es X.env).length=n:=by rfl) (hst:(assignEach es X.env).findIdx? (·.1)=none:=by rfl):PG X (.Tuple es k pos) (Hn X.K n t):=by
 intro f' s σ H v u Q I r hw
 obtain⟨a,xs,e1,hq,hl,hw⟩:=hw
 subst e1
 cases r
 obtain⟨its,rv,ht,hz⟩:=I.tuple hq
 refine assign_Tuple_tuple (I.ok.hd hc) ht (by simp[hn,←hl,rv.length]) hst fun h' hx=>?_
 have I1:Inv X f' σ H { s with heap:=h' }:=I.kept (t':=s.toks) fun b o e=>hx b o (BY (Heap.lt_size e)) e
 exact h f' _ σ H xs _ Q I1 (by simpa using rv) hw
def TQ(te:TE)(g:TG):TS:=fun D σ H=>te σ H fun x H1=>g x σ H1 D.nx
def Za{i:Nat}{x:Str}{e:Expr}{te:TE}{pos':Pos}(hN:X.N.Nodup)(hi:X.N[i]? = some x)(hx:Loc X.env.scope x)(he:PE X e te)(hs:swapsWith e (some (.Name x pos')) pos.line X.env=pure false:=by rfl)(hf:X.fn x=true∨X.env.scope.names.lookup x=some .local:=by walk_at "f"):
  PS X (.Assign [.Name x pos'] e pos) (TQ te (iQ i)):=by
 intro f' s σ H D I h
 refine wpAny_Assign_Name (thn (he f' s σ H _ I h) fun v s1 zz=>?_) hs
 obtain⟨y,H1,I1,r1,q1⟩:=zz
 exact uw I1 hN hi hx r1 (fun s2 I2=>⟨_,H1,I2,q1⟩) hf
def LD(i j:Nat)(ta:TA):TS:=fun D σ H=>ta σ H fun vs H1=>∃v w,vs=[v,w]∧D.nx ((σ.set i (some v)).set j (some w)) H1
theorem Ud{i j:Nat}{x y:Str}{a b:Expr}{ta:TA}{px py pt:Pos}{kt k2 pt2}(hc:X.calm=true)(hN:X.N.Nodup)(hi:X.N[i]? = some x)(hj:X.N[j]? = some y)(hij:i≠j)
  (hx:X.env.scope.names.lookup x=some .local) (hy:X.env.scope.names.lookup y=some .local) (ha:PA X [a,b] ta)
  (hw:swappedStores [.Tuple [.Name x px,.Name y py] kt pt] (.Tuple [a,b] k2 pt2) X.env=pure (some [x,y]))
  (hs:swapsWithSole [.Tuple [.Name x px,.Name y py] kt pt] (.Tuple [a,b] k2 pt2) pos.line X.env=pure false:=by rfl):
  PS X (.Assign [.Tuple [.Name x px,.Name y py] kt pt] (.Tuple [a,b] k2 pt2) pos) (LD i j ta):=by
 intro f' s σ H D I h
 rw[exec_Assign_arm]
 refine wpAny_bind (wpAny_standAt ?_)
 rw[hs]
 refine wpAny_bind (wpAny_pure ?_)
 rw[if_neg (by decide)]
 refine wpAny_bind (Tuple_ (thn (ha _ f' s σ H _ I h) fun us s1 zz=>?_))
 obtain⟨vs,H1,I1,r1,q1⟩:=zz
 obtain⟨v,w,e1,q1⟩:=q1
 subst e1
 obtain⟨u1,u2,rfl,rv,rw'⟩:∃u1 u2,us=[u1,u2]∧RelV v u1∧RelV w u2:=by
  cases r1 with
  | cons p q=>
   cases q with
   | cons p' q'=>
    cases q'
    exact⟨_,_,rfl,p,p'⟩
 refine wpAny_newObj_type ?_ (by show 2≤sizeLine;decide)
 have I2:Inv X f' σ H1 { s1 with heap:=s1.heap.push { cls:=.type "tuple",data:=.seq [u1,u2].toArray } }:=I1.kept (t':=s1.toks) fun b o e=>Heap.get?_push_of_some _ e
 rw[hw]
 refine wpAny_bind (wpAny_pure ?_)
 show wpAny (model X.prog X.w) X.A (do rule "assign.swapped-stores"; let items ←unpackItems (.ref s1.heap.objs.size) 2 none;assignInOrder [fun v=>bindName X.env y v,fun v=>bindName X.env x v] items.reverse;pure Flow.next) _ _ _
 refine wpAny_bind (wpAny_rule (wpAny_bind (unpackItems_tuple (items:=#[u1,u2]) (I.ok.hd hc) (IsTup.new s1.heap _) fun h' hx'=>?_)))
 have I3:=I2.kept (h':=h') (t':=s1.toks) fun b o e=>hx' b o (BY (Heap.lt_size e)) e
 show wpAny _ _ (assignInOrder [fun v=>bindName X.env y v,fun v=>bindName X.env x v] [u2,u1] >>= fun _=>pure Flow.next) _ _ _
 refine wpAny_bind (assignInOrder_cons (wpAny_bindName (uw I3 hN hj (.inl hy) rw' (fun s2 I4=>?_) (.inr hy))))
 refine assignInOrder_cons (wpAny_bindName (uw I4 hN hi (.inl hx) rv (fun s3 I5=>assignInOrder_nil (wpAny_pure ?_)) (.inr hx)))
 rw[List.set_comm _ _ (Ne.symm hij)]at I5
 exact⟨_,H1,I5,q1⟩
def LL(i:Nat)(te:TE)(ti:TIp):TS:=fun D σ H=>∃x,σ[i]? = some (some x)∧te σ H fun y H1=>ti x y H1 fun z H2=>D.nx (σ.set i (some z)) H2
def Ue{i:Nat}{x:Str}{e:Expr}{te:TE}{op:Operator}{ti:TIp}{pos':Pos}(hN:X.N.Nodup)(hi:X.N[i]? = some x)(hx:Loc X.env.scope x)(he:PE X e te)(ho:PIp X op ti)(hf:X.fn x=true∨X.env.scope.names.lookup x=some .local:=by walk_at "f"):
  PS X (.AugAssign (.Name x pos') op e pos) (LL i te ti):=by
 intro f' s σ H D I h
 obtain⟨v,e1,h⟩:=h
 obtain⟨m,hn,hl⟩:=I.loc
 have vis:Vis X.env.scope x:=by rcases hx with k|k;exact .inl k;exact .inr (.inl k)
 obtain⟨u,r,l⟩:=hl i x v hi e1 vis
 refine wpAny_AugAssign_Name ?_
 have go:wpAny (model X.prog X.w) X.A (eval e X.env) (fun w s₂=>wpAny (model X.prog X.w) X.A (inplaceOp op u w) (fun r s₃=>wpAny (model X.prog X.w) X.A (storeName X.env x r) (fun _=>SP X f' D .next) X.xe s₃) X.xe s₂) X.xe s:=by
  refine thn (he f' s σ H _ I h) fun w s1 zz=>?_
  obtain⟨y,H1,I1,r1,q1⟩:=zz
  refine thn (ho f' s1 σ H1 v y u w _ I1 r r1 q1) fun z s2 zz=>?_
  obtain⟨zv,H2,I2,r2,q2⟩:=zz
  exact uw I2 hN hi hx r2 (fun s3 I3=>⟨_,H2,I3,q2⟩) hf
 rcases l with ⟨hk,hm⟩|⟨hk,c,hc,hcell⟩
 ·exact wpAny_loadName_local I.ok.kind hk hn hm go
 ·rcases hk with hk|hk
  ·exact wpAny_loadName_cell I.ok.kind hk hc hcell go
  ·rcases hx with k|k
   ·have:X.env.scope.names.lookup x=some .free:=hk
    rw[k]at this;cases this
   ·have:X.env.scope.names.lookup x=some .free:=hk
    rw[k]at this;cases this
def TN(to ti te:TE)(tget:V→V→Hp→VK→Prop)(tip:TIp)(tset:Tm):TS:=fun D σ H=>to σ H fun o H1=>ti σ H1 fun i H2=>tget o i H2 fun x H3=>te σ H3 fun y H4=>tip x y H4 fun z H5=>tset o i z H5 fun H6=>D.nx σ H6
def Ly(X:Cx)(t:V→V→Hp→VK→Prop):Prop:=
 ∀(f':am)(s:Shared)(σ:St)(H:Hp)(o i:V)(ov iv:Value)(Q:VK),Inv X f' σ H s→RelV o ov→RelV i iv→t o i H Q→
  wpAny (model X.prog X.w) X.A (getItem ov iv) (EP X f' σ Q) X.xe s
theorem Xf{o i e:Expr}{to ti te:TE}{tget:V→V→Hp→VK→Prop}{tip:TIp}{tset:Tm}{op:Operator}{tpos:Pos}(ho:PE X o to)(hi:PE X i ti)(hg:Ly X tget)(he:PE X e te)(hp:PIp X op tip)(hs:Lx X tset)
  (ha:∀ov iv new,augStore i ov iv new=(do holding [new,ov,iv] (setItem ov iv new);release [new,ov,iv] [];pure .next):=by intros;rfl):PS X (.AugAssign (.Subscript o i tpos) op e pos) (TN to ti te tget tip tset):=by
 intro f' s σ H D I h
 refine wpAny_AugAssign_SubscriptAny (thn (ho f' s σ H _ I h) fun ov s1 zz=>?_) ha
 obtain⟨x1,H1,I1,r1,q1⟩:=zz
 refine thn (hi f' s1 σ H1 _ I1 q1) fun iv s2 zz=>?_
 obtain⟨x2,H2,I2,r2,q2⟩:=zz
 refine thn (hg f' s2 σ H2 x1 x2 ov iv _ I2 r1 r2 q2) fun old s3 zz=>?_
 obtain⟨x3,H3,I3,r3,q3⟩:=zz
 refine thn (he f' s3 σ H3 _ I3 q3) fun v s4 zz=>?_
 obtain⟨x4,H4,I4,r4,q4⟩:=zz
 refine thn (hp f' s4 σ H4 x3 x4 old v _ I4 r3 r4 q4) fun new s5 zz=>?_
 obtain⟨x5,H5,I5,r5,q5⟩:=zz
 exact thn (hs f' s5 σ H5 x1 x2 x5 ov iv new _ I5 r1 r2 r5 q5) fun _ s6 ⟨H6,I6,q6⟩=>⟨σ,H6,I6,q6⟩
def ipI(f:Int→Int→Int):TIp:=fun x y H Q=>∃i j,x=.int i∧y=.int j∧Q (.int (f i j)) H
def nl:PIp X .Add (ipI fun i j=>i+j):=by
 intro f' s σ H x y v u Q I r1 r2 h
 obtain⟨i,j,e1,e2,q⟩:=h
 subst e1;subst e2
 obtain⟨t,rfl⟩:=r1
 obtain⟨t',rfl⟩:=r2
 exact iadd_int ⟨.int _,H,I.tok _,⟨_,rfl⟩,q⟩
def ZM:PIp X .Sub (ipI fun i j=>i-j):=by
 intro f' s σ H x y v u Q I r1 r2 h
 obtain⟨i,j,e1,e2,q⟩:=h
 subst e1;subst e2
 obtain⟨t,rfl⟩:=r1
 obtain⟨t',rfl⟩:=r2
 exact isub_int ⟨.int _,H,I.tok _,⟨_,rfl⟩,q⟩
end
section
variable{X:Cx}{pos:Pos}
def VZ(c:TT)(tb:TS):TS:=fun D σ H=>∃W:Nat→St→Hp→Prop,(∃m,W m σ H)∧∀m σ H,W m σ H→
 c σ H fun b H1=>if b=true then ∃N:St→Hp→Prop,(∀σ' H',N σ' H'→∃m',m'<m∧W m' σ' H')∧tb { D with nx:=N,ct:=N,bk:=D.nx } σ H1 else D.nx σ H1
def a_{c:Expr}{body:List Stmt}{tc:TT}{tb:TS}(hp:PassesOwn (model X.prog X.w) X.A X.env X.xe)(hc:PT X c tc)(hb:PSs X body tb):PS X (.While c body [] pos) (VZ tc tb):=by
 intro f' s σ H D I h
 obtain⟨W,⟨m0,w0⟩,turn⟩:=h
 refine wpAny_While (codeAny_whileLoop (fun n s'=>∃σ' H',Inv X f' σ' H' s'∧W n σ' H') ?_ m0 ⟨σ,H,I,w0⟩)
 rintro n s1 ⟨σ1,H1,I1,w1⟩
 refine wpAny_passesOwn hp (thn (hc f' s1 σ1 H1 _ I1 (turn n σ1 H1 w1)) fun b s2 zz=>?_)
 obtain⟨H2,I2,q2⟩:=zz
 cases b with
 | true=>
  obtain⟨N,hN,q2⟩:=q2
  rw[if_pos rfl]
  refine wpAny_passesOwn hp (thn (hb f' s2 σ1 H2 _ I2 q2) fun f s3 q3=>?_)
  cases f with
  | next=>
   obtain⟨σ3,H3,I3,n3⟩:=q3
   obtain⟨m',hm,w3⟩:=hN σ3 H3 n3
   exact⟨m',hm,σ3,H3,I3,w3⟩
  | cont=>
   obtain⟨σ3,H3,I3,n3⟩:=q3
   obtain⟨m',hm,w3⟩:=hN σ3 H3 n3
   exact⟨m',hm,σ3,H3,I3,w3⟩
  | brk=>exact q3
  | ret v=>exact q3
 | false=>
  rw[if_neg Bw]
  exact wpAny_execs_nil ⟨σ1,H2,I2,q2⟩
end
structure It where
 go:Nat→Hp→Prop
 yld:Nat→Hp→V→Hp→Prop
 stop:Nat→Hp→Prop
def tS(X:Cx)(f':am)(H:Hp)(b:Addr):Prop:=
 H b=none∧b≠X.env.locals∧b∉X.fs∧(b∈X.ex∨X.s₀.heap.objs.size≤b)∧(∀x c,X.env.cells.lookup x=some c→c≠b)∧∀p∈X.pn++f',p.1≠b
def Inv.fpOk{X:Cx}{f':am}{σ:St}{H H':Hp}{s:Shared}{b:Addr}(I:Inv X f' σ H s)(hb:s.heap.objs.size≤b)(hn:H' b=none):tS X f' H' b:=by
 refine⟨hn,Nat.ne_of_gt (BO I.lt hb),I.nofs hb,.inr (BS I.sz hb),fun x c e z=>?_,fun p hp z=>?_⟩
 ·obtain⟨v,q⟩:=I.cell x c e
  exact absurd (BO q.lt (by rw[z];exact hb)) (Ck _)
 ·exact absurd (BO (Heap.lt_size (I.pin p hp).1) (by rw[z];exact hb)) (Ck _)
structure mz(P:Program)(w:World)(K:Bq)(tg:Expr)(J:It)(fp:List Addr)(it:Addr)(tn:Nat→Heap→Prop):Prop where
 mem:it∈fp
 obj:∀i h,tn i h→∀b∈fp,∃o,h.get? b=some o∧∀v,o.data≠.cell v
 keep:∀i h h',tn i h→(∀b∈fp,∀o,h.get? b=some o→h'.get? b=some o)→tn i h'
 item:∀(X:Cx),X.prog=P→X.w=w→X.K=K→X.calm=true→∀(i:Nat)(f':am)(s:Shared)(σ:St)(H:Hp)(E:cp),Inv X f' σ H s→(∀b∈fp,tS X f' H b)→tn i s.heap→J.go i H→
  wpAny (model P w) X.A (pyNext (.ref it)) (fun r s1=>∃u,r=some u∧
   wpAny (model P w) X.A (letOwnedTupleGo tg (.ref it) u) (fun _ s2=>∃x H',Inv X f' σ H' s2∧RelV x u∧J.yld i H x H'∧tn (i+1) s2.heap∧∀b∈fp,H' b=none) E s1) E s
 done:∀(X:Cx),X.prog=P→X.w=w→X.K=K→X.calm=true→∀(i:Nat)(f':am)(s:Shared)(σ:St)(H:Hp)(E:cp),Inv X f' σ H s→(∀b∈fp,tS X f' H b)→tn i s.heap→J.stop i H→
  wpAny (model P w) X.A (pyNext (.ref it)) (fun r s1=>r=none∧Inv X f' σ H s1) E s
 self:∀(A:Around)(i:Nat)(s:Shared)(Q:cp)(E:cp),tn i s.heap→Q (.ref it) s→wpAny (model P w) A (pyIter (.ref it)) Q E s
abbrev TI:=St→Hp→(It→Hp→Prop)→Prop
def PIE(X:Cx)(f':am)(σ:St)(tg:Expr)(R:It→Hp→Prop)(itv:Value)(s2:Shared):Prop:=
 ∃(it:Addr)(fp:List Addr)(tn:Nat→Heap→Prop)(J:It)(H':Hp),itv=.ref it∧Inv X f' σ H' s2∧mz X.prog X.w X.K tg J fp it tn∧tn 0 s2.heap∧(∀b∈fp,tS X f' H' b)∧R J H'
def PI(X:Cx)(tg iter:Expr)(wi:TI):Prop:=
 ∀(f':am)(s:Shared)(σ:St)(H:Hp)(R:It→Hp→Prop),Inv X f' σ H s→wi σ H R→
  wpAny (model X.prog X.w) X.A (eval iter X.env) (fun v s1=>wpAny (model X.prog X.w) X.A (pyIter v) (PIE X f' σ tg R) X.xe s1) X.xe s
theorem iP{M:Model}{A:Around}{E:cp}{s:Shared}{tg:Expr}{it:Addr}{u:Value}{o:Obj}{n:String}{vs:Array Value}{Q:Unit→Shared→Prop}(ho:s.heap.get? it=some o)(hc:o.cls=.type n)(hd:o.data=.fields vs)
  (hn:["enumerate","zip","dict_itemiterator","dict_reverseitemiterator","odict_iterator","itertools.zip_longest","itertools.pairwise"].contains n=false) (hQ:Q () s):wpAny M A (letOwnedTupleGo tg (.ref it) u) Q E s:=by
 unfold letOwnedTupleGo
 cases tg<;>first
  | exact wpAny_pure hQ
  | (cases u<;>first
    | exact wpAny_pure hQ
    | (refine wpAny_bind (wpAny_load ho ?_)
       rw[hc,hd]
       show wpAny M A (if(["enumerate","zip","dict_itemiterator","dict_reverseitemiterator","odict_iterator","itertools.zip_longest","itertools.pairwise"].contains n&&vs[0]? == some (rawInt _))=true then _ else _) Q E s
       rw[if_neg (by intro h;rw[hn,Bool.false_and]at h;cases h)]
       exact wpAny_pure hQ))
def Itl(K:Bq)(a:Addr):It:=
 ⟨fun i H=>∃xs x,SqL K H a xs∧xs[i]? = some x,fun i H x H'=>H'=H∧∀xs,SqL K H a xs→xs[i]? = some x,fun i H=>∃xs,SqL K H a xs∧xs.length≤i⟩
def Itr(lo:Int)(n:Nat):It:=⟨fun i _=>i<n,fun i H x H'=>H'=H∧x=.int (lo+i),fun i _=>n≤i⟩
theorem c_{P:Program}{w:World}{K:Bq}{tg:Expr}(a it:Addr):mz P w K tg (Itl K a) [it] it (fun i h=>h.IsListIter it a i) where
 mem:=by simp
 obj:=fun i h st b hb=>by
  have e:b=it:=by simpa using hb
  subst e
  obtain⟨o,e,c,d⟩:=st
  exact⟨o,e,fun v z=>by rw[d]at z;cases z⟩
 keep:=fun i h h' st k=>st.at fun o e=>k it (by simp) o e
 item:=by
  intro X hP hw hK hc i f' s σ H E I hf st hg
  subst hP hw hK
  obtain⟨xs,x,hq,hx⟩:=hg
  obtain⟨its,rv,p,hz⟩:=I.list hq
  obtain⟨u,hu,ru⟩:=rv.get hx
  obtain⟨f0,f1,f2,f3,f4,f5⟩:=hf it (by simp)
  refine wpAny_pyNext_list_item st p.isList (x:=u) (by simpa using hu) fun h' st' sb=>?_
  have I1:Inv X f' σ H { s with heap:=h' }:=I.turned (t':=s.toks) (fun b o hb e=>(sb.2 b hb).trans e) f0 f1 f3 f4 f5
  obtain⟨o,e,c,d⟩:=id st'
  exact⟨u,rfl,iP (s:={ s with heap:=h' }) e c d (by decide) ⟨x,H,I1,ru,⟨rfl,fun ys hy=>by rw[I.list_inj hy hq];exact hx⟩,st',fun b hb=>(hf b hb).1⟩⟩
 done:=by
  intro X hP hw hK hc i f' s σ H E I hf st hg
  subst hP hw hK
  obtain⟨xs,hq,hx⟩:=hg
  obtain⟨its,rv,p,hz⟩:=I.list hq
  obtain⟨f0,f1,f2,f3,f4,f5⟩:=hf it (by simp)
  have hl:=rv.length
  exact wpAny_pyNext_list_end (I.ok.hd hc) st p.isList (by simp;omega) fun h' eb=>⟨rfl,I.turned (t':=s.toks) (fun b o hb e=>eb b o hb e) f0 f1 f3 f4 f5⟩
 self:=fun _ _ _ _ _ st h=>wpAny_pyIter_listiter st h
theorem gU{P:Program}{w:World}{K:Bq}{tg:Expr}(it:Addr)(lo:Int)(n:Nat):mz P w K tg (Itr lo n) [it] it (fun i h=>IsRangeIter h it (lo+(i:Nat)*1) ((n:Int)-(i:Nat)) 1) where
 mem:=by simp
 obj:=fun i h st b hb=>by
  have e:b=it:=by simpa using hb
  subst e
  exact⟨_,st,fun v z=>by
   have z':Data.fields _=Data.cell v:=z
   cases z'⟩
 keep:=fun i h h' st k=>k it (by simp) _ st
 item:=by
  intro X hP hw hK hc i f' s σ H E I hf st hg
  subst hP hw hK
  obtain⟨f0,f1,f2,f3,f4,f5⟩:=hf it (by simp)
  have W:=Walks.range (prog:=X.prog) (w:=X.w) (I.ok.hd hc) it lo 1 n
  refine W.item i s _ _ hg st fun v h' tk hv st' kk=>?_
  obtain⟨t,rfl⟩:=hv
  have I1:Inv X f' σ H { s with heap:=h',toks:=tk }:=I.turned (fun b o hb e=>kk b o (by simpa using hb) e) f0 f1 f3 f4 f5
  refine⟨_,rfl,iP (s:={ s with heap:=h',toks:=tk }) (n:="range_iterator") st' rfl rfl (by decide) ⟨.int (lo+i),H,I1,⟨t,?_⟩,⟨rfl,rfl⟩,st',fun b hb=>(hf b hb).1⟩⟩
  rw[Cc]
 done:=by
  intro X hP hw hK hc i f' s σ H E I hf st hg
  subst hP hw hK
  obtain⟨f0,f1,f2,f3,f4,f5⟩:=hf it (by simp)
  exact wpAny_pyNext_range_end (I.ok.hd hc) st (by have:n≤i:=hg;omega) fun h' eb=>⟨rfl,I.turned (t':=s.toks) (fun b o hb e=>eb b o hb e) f0 f1 f3 f4 f5⟩
 self:=fun _ _ _ _ _ st h=>wpAny_pyIter_rangeiter st h
section
variable{X:Cx}{tg:Expr}
def Mr(K:Bq)(tl:TE):TI:=fun σ H R=>tl σ H fun x H1=>∃a,x=.ref a∧(∃xs,SqL K H1 a xs)∧R (Itl K a) H1
def kf{l:Expr}{tl:TE}(hl:PE X l tl):PI X tg l (Mr X.K tl):=by
 intro f' s σ H R I h
 refine thn (hl f' s σ H _ I h) fun v s1 zz=>?_
 obtain⟨x,H1,I1,r1,q1⟩:=zz
 obtain⟨a,e,⟨xs,hq⟩,q⟩:=q1
 subst e
 cases r1
 obtain⟨its,rv,p,hz⟩:=I1.list hq
 refine wpAny_pyIter_list p.isList ?_
 refine⟨s1.heap.objs.size,[s1.heap.objs.size],_,_,H1,rfl,I1.kept (t':=s1.toks) fun b o e=>Heap.get?_push_of_some _ e,c_ a _,⟨_,Heap.get?_push_size _ rfl,rfl,rfl⟩,fun b hb=>?_,q⟩
 have e:b=s1.heap.objs.size:=by simpa using hb
 subst e
 exact I1.fpOk (By _) (I1.hok.fresh (By _))
theorem jT{f':am}{σ:St}{H:Hp}{s:Shared}{R:It→Hp→Prop}{E:cp}{lo hi:Int}{t u v:Tok}{tk:Nat}(I:Inv X f' σ H s)(h1:-(2^62)≤lo)(h2:lo<2^62)(h3:-(2^62)≤hi)(h4:hi<2^62)
  (q:R (Itr lo (hi-lo).toNat) H):wpAny (model X.prog X.w) X.A (pyIter (.ref s.heap.objs.size)) (PIE X f' σ tg R) E { s with heap:=s.heap.push { cls:=.type "range",data:=.fields #[.int lo t,.int hi u,.int 1 v] },toks:=tk }:=by
 refine wpAny_pyIter_range (IsRange.new ..) (small_one h1 h2 h3 h4) ?_
 have I1:Inv X f' σ H { s with heap:=s.heap.push { cls:=.type "range",data:=.fields #[.int lo t,.int hi u,.int 1 v] },toks:=tk }:=I.kept fun b o e=>Heap.get?_push_of_some _ e
 refine⟨(s.heap.push { cls:=.type "range",data:=.fields #[.int lo t,.int hi u,.int 1 v] }).objs.size,[(s.heap.push { cls:=.type "range",data:=.fields #[.int lo t,.int hi u,.int 1 v] }).objs.size],_,_,H,rfl,
  I1.kept (t':=tk) fun b o e=>Heap.get?_push_of_some _ e,gU _ lo (hi-lo).toNat,?_,fun b hb=>?_,q⟩
 ·have e1:lo+((0:Nat):Int)*1=lo:=by simp
  have e2:(((hi-lo).toNat:Nat):Int)-((0:Nat):Int)=Builtin.Range.rangeSize lo hi 1:=by rw[rangeSize_one];split<;>omega
  show IsRangeIter _ _ (lo+((0:Nat):Int)*1) ((((hi-lo).toNat:Nat):Int)-((0:Nat):Int)) 1
  rw[e1,e2]
  exact Heap.get?_push_size _ rfl
 ·have e:b=(s.heap.push { cls:=.type "range",data:=.fields #[.int lo t,.int hi u,.int 1 v] }).objs.size:=by simpa using hb
  subst e
  exact I1.fpOk (By _) (I1.hok.fresh (By _))
def Mq(ta:TA):TI:=fun σ H R=>ta σ H fun vs H1=>∃j:Int,vs=[.int j]∧-(2^62)≤j∧j<2^62∧R (Itr 0 j.toNat) H1
def Mp(ta:TA):TI:=fun σ H R=>ta σ H fun vs H1=>∃i j:Int,vs=[.int i,.int j]∧(-(2^62)≤i∧i<2^62∧-(2^62)≤j∧j<2^62)∧R (Itr i (j-i).toNat) H1
def mO{a:Expr}{ta:TA}{p pos:Pos}(hg:Gl X "range")(hm:X.mg "range"=none)(ha:PA X [a] ta)(hs:starEach [a] X.env=[(false,eval a X.env)]:=by rfl):PI X tg (.Call (.Name "range" p) [a] [] pos) (Mq ta):=by
 intro f' s σ H R I h
 refine Call_ (vc I hg hm boot_range (PyProof.Rows.callWith_type1 (thn (ha pos f' s σ H _ I h) fun us s1 zz=>?_) hs rfl))
 obtain⟨vs,H1,I1,r1,q1⟩:=zz
 obtain⟨j,e,q1,q2,q⟩:=q1
 subst e
 cases r1 with
 | cons r rr=>
  cases rr
  obtain⟨t,rfl⟩:=r
  exact call_range_1 (jT I1 (by omega) (by omega) q1 q2 (by simpa using q))
def bx{a b:Expr}{ta:TA}{p pos:Pos}(hg:Gl X "range")(hm:X.mg "range"=none)(ha:PA X [a,b] ta)(hs:starEach [a,b] X.env=[(false,eval a X.env),(false,eval b X.env)]:=by rfl)(hs2:starEach [b] X.env=[(false,eval b X.env)]:=by rfl):
  PI X tg (.Call (.Name "range" p) [a,b] [] pos) (Mp ta):=by
 intro f' s σ H R I h
 refine Call_ (vc I hg hm boot_range (PyProof.Rows.callWith_type1 (thn (ha pos f' s σ H _ I h) fun us s1 ⟨vs,H1,I1,r1,q1⟩=>?_) (by rw[hs,hs2]) (by rw[hs2];rfl)))
 obtain⟨i,j,e,⟨q1,q2,q3,q4⟩,q⟩:=q1
 subst e
 cases r1 with
 | cons r rr=>
  cases rr with
  | cons r' rr=>
   cases rr
   obtain⟨t,rfl⟩:=r
   obtain⟨t',rfl⟩:=r'
   exact call_range_2 (jT I1 q1 q2 q3 q4 q)
def LI(wi:TI)(g:TG)(tb:TS):TS:=fun D σ H=>wi σ H fun J H1=>∃W:Nat→Nat→St→Hp→Prop,(∃m,W 0 m σ H1)∧∀i m σ H,W i m σ H→
 (J.stop i H∧D.nx σ H)∨(J.go i H∧∃N:St→Hp→Prop,(∀σ' H',N σ' H'→∃m',m'<m∧W (i+1) m' σ' H')∧∀x H',J.yld i H x H'→g x σ H' fun σ2 H2=>tb { D with nx:=N,ct:=N,bk:=D.nx } σ2 H2)
def va(fp:List Addr)(h:Heap):List (Addr×Obj):=fp.filterMap fun b=>(h.get? b).map fun o=>(b,o)
def sK{fp:List Addr}{h:Heap}{b:Addr}{o:Obj}(hb:b∈fp)(e:h.get? b=some o):(b,o)∈va fp h:=List.mem_filterMap.mpr ⟨b,hb,by rw[e];rfl⟩
def bC{fp:List Addr}{h:Heap}{p:Addr×Obj}(hp:p∈va fp h):p.1∈fp∧h.get? p.1=some p.2:=by
 obtain⟨b,hb,e⟩:=List.mem_filterMap.mp hp
 cases q:h.get? b with
 | none=>rw[q]at e;cases e
 | some o=>
  rw[q]at e
  have e':(b,o)=p:=Option.some.inj e
  subst e'
  exact⟨hb,q⟩
def Inv.pinned{f':am}{σ:St}{H:Hp}{s:Shared}{fp:List Addr}(I:Inv X f' σ H s)(hf:∀b∈fp,tS X f' H b)(ho:∀b∈fp,∃o,s.heap.get? b=some o∧∀v,o.data≠.cell v):Inv X (f'++va fp s.heap) σ H s:=
 I.pins_of fun p hp=>(B7.mp hp).elim (fun z=>I.pin p (Cr _ z)) fun z=>by
  obtain⟨hb,e⟩:=bC z
  obtain⟨f0,f1,f2,_⟩:=hf p.1 hb
  obtain⟨o,e',d⟩:=ho p.1 hb
  rw[e]at e';cases e'
  exact⟨e,f0,f1,f2,d⟩
def Inv.unpinned{f' pl:am}{σ:St}{H:Hp}{s:Shared}(I:Inv X (f'++pl) σ H s):Inv X f' σ H s:=I.pins_of fun p hp=>I.pin p (Cr _ (List.mem_append_left _ hp))
theorem vS{iter:Expr}{body:List Stmt}{wi:TI}{g:TG}{tb:TS}{pos:Pos}(hp:PassesOwn (model X.prog X.w) X.A X.env X.xe)(hc:X.calm=true)(hi:PI X tg iter wi)(hg:PG X tg g)(hb:PSs X body tb)
  (hs:∀x,foldedSetIterable iter X.env x=pure x:=by intro _;rfl):PS X (.For tg iter body [] pos) (LI wi g tb):=by
 intro f' s σ H D I h
 refine wpAny_For (thn (hi f' s σ H _ I h) fun v s1 h1=>thn h1 fun itv s2 h2=>?_) hs
 obtain⟨it,fp,tn,J,H2,e,I2,T,st2,f2,W,⟨m0,w0⟩,turn⟩:=h2
 subst e
 have stat:∀{H':Hp},(∀b∈fp,H' b=none)→∀b∈fp,tS X f' H' b:=fun hn b hb=>⟨hn b hb,(f2 b hb).2⟩
 refine codeAny_forLoop_any (fun n s'=>∃i σ' H',Inv X f' σ' H' s'∧tn i s'.heap∧(∀b∈fp,H' b=none)∧W i n σ' H') ?_ m0 ⟨0,σ,H2,I2,st2,fun b hb=>(f2 b hb).1,w0⟩
 rintro n s3 ⟨i,σ3,H3,I3,st3,fr3,w3⟩
 rcases turn i n σ3 H3 w3 with ⟨stop,qn⟩|⟨go,N,hN,step⟩
 ·refine wpAny_passesOwn hp (thn (T.done X rfl rfl rfl hc i f' s3 σ3 H3 X.xe I3 (stat fr3) st3 stop) fun r s4 zz=>?_)
  obtain⟨hr,I4⟩:=zz
  subst hr
  exact wpAny_execs_nil ⟨σ3,H3,I4,qn⟩
 ·refine wpAny_passesOwn hp (thn (T.item X rfl rfl rfl hc i f' s3 σ3 H3 X.xe I3 (stat fr3) st3 go) fun r s4 zz=>?_)
  obtain⟨u,hr,h4⟩:=zz
  subst hr
  refine wpAny_passesOwn hp (thn h4 fun _ s5 zz=>?_)
  obtain⟨x,H5,I5,r5,y5,st5,fr5⟩:=zz
  have I5':=I5.pinned (stat fr5) (T.obj _ _ st5)
  refine wpAny_passesOwn hp (thn (hg _ s5 σ3 H5 x u _ I5' r5 (step x H5 y5)) fun _ s6 zz=>?_)
  obtain⟨σ6,H6,I6,q6⟩:=zz
  refine wpAny_passesOwn hp (thn (hb _ s6 σ6 H6 _ I6 q6) fun f s7 q7=>?_)
  have again:∀{σ7:St}{H7:Hp},Inv X (f'++va fp s5.heap) σ7 H7 s7→N σ7 H7→∃m,m<n∧∃i σ' H',Inv X f' σ' H' s7∧tn i s7.heap∧(∀b∈fp,H' b=none)∧W i m σ' H':=fun{σ7 H7} I7 n7=>by
   obtain⟨m',hm,w7⟩:=hN σ7 H7 n7
   refine⟨m',hm,i+1,σ7,H7,I7.unpinned,T.keep _ _ _ st5 fun b hb o e=>(I7.pin (b,o) (Cr _ (Cr _ (sK hb e)))).1,fun b hb=>?_,w7⟩
   obtain⟨o,e,d⟩:=T.obj _ _ st5 b hb
   exact(I7.pin (b,o) (Cr _ (Cr _ (sK hb e)))).2.1
  cases f with
  | next=>obtain⟨σ7,H7,I7,n7⟩:=q7;exact again I7 n7
  | cont=>obtain⟨σ7,H7,I7,n7⟩:=q7;exact again I7 n7
  | brk=>obtain⟨σ7,H7,I7,q7⟩:=q7;exact⟨σ7,H7,I7.unpinned,q7⟩
  | ret v=>obtain⟨x7,σ7,H7,I7,r7,q7⟩:=q7;exact⟨x7,σ7,H7,I7.unpinned,r7,q7⟩
end
theorem iR{K:Bq}{a:Addr}{xs:List V}{g:TG}{tb:TS}{D:tT}{σ:St}{H:Hp}(Pv:Nat→St→Hp→Prop)(h0:Pv 0 σ H)(hl:∀i σ H,i≤xs.length→Pv i σ H→SqL K H a xs)
  (hs:∀i x σ H,xs[i]? = some x→Pv i σ H→g x σ H fun σ2 H2=>tb { D with nx:=Pv (i+1),ct:=Pv (i+1),bk:=D.nx } σ2 H2) (hd:∀σ H,Pv xs.length σ H→D.nx σ H):
  ∃W:Nat→Nat→St→Hp→Prop,(∃m,W 0 m σ H)∧∀i m σ H,W i m σ H→
   ((Itl K a).stop i H∧D.nx σ H)∨((Itl K a).go i H∧∃N:St→Hp→Prop,(∀σ' H',N σ' H'→∃m',m'<m∧W (i+1) m' σ' H')∧∀x H',(Itl K a).yld i H x H'→g x σ H' fun σ2 H2=>tb { D with nx:=N,ct:=N,bk:=D.nx } σ2 H2):=by
 refine⟨fun i m σ H=>m=xs.length-i∧i≤xs.length∧Pv i σ H,⟨xs.length,by simp,Nat.zero_le _,h0⟩,?_⟩
 rintro i m σ H ⟨rfl,hi,p⟩
 have q:=hl i σ H hi p
 by_cases hlt:i<xs.length
 ·refine .inr ⟨⟨xs,xs[i],q,by simp[hlt]⟩,Pv (i+1),fun σ' H' p'=>⟨xs.length-(i+1),by omega,rfl,hlt,p'⟩,fun x H' y=>?_⟩
  obtain⟨e,y⟩:=y
  subst e
  exact hs i x σ _ (y xs q) p
 ·have e:i=xs.length:=by omega
  subst e
  exact .inl ⟨⟨xs,q,By _⟩,hd σ H p⟩
theorem m_{lo:Int}{n:Nat}{g:TG}{tb:TS}{D:tT}{σ:St}{H:Hp}(Pv:Nat→St→Hp→Prop)(h0:Pv 0 σ H)
  (hs:∀i σ H,i<n→Pv i σ H→g (.int (lo+i)) σ H fun σ2 H2=>tb { D with nx:=Pv (i+1),ct:=Pv (i+1),bk:=D.nx } σ2 H2) (hd:∀σ H,Pv n σ H→D.nx σ H):
  ∃W:Nat→Nat→St→Hp→Prop,(∃m,W 0 m σ H)∧∀i m σ H,W i m σ H→
   ((Itr lo n).stop i H∧D.nx σ H)∨((Itr lo n).go i H∧∃N:St→Hp→Prop,(∀σ' H',N σ' H'→∃m',m'<m∧W (i+1) m' σ' H')∧∀x H',(Itr lo n).yld i H x H'→g x σ H' fun σ2 H2=>tb { D with nx:=N,ct:=N,bk:=D.nx } σ2 H2):=by
 refine⟨fun i m σ H=>m=n-i∧i≤n∧Pv i σ H,⟨n,by simp,Nat.zero_le _,h0⟩,?_⟩
 rintro i m σ H ⟨rfl,hi,p⟩
 by_cases hlt:i<n
 ·refine .inr ⟨hlt,Pv (i+1),fun σ' H' p'=>⟨n-(i+1),by omega,rfl,hlt,p'⟩,fun x H' y=>?_⟩
  obtain⟨e,y⟩:=y
  subst e y
  exact hs i σ _ hlt p
 ·have e:i=n:=by omega
  subst e
  exact .inl ⟨By _,hd σ H p⟩
abbrev R2:=V→V→Hp→VK→Prop
def OpR(X:Cx)(f:Value→Value→Sem Value)(r:R2):Prop:=
 ∀(f':am)(s:Shared)(σ:St)(H:Hp)(x y:V)(v u:Value)(Q:VK),Inv X f' σ H s→RelV x v→RelV y u→r x y H Q→
  wpAny (model X.prog X.w) X.A (f v u) (EP X f' σ Q) X.xe s
def UnR(X:Cx)(f:Value→Sem Value)(r:V→Hp→VK→Prop):Prop:=
 ∀(f':am)(s:Shared)(σ:St)(H:Hp)(x:V)(v:Value)(Q:VK),Inv X f' σ H s→RelV x v→r x H Q→
  wpAny (model X.prog X.w) X.A (f v) (EP X f' σ Q) X.xe s
def tu(X:Cx)(f:Value)(r:List V→Hp→VK→Prop):Prop:=
 ∀(f':am)(s:Shared)(σ:St)(H:Hp)(xs:List V)(us:List Value)(Q:VK),Inv X f' σ H s→Vals xs us→r xs H Q→
  wpAny (model X.prog X.w) X.A (call f us) (EP X f' σ Q) X.xe s
def HS(X:Cx)(r:V→Hp→(Bool→Hp→Prop)→Prop):Prop:=
 ∀(f':am)(s:Shared)(σ:St)(H:Hp)(x:V)(v:Value)(Q:Bool→Hp→Prop),Inv X f' σ H s→RelV x v→r x H Q→
  wpAny (model X.prog X.w) X.A (truthy v) (TP X f' σ Q) X.xe s
def tOp(r:R2)(ta tb:TE):TE:=fun σ H Q=>ta σ H fun x H1=>tb σ H1 fun y H2=>r x y H2 Q
def tUn(r:V→Hp→VK→Prop)(ta:TE):TE:=fun σ H Q=>ta σ H fun x H1=>r x H1 Q
def rI(C:Int→Int→Prop)(g:Int→Int→V):R2:=fun x y H Q=>∃i j,x=.int i∧y=.int j∧C i j∧Q (g i j) H
def rI0(g:Int→Int→V):R2:=fun x y H Q=>∃i j,x=.int i∧y=.int j∧Q (g i j) H
def rU(g:Int→V):V→Hp→VK→Prop:=fun x H Q=>∃i,x=.int i∧Q (g i) H
section
variable{X:Cx}{a b:Expr}{ta tb:TE}{pos:Pos}
theorem Wc(ha:PE X a ta)(hb:PE X b tb){f':am}{s:Shared}{σ:St}{H:Hp}{R:V→V→Hp→Prop}(I:Inv X f' σ H s)
  (h:ta σ H fun x H1=>tb σ H1 fun y H2=>R x y H2) {Q:cp} {f:Value→Value→Sem Value}
  (hf:∀v u s2 x y H2,Inv X f' σ H2 s2→RelV x v→RelV y u→R x y H2→wpAny (model X.prog X.w) X.A (f v u) Q X.xe s2):
  wpAny (model X.prog X.w) X.A (eval a X.env) (fun v s₁=>wpAny (model X.prog X.w) X.A (eval b X.env) (fun u s₂=>wpAny (model X.prog X.w) X.A (f v u) Q X.xe s₂) X.xe s₁) X.xe s:=by
 refine thn (ha f' s σ H _ I h) fun v s1 zz=>?_
 obtain⟨x,H1,I1,r1,q1⟩:=zz
 refine thn (hb f' s1 σ H1 _ I1 q1) fun u s2 zz=>?_
 obtain⟨y,H2,I2,r2,q2⟩:=zz
 exact hf v u s2 x y H2 I2 r1 r2 q2
def Wx{op:Operator}{r:R2}(ho:OpR X (binaryOp op) r)(ha:PE X a ta)(hb:PE X b tb):PE X (.BinOp a op b pos) (tOp r ta tb):=by
 intro f' s σ H Q I h
 exact wpAny_BinOp (Wc ha hb I h fun v u s2 x y H2 I2 rx ry q=>ho f' s2 σ H2 x y v u Q I2 rx ry q)
def T7{op:UnaryOp}{r:V→Hp→VK→Prop}(ho:UnR X (unaryOp op) r)(ha:PE X a ta):PE X (.UnaryOp op a pos) (tUn r ta):=by
 intro f' s σ H Q I h
 exact UnaryOp_ (thn (ha f' s σ H _ I h) fun v s1 ⟨x,H1,I1,r1,q1⟩=>ho f' s1 σ H1 x v Q I1 r1 q1)
theorem opI{f:Value→Value→Sem Value}{C:Int→Int→Prop}{g:Int→Int→Int}
  (rule:∀(i j:Int)(t u:Tok)(s:Shared)(Q:cp)(E:cp),C i j→Q (.int (g i j) s.toks) { s with toks:=s.toks+1 }→wpAny (model X.prog X.w) X.A (f (.int i t) (.int j u)) Q E s):
  OpR X f (rI C fun i j=>.int (g i j)):=by
 intro f' s σ H x y v u Q I rx ry h
 obtain⟨i,j,rfl,rfl,hc,q⟩:=h
 obtain⟨t,rfl⟩:=rx
 obtain⟨t',rfl⟩:=ry
 exact rule i j t t' s _ _ hc ⟨.int (g i j),H,I.tok _,⟨_,rfl⟩,q⟩
theorem Sk{f:Value→Value→Sem Value}{g:Int→Int→Int}
  (rule:∀(i j:Int)(t u:Tok)(s:Shared)(Q:cp)(E:cp),Q (.int (g i j) s.toks) { s with toks:=s.toks+1 }→wpAny (model X.prog X.w) X.A (f (.int i t) (.int j u)) Q E s):
  OpR X f (rI0 fun i j=>.int (g i j)):=by
 intro f' s σ H x y v u Q I rx ry h
 obtain⟨i,j,rfl,rfl,q⟩:=h
 obtain⟨t,rfl⟩:=rx
 obtain⟨t',rfl⟩:=ry
 exact rule i j t t' s _ _ ⟨.int (g i j),H,I.tok _,⟨_,rfl⟩,q⟩
theorem Xu{f:Value→Value→Sem Value}{g:Int→Int→Bool}
  (rule:∀(i j:Int)(t u:Tok)(s:Shared)(Q:cp)(E:cp),Q (.bool (g i j)) s→wpAny (model X.prog X.w) X.A (f (.int i t) (.int j u)) Q E s):
  OpR X f (rI0 fun i j=>.bl (g i j)):=by
 intro f' s σ H x y v u Q I rx ry h
 obtain⟨i,j,rfl,rfl,q⟩:=h
 obtain⟨t,rfl⟩:=rx
 obtain⟨t',rfl⟩:=ry
 exact rule i j t t' s _ _ ⟨.bl (g i j),H,I,rfl,q⟩
def c8(i j:Int):Prop:=j≠0∧j.natAbs<1073741824
def Tp(i j:Int):Prop:=0≤j∧j≤1000000∧i.natAbs<2^64
def Uu:OpR X (binaryOp .Add) (rI0 fun i j=>.int (i+j)):=Sk fun _ _ _ _ _ _ _ q=>add_int q
def Ur:OpR X (binaryOp .Sub) (rI0 fun i j=>.int (i-j)):=Sk fun _ _ _ _ _ _ _ q=>sub_int q
def Zp:OpR X (binaryOp .FloorDiv) (rI c8 fun i j=>.int (i.fdiv j)):=opI fun _ _ _ _ _ _ _ hc q=>floordiv_int hc.1 q (.inl (PyProof.noPylong_small hc.2))
def Xs:OpR X (binaryOp .Mod) (rI (fun _ j=>j≠0) fun i j=>.int (i.fmod j)):=opI fun _ _ _ _ _ _ _ hc q=>mod_int' hc q
def Ut:OpR X (binaryOp .Pow) (rI Tp fun i j=>.int (i^j.toNat)):=opI fun _ _ _ _ _ _ _ hc q=>pow_int_small hc.1 hc.2.1 hc.2.2 q
theorem unI{f:Value→Sem Value}{g:Int→Int}
  (rule:∀(i:Int)(t:Tok)(s:Shared)(Q:cp)(E:cp),Q (.int (g i) s.toks) { s with toks:=s.toks+1 }→wpAny (model X.prog X.w) X.A (f (.int i t)) Q E s):
  UnR X f (rU fun i=>.int (g i)):=by
 intro f' s σ H x v Q I rx h
 obtain⟨i,rfl,q⟩:=h
 obtain⟨t,rfl⟩:=rx
 exact rule i t s _ _ ⟨.int (g i),H,I.tok _,⟨_,rfl⟩,q⟩
def VT:UnR X (unaryOp .USub) (rU fun i=>.int (-i)):=unI fun _ _ _ _ _ q=>neg_int q
end
def TU:V→V→Bool
 | .non,.non=>true|.non,.int _=>true|.int _,.non=>true|.non,.bl _=>true|.bl _,.non=>true|.non,.str _=>true|.str _,.non=>true
 | .int _,.int _=>true|.bl _,.bl _=>true|.str _,.str _=>true|.byt _,.byt _=>true
 | .int _,.str _=>true|.str _,.int _=>true|.bl _,.str _=>true|.str _,.bl _=>true
 | _,_=>false
def rEq:R2:=fun x y H Q=>TU x y=true∧Q (.bl (decide (x=y))) H
def rNe:R2:=fun x y H Q=>TU x y=true∧Q (.bl (!decide (x=y))) H
def cE{i j:Int}:decide (V.int i=V.int j)=(i==j):=by
 rw[CL]
 simp
def Yc{i j:Bool}:decide (V.bl i=V.bl j)=(i==j):=by
 rw[CL]
 simp
def cD{i j:Str}:decide (V.str i=V.str j)=(i==j):=by
 rw[CL]
 simp
def cF{i j:Array UInt8}:decide (V.byt i=V.byt j)=(i.toList==j.toList):=by
 rw[CL]
 cases i
 cases j
 simp
section
variable{X:Cx}{a b c:Expr}{ta tb tc:TE}{pos:Pos}
def zV{f':am}{σ:St}{H:Hp}{s:Shared}{Q:VK}{k k':Bool}(I:Inv X f' σ H s)(q:Q (.bl k) H)(e:k=k'):EP X f' σ Q (.bool k') s:=by
 subst e
 exact⟨.bl k,H,I,rfl,q⟩
def Si:OpR X (compareOp .Eq) rEq:=by
 intro f' s σ H x y v u Q I rx ry h
 obtain⟨hs,q⟩:=h
 cases x with
 | non=>
  cases rx
  cases y with
  | non=>cases ry;exact PySem.EqNone.eq_none_none (zV I q (by simp))
  | bl j=>cases ry;exact PySem.EqNone.eq_none_bool (zV I q (by simp))
  | int j=>obtain⟨t',rfl⟩:=ry;exact PySem.EqNone.eq_none_int (zV I q (by simp))
  | str j=>obtain⟨t',rfl⟩:=ry;exact PySem.EqNone.eq_none_str (zV I q (by simp))
  | _=>exact absurd (show false=true from hs) Bw
 | bl i=>
  cases rx
  cases y with
  | non=>cases ry;exact PySem.EqNone.eq_bool_none (zV I q (by simp))
  | bl j=>cases ry;exact eq_bool (zV I q Yc)
  | str j=>obtain⟨t',rfl⟩:=ry;exact PySem.EqMixed.eq_bool_str (zV I q (by simp))
  | _=>exact absurd (show false=true from hs) Bw
 | int i=>
  obtain⟨t,rfl⟩:=rx
  cases y with
  | non=>cases ry;exact PySem.EqNone.eq_int_none (zV I q (by simp))
  | int j=>obtain⟨t',rfl⟩:=ry;exact eq_int (zV I q cE)
  | str j=>obtain⟨t',rfl⟩:=ry;exact PySem.EqMixed.eq_int_str (zV I q (by simp))
  | _=>exact absurd (show false=true from hs) Bw
 | str i=>
  obtain⟨t,rfl⟩:=rx
  cases y with
  | non=>cases ry;exact PySem.EqNone.eq_str_none (zV I q (by simp))
  | bl j=>cases ry;exact PySem.EqMixed.eq_str_bool (zV I q (by simp))
  | int j=>obtain⟨t',rfl⟩:=ry;exact PySem.EqMixed.eq_str_int (zV I q (by simp))
  | str j=>obtain⟨t',rfl⟩:=ry;exact eq_str (zV I q cD)
  | _=>exact absurd (show false=true from hs) Bw
 | byt i=>
  obtain⟨t,rfl⟩:=rx
  cases y with
  | byt j=>obtain⟨t',rfl⟩:=ry;exact PySem.W.eq_bytes (zV I q cF)
  | _=>exact absurd (show false=true from hs) Bw
 | _=>cases y<;>exact absurd (show false=true from hs) Bw
def Sd:OpR X (compareOp .NotEq) rNe:=by
 intro f' s σ H x y v u Q I rx ry h
 obtain⟨hs,q⟩:=h
 cases x with
 | non=>
  cases rx
  cases y with
  | non=>cases ry;exact PySem.EqNone.ne_none_none (zV I q (by simp))
  | bl j=>cases ry;exact PySem.EqNone.ne_none_bool (zV I q (by simp))
  | int j=>obtain⟨t',rfl⟩:=ry;exact PySem.EqNone.ne_none_int (zV I q (by simp))
  | str j=>obtain⟨t',rfl⟩:=ry;exact PySem.EqNone.ne_none_str (zV I q (by simp))
  | _=>exact absurd (show false=true from hs) Bw
 | bl i=>
  cases rx
  cases y with
  | non=>cases ry;exact PySem.EqNone.ne_bool_none (zV I q (by simp))
  | bl j=>cases ry;exact ne_bool (zV I q (congrArg not Yc))
  | str j=>obtain⟨t',rfl⟩:=ry;exact PySem.EqMixed.ne_bool_str (zV I q (by simp))
  | _=>exact absurd (show false=true from hs) Bw
 | int i=>
  obtain⟨t,rfl⟩:=rx
  cases y with
  | non=>cases ry;exact PySem.EqNone.ne_int_none (zV I q (by simp))
  | int j=>obtain⟨t',rfl⟩:=ry;exact ne_int (zV I q (congrArg not cE))
  | str j=>obtain⟨t',rfl⟩:=ry;exact PySem.EqMixed.ne_int_str (zV I q (by simp))
  | _=>exact absurd (show false=true from hs) Bw
 | str i=>
  obtain⟨t,rfl⟩:=rx
  cases y with
  | non=>cases ry;exact PySem.EqNone.ne_str_none (zV I q (by simp))
  | bl j=>cases ry;exact PySem.EqMixed.ne_str_bool (zV I q (by simp))
  | int j=>obtain⟨t',rfl⟩:=ry;exact PySem.EqMixed.ne_str_int (zV I q (by simp))
  | str j=>obtain⟨t',rfl⟩:=ry;exact ne_str (zV I q (congrArg not cD))
  | _=>exact absurd (show false=true from hs) Bw
 | byt i=>
  obtain⟨t,rfl⟩:=rx
  cases y with
  | byt j=>obtain⟨t',rfl⟩:=ry;exact PySem.W.ne_bytes (zV I q (congrArg not cF))
  | _=>exact absurd (show false=true from hs) Bw
 | _=>cases y<;>exact absurd (show false=true from hs) Bw
def Se:OpR X (compareOp .Lt) (rI0 fun i j=>.bl (decide (i<j))):=Xu fun _ _ _ _ _ _ _ q=>lt_int q
def Sf:OpR X (compareOp .LtE) (rI0 fun i j=>.bl (decide (i≤j))):=Xu fun _ _ _ _ _ _ _ q=>le_int q
def Sg:OpR X (compareOp .Gt) (rI0 fun i j=>.bl (decide (j<i))):=Xu fun _ _ _ _ _ _ _ q=>gt_int q
def Sh:OpR X (compareOp .GtE) (rI0 fun i j=>.bl (decide (j≤i))):=Xu fun _ _ _ _ _ _ _ q=>ge_int q
def kj:OpR X (compareOp .NotIn) (fun x y H Q=>∃i j,x=.str i∧y=.str j∧Q (.bl (!(!(Builtin.Str.occurrences j i 0 j.length 1).isEmpty))) H):=by
 intro f' s σ H x y v u Q I rx ry h
 obtain⟨i,j,rfl,rfl,q⟩:=h
 obtain⟨t,rfl⟩:=rx
 obtain⟨t',rfl⟩:=ry
 exact notIn_str (zV I q rfl)
def zo(b:Expr){op:CmpOp}(h:op≠.In:=by decide)(h2:op≠.NotIn:=by decide):behindInMarks op b=false:=by
 have e1:(op==CmpOp.In)=false:=by cases op<;>first|rfl|exact absurd rfl h
 have e2:(op==CmpOp.NotIn)=false:=by cases op<;>first|rfl|exact absurd rfl h2
 cases b<;>simp[behindInMarks,e1,e2]
def Xo{op:CmpOp}{r:R2}(ho:OpR X (compareOp op) r)(ha:PE X a ta)(hb:PE X b tb)(hm:behindInMarks op b=false):PE X (.Compare a [op] [b] pos) (tOp r ta tb):=by
 intro f' s σ H Q I h
 exact wpAny_Compare1 (Wc ha hb I h fun v u s2 x y H2 I2 rx ry q=>ho f' s2 σ H2 x y v u Q I2 rx ry q) hm
def aB(t:TE):TT:=fun σ H Q=>t σ H fun x H'=>∃k,x=.bl k∧Q k H'
def Xd{op:CmpOp}{r:R2}(ho:OpR X (compareOp op) r)(ha:PE X a ta)(hb:PE X b tb)(hm:behindInMarks op b=false):PT X (.Compare a [op] [b] pos) (aB (tOp r ta tb)):=by
 intro f' s σ H Q I h
 refine wpAny_isTrue_Compare1 (thn (ha f' s σ H _ I h) fun v s1 ⟨x,H1,I1,r1,q1⟩=>thn (hb f' s1 σ H1 _ I1 q1) fun u s2 ⟨y,H2,I2,r2,q2⟩=>
  thn (ho f' s2 σ H2 x y v u _ I2 r1 r2 q2) fun c s3 ⟨z,H3,I3,r3,k,e,q3⟩=>?_) hm
 subst e
 cases r3
 exact wpAny_truthy_bool ⟨H3,I3,q3⟩
def aD(r r':R2)(ta tb tc:TE):TE:=fun σ H Q=>ta σ H fun x H1=>tb σ H1 fun y H2=>r x y H2 fun z H3=>∃k,z=.bl k∧
 (if k=true then tc σ H3 fun w' H4=>r' y w' H4 Q else Q (.bl false) H3)
theorem aZ{op op':CmpOp}{r r':R2}(ho:OpR X (compareOp op) r)(ho':OpR X (compareOp op') r')(ha:PE X a ta)(hb:PE X b tb)(hc:PE X c tc)
  (hm:lastMarks [op,op'] [b,c]=false:=by with_unfolding_all rfl):PT X (.Compare a [op,op'] [b,c] pos) (aB (aD r r' ta tb tc)):=by
 intro f' s σ H Q I h
 refine isTrue_chain (thn (ha f' s σ H _ I h) fun v s1 ⟨x,H1,I1,r1,q1⟩=>test_link (thn (hb f' s1 σ H1 _ I1 q1) fun u s2 ⟨y,H2,I2,r2,q2⟩=>
  thn (ho f' s2 σ H2 x y v u _ I2 r1 r2 q2) fun d s3 ⟨z,H3,I3,r3,k,e,q3⟩=>?_)) hm
 subst e
 cases r3
 refine wpAny_truthy_bool ?_
 cases k with
 | false=>
  obtain⟨k',e',q'⟩:=q3
  cases e'
  exact ite_ff ⟨H3,I3,q'⟩
 | true=>
  refine ite_tt (test_last (thn (hc f' s3 σ H3 _ I3 q3) fun w' s4 ⟨z',H4,I4,r4,q4⟩=>thn (ho' f' s4 σ H4 y z' u w' _ I4 r2 r4 q4) fun d' s5 zz=>?_))
  obtain⟨z2,H5,I5,r5,k2,e2,q5⟩:=zz
  subst e2
  cases r5
  exact wpAny_truthy_bool ⟨H5,I5,q5⟩
def Ln(K:Bq)(x:V)(H:Hp)(k:Bool):Prop:=
 match x with
 | .non=>k=false
 | .bl b=>k=b
 | .int i=>k=(i != 0)
 | .str y=>y.length≤sizeLine∧k=((y.length:Int) != 0)
 | .byt y=>y.size≤sizeLine∧k=((y.size:Int) != 0)
 | .ref p=>(∃xs,SqL K H p xs∧k=!xs.isEmpty)∨(∃xs,SqT K H p xs∧k=!xs.isEmpty)∨∃kvs,H p=some (.dK kvs)∧k=!kvs.isEmpty
 | _=>False
def eJ{κ:Type}{kvs:List (κ×V)}{vs:List (κ×Value)}(r:KV kvs vs):(!vs.isEmpty)=!kvs.isEmpty:=by
 cases r<;>rfl
def nk{xs:List V}{its:List Value}(r:Vals xs its):(!its.toArray.isEmpty)=!xs.isEmpty:=by
 cases r<;>simp
def uS:(sizeLine:Nat)<2^63:=by rw[sizeLine_eq];decide
def VU:HS X (fun x H Q=>∃k,Ln X.K x H k∧Q k H):=by
 intro f' s σ H x v Q I rx h
 obtain⟨k,e,q⟩:=h
 have hl:=uS
 have hs:sizeLine=16777216:=sizeLine_eq
 cases x with
 | non=>
  cases rx
  have e':k=false:=e
  subst e'
  exact truthy_none ⟨H,I,q⟩
 | bl b=>
  cases rx
  have e':k=b:=e
  subst e'
  exact wpAny_truthy_bool ⟨H,I,q⟩
 | int i=>
  obtain⟨t,rfl⟩:=rx
  have e':k=(i != 0):=e
  subst e'
  exact PySem.P.truthy_int ⟨H,I,q⟩
 | str y=>
  obtain⟨t,rfl⟩:=rx
  obtain⟨hy,e'⟩:y.length≤sizeLine∧k=((y.length:Int) != 0):=e
  subst e'
  exact PySem.P.truthy_str (by omega) ⟨H,I.tok _,q⟩
 | byt y=>
  obtain⟨t,rfl⟩:=rx
  obtain⟨hy,e'⟩:y.size≤sizeLine∧k=((y.size:Int) != 0):=e
  subst e'
  exact PySem.W.truthy_bytes (by omega) ⟨H,I.tok _,q⟩
 | ref p=>
  cases rx
  have e':(∃xs,SqL X.K H p xs∧k=!xs.isEmpty)∨(∃xs,SqT X.K H p xs∧k=!xs.isEmpty)∨∃kvs,H p=some (.dK kvs)∧k=!kvs.isEmpty:=e
  rcases e' with ⟨xs,hx,e'⟩|⟨xs,hx,e'⟩|⟨kvs,hx,e'⟩
  ·subst e'
   obtain⟨its,r,pl,hz⟩:=I.list hx
   have hlen:=r.length
   exact wpAny_truthy_list pl.isList (by simp only[List.size_toArray];omega) ⟨H,I.tok _,by rw[nk r];exact q⟩
  ·subst e'
   obtain⟨its,r,pl,hz⟩:=I.tuple hx
   have hlen:=r.length
   exact truthy_tuple pl (by simp only[List.size_toArray];omega) ⟨H,I.tok _,by rw[nk r];exact q⟩
  ·subst e'
   obtain⟨hz,hS,vs,r,m⟩:kvs.length≤sizeLine∧(p==sysModules)=false∧∃vs,KV kvs vs∧s.heap.DictOf (kG X.prog X.w) p vs:=I.hok p _ hx
   have hlen:kvs.length=vs.length:=Paired.length r
   exact wpAny_truthy_dict hS m (by omega) ⟨H,I.tok _,by rw[eJ r];exact q⟩
 | _=>exact(show False from e).elim
theorem jW(ha:PE X a ta)(he:∀whole,isTrue a X.env whole=(do let v ←whole;standAt a.pos;holding [v] (truthy v))):
  PT X a (fun σ H Q=>ta σ H fun x H'=>∃k,Ln X.K x H' k∧Q k H'):=by
 intro f' s σ H Q I h
 exact isTrue_plain (thn (ha f' s σ H _ I h) fun v s1 ⟨x,H1,I1,r1,q1⟩=>VU f' s1 σ H1 x v Q I1 r1 q1) (he _)
def fN:OpR X (binaryOp .Add) (fun x y H Q=>∃i j,x=.str i∧y=.str j∧i.length+j.length≤sizeLine∧Q (.str (i++j)) H):=by
 intro f' s σ H x y v u Q I rx ry h
 obtain⟨i,j,rfl,rfl,hz,q⟩:=h
 obtain⟨t,rfl⟩:=rx
 obtain⟨t',rfl⟩:=ry
 exact add_str (fun t' tk=>⟨.str (i++j),H,I.tok _,⟨_,rfl⟩,q⟩) hz
def gN(b:Expr):Prop:=∀o i,subscripted b false o i=operate [o,i] (getItem o i)
theorem j4(ha:PE X a ta)(hb:PE X b tb)(hs:gN b):
  PE X (.Subscript a b pos) (tOp (fun x y H Q=>∃z i c,x=.str z∧y=.int i∧0≤i∧i<2^63∧i<z.length∧z.cps[i.toNat]? = some c∧Q (.str ⟨#[c]⟩) H) ta tb):=by
 intro f' s σ H Q I h
 refine Subscript_ (Wc ha hb I h fun v u s2 x y H2 I2 rx ry q=>?_)
 obtain⟨z,i,c,rfl,rfl,h0,h63,h1,hc,q⟩:=q
 obtain⟨t,rfl⟩:=rx
 obtain⟨t',rfl⟩:=ry
 have e:seqIndex? i z.length=some i.toNat:=PySem.StrLaws.seqIndex_nonneg h0 h1
 exact tail_any (typeIs_str s2 z t) slot_str_getitem.lookup (getItem_str (c:=c) (by
  have e1:decide (i < -(2^63:Int))=false:=decide_eq_false (by omega)
  have e2:decide (i≥2^63)=false:=decide_eq_false (by omega)
  rw[e1,e2]<;>rfl) (by rw[e];exact hc) ⟨.str ⟨#[c]⟩,H2,I2.tok _,⟨_,rfl⟩,q⟩) (hs _ _)
def dM{x:V}{us:List Value}(r:Vals [x] us):∃u,us=[u]∧RelV x u:=by
 cases r with
 | cons r1 r2=>cases r2;exact⟨_,rfl,r1⟩
def Wm{x y:V}{us:List Value}(r:Vals [x,y] us):∃u w',us=[u,w']∧RelV x u∧RelV y w':=by
 cases r with
 | cons r1 r2=>
  cases r2 with
  | cons r3 r4=>cases r4;exact⟨_,_,rfl,r1,r3⟩
def ac(hc:X.calm=true):tu X (.builtin "max") (fun xs H Q=>∃i j,xs=[.int i,.int j]∧Q (.int (if j>i then j else i)) H):=by
 intro f' s σ H xs us Q I r h
 obtain⟨i,j,rfl,q⟩:=h
 obtain⟨u,w',rfl,⟨t,rfl⟩,⟨t',rfl⟩⟩:=Wm r
 refine max_two_ints (I.ok.hd hc) fun h' tk k=>⟨_,H,I.kept k,?_,q⟩
 by_cases hj:j>i
 ·rw[if_pos hj,if_pos hj];exact⟨_,rfl⟩
 ·rw[if_neg hj,if_neg hj];exact⟨_,rfl⟩
def aa(hc:X.calm=true):tu X (.builtin "min") (fun xs H Q=>∃i j,xs=[.int i,.int j]∧Q (.int (if j<i then j else i)) H):=by
 intro f' s σ H xs us Q I r h
 obtain⟨i,j,rfl,q⟩:=h
 obtain⟨u,w',rfl,⟨t,rfl⟩,⟨t',rfl⟩⟩:=Wm r
 refine min_two_ints (I.ok.hd hc) fun h' tk k=>⟨_,H,I.kept k,?_,q⟩
 by_cases hj:j<i
 ·rw[if_pos hj,if_pos hj];exact⟨_,rfl⟩
 ·rw[if_neg hj,if_neg hj];exact⟨_,rfl⟩
def ji:tu X (.type "str") (fun xs H Q=>∃i,xs=[.int i]∧i.natAbs.log2<1920∧Q (.str (toString i)) H):=by
 intro f' s σ H xs us Q I r h
 obtain⟨i,rfl,hz,q⟩:=h
 obtain⟨u,rfl,t,rfl⟩:=dM r
 exact PySem.P.str_of_int hz ⟨.str _,H,I.tok _,⟨_,rfl⟩,q⟩
end
structure ObjM(h:Heap)(x dx C:Addr)(mA:be):Prop where
 obj:h.get? x=some (PySem.W.instObj C dx)
 ns:h.Ns1 dx mA
 ne:dx≠x
def bH{h:Heap}{dx:Addr}{mA:be}(n:h.Ns1 dx mA):∃od,h.get? dx=some od∧∀name,PySem.W.lookIn name od=some (mA name):=by
 obtain⟨o,es,ep,ho,hd,hk,_,hm⟩:=n
 refine⟨o,ho,fun name=>?_⟩
 have e:=hm name
 unfold nsFind findBy at e
 rw[←Array.find?_toList]at e
 unfold PySem.W.lookIn
 rw[hd]
 dsimp only
 split
 ·rename_i y q
  rw[q]at e
  exact congrArg some e
 ·rename_i q
  rw[q]at e
  have a:es.toList.any (·.refKey)=false:=by
   rw[List.any_eq_false]
   intro y hy
   obtain⟨z,t,hkey⟩:=hk y (Array.mem_toList_iff.mp hy)
   simp[DictEntry.refKey,hkey]
  have a':¬es.toList.any (·.refKey)=true:=by rw[a];exact Bw
  rw[if_neg a']
  exact congrArg some e
def ObjM.look{h:Heap}{x dx C:Addr}{mA:be}(I:ObjM h x dx C mA):∃od,PySem.W.InstAt h x (PySem.W.instObj C dx) C (some od)∧∀name,PySem.W.lookIn name od=some (mA name):=
 let⟨od,ho,hl⟩:=bH I.ns
 ⟨od,⟨I.obj,rfl,rfl,ho⟩,hl⟩
section
variable{prog:Program}{w:World}{A:Around}{E:cp}{s:Shared}{K:Bq}{x dx C f:Addr}{mA:be}{name:Str}{v:Value}
theorem XM{expr:Bool}{Q:cp}(X:K.In s.heap)(I:ObjM s.heap x dx C mA)(hg:PySem.W.plainGet K C name=true)(hh:PySem.W.hasDictIn K C=true)
  (ha:PySem.W.findIn K (.ref C) name=some none) (hv:mA name=some v) (hv':PySem.W.handedIn v=true) (h:Q v { s with toks:=s.toks+1 }):
  wpAny (model prog w) A (getAttr (.ref x) name expr) Q E s:=by
 obtain⟨od,J,hl⟩:=I.look
 exact PySem.W.get_value X J (PySem.W.plainGet_of hg).1 (PySem.W.findObj_own hh ha rfl (by rw[hl,hv])) hv' h
theorem ZP{pl:Sem Bool}{Q:Value×List Value→Shared→Prop}(X:K.In s.heap)(I:ObjM s.heap x dx C mA)(hg:PySem.W.plainGet K C name=true)
  (hf:PySem.W.findIn K (.ref C) name=some (some (.ref f))) (ht:PySem.W.isFn K (.ref f)=true) (hv:mA name=none) (h:Q (.ref f,[.ref x]) s):
  wpAny (model prog w) A (getMethod (.ref x) name pl) Q E s:=by
 obtain⟨od,J,hl⟩:=I.look
 exact PySem.W.method_fn X J (PySem.W.plainGet_of hg).1 (PySem.W.plainGet_of hg).2 hf (beq_iff_eq.mp ht) (by show(PySem.W.lookIn name od).map (·.isSome)=some false;rw[hl,hv];rfl) h
theorem Y5{ns:List Str}{Q:Unit→Shared→Prop}(X:K.In s.heap)(I:ObjM s.heap x dx C mA)
  (hs:PySem.W.findIn K (.ref C) "__setattr__"=some (some (.builtin "object.__setattr__"))) (hp:PySem.W.plainOver K C=true) (ht:PySem.W.takerIn K C name=some none) (hh:PySem.W.hasDictIn K C=true)
  (hw:PySem.Within mA ns) (hsz:ns.length≤sizeLine)
  (h:∀h',ObjM h' x dx C (fun y=>if y=name then some v else mA y)→Heap.SameBut dx s.heap h'→Q () { s with heap:=h',toks:=s.toks+2 }):
  wpAny (model prog w) A (setAttr (.ref x) name v) Q E s:=by
 obtain⟨od,J,hl⟩:=I.look
 refine PySem.W.set_plain X J hs (PySem.W.osa_open (s:={ s with toks:=s.toks+1 }) (r:=none) X J hp ht fun b=>?_)
 obtain⟨cd,hc,hd'⟩:=PySem.W.any_some hh
 have hx:s.heap.get? x=some ⟨.ref C,some dx,.plain,#[]⟩:=I.obj
 refine wpAny_bind (wpAny_pure (wpAny_bind (wpAny_bind (wpAny_loadPart hx (wpAny_bind (PySem.W.Looks.here (s:={ s with toks:=s.toks+1 }) (PySem.W.looks_clsIn X hc) ?_))))))
 rw[hd']
 refine wpAny_pure (a:=some dx) (wpAny_bind (wpAny_pure (wpAny_bind ?_)))
 refine wpAny_nsSet1 (s:={ s with toks:=s.toks+1 }) I.ns fun h' hn2 hs2=>?_
 obtain⟨oD,esD,epD,hoD,hdD,hcD⟩:=hn2.count (PySem.Within.cons name v hw)
 refine wpAny_bind (wpAny_lookBehind hoD (by rw[hdD];exact pastItsLine_dict (BS hcD (by rw[BM];omega))) ?_)
 exact wpAny_pure (h _ ⟨(hs2.2 _ (Ne.symm I.ne)).trans I.obj,hn2,I.ne⟩ hs2)
theorem ZG{R:Result→Shared→Prop}{vs:List Value}{kw:List (Str×Value)}(X:K.In s.heap)(hm:PySem.W.makesIn K C=true)
  (hi:PySem.W.findIn K (.ref C) "__init__"=some (some (.ref f))) (hf:PySem.W.typeIn K (.ref f)=some (.type "function"))
  (h:codeAny (model prog w) (A.under (.builtin "type.__call__" ⟨.ref C::vs,kw⟩)) (.call (.ref f) ⟨.ref (s.heap.objs.size+1)::vs,kw⟩) (PySem.W.InitBack (s.heap.objs.size+1) R)
   { s with heap:=(s.heap.push PySem.W.emptyDict).push (PySem.W.instObj C s.heap.objs.size) }):
  codeAny (model prog w) A (.call (.ref C) ⟨vs,kw⟩) R s:=by
 obtain⟨hh,g,d,t,os⟩:=s
 exact PySem.W.make_core (PySem.W.makes_of X hm) (PySem.W.looks_findIn X hi) (fun self=>PySem.W.bind_fn X self hf) (.inl rfl) h
end
def tQ(f:Str)(v:V):List (Str×V)→List (Str×V)
 | []=>[(f,v)]
 | (g,x)::r=>if g=f then(g,v)::r else(g,x)::tQ f v r
theorem qZ(f g:Str)(v:V):∀fs:List (Str×V),(tQ f v fs).lookup g=if g=f then some v else fs.lookup g
 | []=>by
  show List.lookup g [(f,v)]=_
  by_cases h:g=f
  ·have hb:(g==f)=true:=beq_iff_eq.mpr h
   simp only[List.lookup,hb,if_pos h]
  ·have hb:(g==f)=false:=beq_eq_false_iff_ne.mpr h
   simp only[List.lookup,hb,if_neg h]
 | (k,x)::r=>by
  have ih:=qZ f g v r
  rw[show tQ f v ((k,x)::r)=(if k=f then(k,v)::r else(k,x)::tQ f v r) from rfl]
  by_cases hk:k=f
  ·rw[if_pos hk]
   by_cases h:g=k
   ·have hb:(g==k)=true:=beq_iff_eq.mpr h
    simp only[List.lookup,hb,if_pos (h.trans hk)]
   ·have hb:(g==k)=false:=beq_eq_false_iff_ne.mpr h
    simp only[List.lookup,hb,if_neg (fun e:g=f=>h (e.trans hk.symm))]
  ·rw[if_neg hk]
   by_cases h:g=k
   ·have hb:(g==k)=true:=beq_iff_eq.mpr h
    simp only[List.lookup,hb,if_neg (fun e:g=f=>hk (h.symm.trans e))]
   ·have hb:(g==k)=false:=beq_eq_false_iff_ne.mpr h
    simp only[List.lookup,hb]
    exact ih
theorem qI(f:Str)(v:V):∀fs:List (Str×V),f∈(tQ f v fs).map (·.1)∧∀g,g∈fs.map (·.1)→g∈(tQ f v fs).map (·.1)
 | []=>⟨by simp[tQ],fun g h=>by simp at h⟩
 | (k,x)::r=>by
  obtain⟨i1,i2⟩:=qI f v r
  rw[show tQ f v ((k,x)::r)=(if k=f then(k,v)::r else(k,x)::tQ f v r) from rfl]
  by_cases hk:k=f
  ·rw[if_pos hk]
   subst hk
   exact⟨by simp,fun g h=>by simpa using h⟩
  ·rw[if_neg hk]
   refine⟨?_,fun g h=>?_⟩
   ·rw[Cg]
    exact BI _ i1
   ·rw[Cg]at h ⊢
    rcases BE.mp h with e|e
    ·exact BE.mpr (.inl e)
    ·exact BI _ (i2 g e)
theorem q8(f:Str)(v:V):∀fs:List (Str×V),(tQ f v fs).length≤fs.length+1
 | []=>by simp[tQ]
 | (k,x)::r=>by
  have ih:=q8 f v r
  rw[show tQ f v ((k,x)::r)=(if k=f then(k,v)::r else(k,x)::tQ f v r) from rfl]
  by_cases hk:k=f
  ·rw[if_pos hk,BM,BM];omega
  ·rw[if_neg hk,BM,BM];omega
def RelO.some_of{v:V}{o:Option Value}(r:RelO (some v) o):∃u,o=some u∧RelV v u:=by
 cases o with
 | none=>exact(show False from r).elim
 | some u=>exact⟨u,rfl,r⟩
def RelO.none_of{o:Option Value}(r:RelO none o):o=none:=by
 cases o with
 | none=>rfl
 | some u=>exact(show False from r).elim
def bN{v:V}{u:Value}(r:RelV v u):PySem.W.handedIn u=true:=by
 cases v with
 | non=>cases(show u=Value.none from r);rfl
 | bl b=>cases(show u=Value.bool b from r);rfl
 | int i=>obtain⟨t,e⟩:=(show ∃t,u=Value.int i t from r);cases e;rfl
 | str x=>obtain⟨t,e⟩:=(show ∃t,u=Value.str x t from r);cases e;rfl
 | byt b=>obtain⟨t,e⟩:=(show ∃t,u=Value.bytes b t from r);cases e;rfl
 | flt b=>obtain⟨t,e⟩:=(show ∃t,u=Value.float b t from r);cases e;rfl
 | ref a=>cases(show u=Value.ref a from r);rfl
 | ty n=>cases(show u=Value.type n from r);rfl
section
variable{P:Program}{w:World}{H:Hp}{h:Heap}{a C dx:Addr}{fs:List (Str×V)}
def om(hok:HOk P w H h)(e:H a=some (.ins C dx fs)):∃mA,ObjM h a dx C mA∧(∀f,RelO (fs.lookup f) (mA f))∧PySem.Within mA (fs.map (·.1))∧fs.length≤1000∧H dx=some (.own a):=by
 obtain⟨d,z,ne,ob,mA,n,r,q⟩:=(show ObjOk P w H h a (.ins C dx fs) from hok a _ e)
 exact⟨mA,⟨ob,n,ne⟩,r,q,z,d⟩
end
structure Cls(K:Bq)(C:Addr):Prop where
 pg:PySem.W.plainGet K C Str.empty=true
 hd:PySem.W.hasDictIn K C=true
 po:PySem.W.plainOver K C=true
 sa:PySem.W.findIn K (.ref C) "__setattr__"=some (some (.builtin "object.__setattr__"))
def Cls.get{K:Bq}{C:Addr}(c:Cls K C)(f:Str):PySem.W.plainGet K C f=true:=c.pg
def NoAttr(K:Bq)(C:Addr)(f:Str):Prop:=PySem.W.findIn K (.ref C) f=some none
def NoAttr.taker{K:Bq}{C:Addr}{f:Str}(n:NoAttr K C f):PySem.W.takerIn K C f=some none:=by
 unfold PySem.W.takerIn
 rw[show PySem.W.findIn K (.ref C) f=some none from n]
 rfl
structure Wi(K:Bq)(C:Addr)(m:Str)(f:Addr):Prop where
 at_:PySem.W.findIn K (.ref C) m=some (some (.ref f))
 fn:PySem.W.isFn K (.ref f)=true
 kp:PySem.W.keepIn K (.ref f)=true
section
variable{X:Cx}{f':am}{σ:St}{H:Hp}{s:Shared}{a C dx:Addr}{fs:List (Str×V)}{f:Str}{v:V}{A:Around}{E:cp}
theorem eP{b:Bool}{Q:cp}(I:Inv X f' σ H s)(e:H a=some (.ins C dx fs))(c:Cls X.K C)(n:NoAttr X.K C f)(l:fs.lookup f=some v)
  (h:∀u s',Inv X f' σ H s'→RelV v u→Q u s'):wpAny (model X.prog X.w) A (getAttr (.ref a) f b) Q E s:=by
 obtain⟨mA,O,r,_,_,_⟩:=om I.hok e
 obtain⟨u,hu,ru⟩:=RelO.some_of (v:=v) (o:=mA f) (by rw[←l];exact r f)
 exact XM I.kIn O (c.get f) c.hd n hu (bN ru) (h u _ (I.tok _) ru)
theorem nu{m:Str}{g:Addr}{pl:Sem Bool}{Q:Value×List Value→Shared→Prop}(I:Inv X f' σ H s)(e:H a=some (.ins C dx fs))(c:Cls X.K C)(k:Wi X.K C m g)(l:fs.lookup m=none)
  (h:Q (.ref g,[.ref a]) s):wpAny (model X.prog X.w) A (getMethod (.ref a) m pl) Q E s:=by
 obtain⟨mA,O,r,_,_,_⟩:=om I.hok e
 have hn:mA m=none:=RelO.none_of (by rw[←l];exact r m)
 exact ZP I.kIn O (c.get m) k.at_ k.fn hn h
theorem g9{y:V}{u:Value}{Q:Unit→Shared→Prop}(I:Inv X f' σ H s)(e:H a=some (.ins C dx fs))(c:Cls X.K C)(n:NoAttr X.K C f)(hl:fs.length<1000)(ry:RelV y u)
  (h:∀s',Inv X f' σ (upd H a (.ins C dx (tQ f y fs))) s'→Q () s'):wpAny (model X.prog X.w) A (setAttr (.ref a) f u) Q E s:=by
 obtain⟨mA,O,r,wi,_,ho⟩:=om I.hok e
 have hz:(fs.map (·.1)).length≤sizeLine:=by rw[Bs,sizeLine_eq];omega
 refine Y5 I.kIn O c.sa c.po n.taker c.hd wi hz fun h' O' sb=>h _ ?_
 have hd:∃o,h'.get? dx=some o:=let⟨o,_,_,e',_⟩:=O'.ns; ⟨o,e'⟩
 refine I.write (x:=a) (e:=dx) (by rw[e];exact True.intro) (.inr ho) (fun b q hb z=>(sb.2 b hb).trans z) hd ?_
 refine⟨by rw[zC O.ne];exact ho,?_,O.ne,O'.obj,_,O'.ns,fun g=>?_,fun g hg=>?_⟩
 ·have:=q8 f y fs;omega
 ·show RelO ((tQ f y fs).lookup g) (if g=f then some u else mA g)
  rw[qZ]
  by_cases q:g=f
  ·rw[if_pos q,if_pos q];exact ry
  ·rw[if_neg q,if_neg q];exact r g
 ·by_cases q:g=f
  ·rw[q];exact(qI f y fs).1
  ·refine(qI f y fs).2 g (wi g fun z=>hg ?_)
   show(if g=f then some u else mA g)=none
   rw[if_neg q];exact z
theorem Inv.made(I:Inv X f' σ H s):Inv X f' σ (upd (upd H s.heap.objs.size (.own (s.heap.objs.size+1))) (s.heap.objs.size+1) (.ins C s.heap.objs.size []))
  { s with heap:=(s.heap.push PySem.W.emptyDict).push (PySem.W.instObj C s.heap.objs.size) }:=by
 have e1:(s.heap.push PySem.W.emptyDict).get? s.heap.objs.size=some PySem.W.emptyDict:=Heap.get?_push_size s.heap rfl
 have e2:((s.heap.push PySem.W.emptyDict).push (PySem.W.instObj C s.heap.objs.size)).get? (s.heap.objs.size+1)=some (PySem.W.instObj C s.heap.objs.size):=by
  have:=Heap.get?_push_size (s.heap.push PySem.W.emptyDict) (o:=PySem.W.instObj C s.heap.objs.size) rfl
  rwa [Heap.size_push]at this
 have e3:(s.heap.push PySem.W.emptyDict).Ns s.heap.objs.size (fun _=>none):=⟨PySem.W.emptyDict,#[],_,e1,rfl,(fun e he=>absurd he (by simp)),fun _=>rfl⟩
 have I1:=I.laid (a:=s.heap.objs.size) (o:=.own (s.heap.objs.size+1)) (h':=s.heap.push PySem.W.emptyDict) (t':=s.toks) (fun b u q=>Heap.get?_push_of_some _ q) (By _) ⟨_,e1⟩
 refine I1.laid (a:=s.heap.objs.size+1) (o:=.ins C s.heap.objs.size []) (t':=s.toks) (fun b u q=>Heap.get?_push_of_some _ q) (Nat.le_of_eq (Heap.size_push _ _)) ?_
 have ne:s.heap.objs.size≠s.heap.objs.size+1:=BY (Nat.lt_succ_self _)
 refine⟨by rw[zC ne,zB],B4 _,ne,e2,fun _=>none,(Heap.Ns1.of_empty e3).at fun o q=>Heap.get?_push_of_some _ q,fun _=>True.intro,fun y hy=>absurd rfl hy⟩
theorem Wf{prog:Program}{w:World}{env:Env}{e:Expr}{f:Str}{pos:Pos}{s:Shared}{Q:cp}(hb:attributeBase e f env (eval e env)=eval e env)
  (h:wpAny (model prog w) A (eval e env) (fun o s₁=>wpAny (model prog w) A (getAttr o f true) Q E s₁) E s):wpAny (model prog w) A (eval (.Attribute e f pos) env) Q E s:=
 Attribute_any_ h (by rw[arm_eval_Attribute,hb])
end
def LJ(K:Bq)(ta:TE)(f:Str):TE:=fun σ H Q=>ta σ H fun x H1=>∃a C dx fs v,x=.ref a∧H1 a=some (.ins C dx fs)∧Cls K C∧NoAttr K C f∧fs.lookup f=some v∧Q v H1
def TV(K:Bq)(ta tv:TE)(f:Str):TS:=fun D σ H=>tv σ H fun y H1=>ta σ H1 fun x H2=>∃a C dx fs,x=.ref a∧H2 a=some (.ins C dx fs)∧Cls K C∧NoAttr K C f∧fs.length<1000∧
 D.nx σ (upd H2 a (.ins C dx (tQ f y fs)))
section
variable{X:Cx}{o e value:Expr}{f:Str}{pos pos':Pos}{ta tv:TE}
def Ul(he:PE X e ta)(hb:attributeBase e f X.env (eval e X.env)=eval e X.env):PE X (.Attribute e f pos) (LJ X.K ta f):=by
 intro f' s σ H Q I h
 refine Wf hb (thn (he f' s σ H _ I h) fun u s1 zz=>?_)
 obtain⟨x,H1,I1,rx,a,C,dx,fs,v,ex,ea,c,n,l,q⟩:=zz
 subst ex
 obtain rfl:u=Value.ref a:=rx
 exact eP I1 ea c n l fun u' s2 I2 ru=>⟨v,H1,I2,ru,q⟩
def qu(ha:PE X o ta)(hv:PE X value tv)(hs:swapsWith value (some (.Attribute o f pos')) pos.line X.env=pure false):PS X (.Assign [.Attribute o f pos'] value pos) (TV X.K ta tv f):=by
 intro f' s σ H D I h
 refine plainObj_wpAny_Assign_Attribute (thn (hv f' s σ H _ I h) fun u s1 ⟨y,H1,I1,ry,q⟩=>thn (ha f' s1 σ H1 _ I1 q) fun ov s2 zz=>?_) hs
 obtain⟨x,H2,I2,rx,a,C,dx,fs,ex,ea,c,n,l,q2⟩:=zz
 subst ex
 obtain rfl:ov=Value.ref a:=rx
 exact g9 I2 ea c n l ry fun s3 I3=>⟨σ,_,I3,q2⟩
end
section
variable{X:Cx}{f':am}{σ:St}{H:Hp}{s:Shared}{A:Around}{E:cp}{Q:cp}{c:Value}{b:Bool}
inductive sT(K:Bq)(H:Hp):V→Value→Prop where
 | non:sT K H .non (.type "NoneType")
 | bl (x:Bool):sT K H (.bl x) (.type "bool")
 | int (i:Int):sT K H (.int i) (.type "int")
 | str (x:Str):sT K H (.str x) (.type "str")
 | flt (x:UInt64):sT K H (.flt x) (.type "float")
 | lst {a:Addr} {xs:List V} (e:H a=some (.lst xs)):sT K H (.ref a) (.type "list")
 | frz {a:Addr} {o:Obj} {xs:List V} (e:H a=some (.frz o (.lst xs))):sT K H (.ref a) (.type "list")
 | tup {a:Addr} {xs:List V} (e:H a=some (.tup xs)):sT K H (.ref a) (.type "tuple")
 | dK {a:Addr} {kvs:List (Key×V)} (e:H a=some (.dK kvs)):sT K H (.ref a) (.type "dict")
 | dT {a:Addr} {kvs:List (List Key×V)} (e:H a=some (.dT kvs)):sT K H (.ref a) (.type "dict")
 | ins {a C dx:Addr} {fs:List (Str×V)} (e:H a=some (.ins C dx fs)) (cl:Cls K C) (ha:PySem.W.findIn K (.ref C) "__class__"=some (some (.builtin "object.__class__")))
   (hn:PySem.W.specialIn K (.builtin "object.__class__") "__get__"=some (some (.builtin "getset_descriptor.__get__"))) (htk:PySem.W.takesIn K (.builtin "object.__class__")=some true)
   (hm:PySem.W.mroIn K C (.type "object")=some true):sT K H (.ref a) (.ref C)
def mW{x:V}{u t:Value}(I:Inv X f' σ H s)(rx:RelV x u)(ty:sT X.K H x t)(e:PySem.W.kitOne X.K t c=some b)(h:∀tk,Q (.bool b) { s with toks:=tk }):
  wpAny (model X.prog X.w) A (call (.builtin "isinstance") [u,c]) Q E s:=by
 cases ty with
 | non=>cases(show u=Value.none from rx);exact PySem.W.kia_one PySem.W.kitx_none I.kIn True.intro e (fun z=>nomatch z) h
 | bl y=>cases(show u=Value.bool y from rx);exact PySem.W.kia_one PySem.W.kitx_bool I.kIn True.intro e (fun z=>nomatch z) h
 | int i=>obtain⟨t,q⟩:=(show ∃t,u=Value.int i t from rx);cases q;exact PySem.W.kia_one PySem.W.kitx_int I.kIn True.intro e (fun z=>nomatch z) h
 | str y=>obtain⟨t,q⟩:=(show ∃t,u=Value.str y t from rx);cases q;exact PySem.W.kia_one PySem.W.kitx_str I.kIn True.intro e (fun z=>nomatch z) h
 | flt y=>obtain⟨t,q⟩:=(show ∃t,u=Value.float y t from rx);cases q;exact PySem.W.kia_one PySem.W.kitx_float I.kIn True.intro e (fun z=>nomatch z) h
 | @lst a xs ea=>
  cases(show u=Value.ref a from rx)
  obtain⟨_,_,n,_,h1⟩:=(show ObjOk X.prog X.w H s.heap a (.lst xs) from I.hok a _ ea)
  exact PySem.W.kia_one PySem.W.kitx_list I.kIn ⟨_,h1,rfl⟩ e (fun z=>nomatch z) h
 | @frz a ob xs ea=>
  cases(show u=Value.ref a from rx)
  obtain⟨_,_,_,n,_,h1⟩:=(show ObjOk X.prog X.w H s.heap a (.frz ob (.lst xs)) from I.hok a _ ea)
  exact PySem.W.kia_one PySem.W.kitx_list I.kIn ⟨_,h1,rfl⟩ e (fun z=>nomatch z) h
 | @tup a xs ea=>
  cases(show u=Value.ref a from rx)
  obtain⟨_,_,_,p⟩:=(show ObjOk X.prog X.w H s.heap a (.tup xs) from I.hok a _ ea)
  obtain⟨o,h1,h2,_⟩:=p
  exact PySem.W.kia_one PySem.W.kitx_tuple I.kIn ⟨o,h1,h2⟩ e (fun z=>nomatch z) h
 | @dK a kvs ea=>
  cases(show u=Value.ref a from rx)
  obtain⟨_,_,vs,_,p⟩:=(show ObjOk X.prog X.w H s.heap a (.dK kvs) from I.hok a _ ea)
  obtain⟨o,es,ep,h1,h2,_⟩:=p
  exact PySem.W.kia_one PySem.W.kitx_dict I.kIn ⟨o,h1,h2.1⟩ e (fun z=>nomatch z) h
 | @dT a kvs ea=>
  cases(show u=Value.ref a from rx)
  obtain⟨_,_,xs,_,o,es,ep,h1,h2,_⟩:=(show ObjOk X.prog X.w H s.heap a (.dT kvs) from I.hok a _ ea)
  exact PySem.W.kia_one PySem.W.kitx_dict I.kIn ⟨o,h1,h2.1⟩ e (fun z=>nomatch z) h
 | @ins a C dx fs ea cl ha hn htk hm=>
  cases(show u=Value.ref a from rx)
  obtain⟨mA,O,_⟩:=om I.hok ea
  obtain⟨od,J,_⟩:=O.look
  exact PySem.W.kia_one (PySem.W.kitx_own (cl.get _) cl.hd ha hn htk hm) I.kIn J e (fun z=>nomatch z) h
end
structure Room(k:Nat)(A:Around):Prop where
 hd:A.handled=none
 dp:A.depth+3*k+5<recursionLimit
 un:A.units+16*k+200<cLine
def Room.mono{j k:Nat}{A:Around}(r:Room k A)(h:j≤k):Room j A:=⟨r.hd,by have:=r.dp;omega,by have:=r.un;omega⟩
def Room.deeper{k:Nat}{A:Around}(r:Room (k+1) A)(env:Env):Room k (A.deeper env):=
 ⟨r.hd,by have:=r.dp;show A.depth+1+3*k+5<_;omega,by have:=r.un;show A.units+3+16*k+200<_;omega⟩
def eH{A:Around}{C:Addr}{us:List Value}{kw:List (Str×Value)}:(A.under (.builtin "type.__call__" ⟨.ref C::us,kw⟩)).depth=A.depth+1:=by
 first|rfl|simp[Around.under,Code.weight,Code.isCreation,Code.isGuard,Code.isCaller,Code.frames,Code.isFrame,guardIds]
def eG{A:Around}{C:Addr}{us:List Value}{kw:List (Str×Value)}:(A.under (.builtin "type.__call__" ⟨.ref C::us,kw⟩)).units=A.units+1:=by
 first|rfl|simp[Around.under,Code.cUnits,Code.frames,Code.isFrame]
def Room.make{k:Nat}{A:Around}(r:Room (k+1) A)(C:Addr)(us:List Value)(kw:List (Str×Value)):Room k (A.under (.builtin "type.__call__" ⟨.ref C::us,kw⟩)):=
 ⟨r.hd,by have:=r.dp;rw[eH];omega,by have:=r.un;rw[eG];omega⟩
def Room.depth{k:Nat}{A:Around}(r:Room k A):A.depth<recursionLimit:=by have:=r.dp;omega
def Room.units{k:Nat}{A:Around}(r:Room k A):A.units+64<cLine:=by have:=r.un;omega
def TC:TA:=fun _ H Q=>Q [] H
def TL(ta:TE)(tr:TA):TA:=fun σ H Q=>ta σ H fun x H1=>tr σ H1 fun xs H2=>Q (x::xs) H2
section
variable{X:Cx}{e:Expr}{es:List Expr}{te:TE}{t:TA}{pos:Pos}
def yh:PA X [] TC:=fun _ _ _ _ H Q I h=>Calls.spliced_nil ⟨[],H,I,.nil,h⟩
def zL(ha:PE X e te)(hr:PA X es t)(hs:J' X.env e es:=by rfl):PA X (e::es) (TL te t):=by
 intro pos f' s σ H Q I h
 rw[hs]
 show wpAny _ _ (spliced ((false,eval e X.env)::backTo pos (starEach es X.env))) _ _ s
 refine Calls.spliced_cons (thn (ha f' s σ H _ I h) fun u s1 zz=>?_)
 obtain⟨x,H1,I1,r1,q1⟩:=zz
 exact thn (hr pos f' s1 σ H1 _ I1 q1) fun us s2 ⟨xs,H2,I2,r2,q2⟩=>⟨x::xs,H2,I2,.cons r1 r2,q2⟩
def LB(t:TA):TE:=fun σ H Q=>t σ H fun xs H1=>xs.length≤sizeLine∧∀p,H1 p=none→Q (.ref p) (upd H1 p (.tup xs))
def LG(t:TA):TE:=fun σ H Q=>t σ H fun xs H1=>xs.length≤sizeLine∧∀p,H1 p=none→Q (.ref p) (upd H1 p (.lst xs))
def fJ{x1}(h:PA X es t):PE X (.Tuple es x1 pos) (LB t):=by
 intro f' s σ H Q I hq
 refine wpAny_Tuple_spliced (thn (h pos f' s σ H _ I hq) fun us s1 ⟨xs,H1,I1,r,z,q⟩=>⟨by rw[←r.length];exact z,?_⟩)
 have hf:H1 s1.heap.objs.size=none:=I1.hok.fresh (By _)
 refine⟨.ref s1.heap.objs.size,upd H1 s1.heap.objs.size (.tup xs),I1.laid (t':=s1.toks) (fun b u e=>Heap.get?_push_of_some _ e) (By _) ?_,rfl,q _ hf⟩
 exact⟨z,us,r,⟨_,Heap.get?_push_size _ rfl,rfl,_,rfl⟩⟩
def Zh(h:PA X es t):PE X (.List es pos) (LG t):=by
 intro f' s σ H Q I hq
 refine wpAny_List_spliced (thn (h pos f' s σ H _ I hq) fun us s1 ⟨xs,H1,I1,r,z,q⟩=>⟨by rw[←r.length];exact z,?_⟩)
 have hf:H1 s1.heap.objs.size=none:=I1.hok.fresh (By _)
 refine⟨.ref s1.heap.objs.size,upd H1 s1.heap.objs.size (.lst xs),I1.laid (t':=s1.toks) (fun b u e=>Heap.get?_push_of_some _ e) (By _) ?_,rfl,q _ hf⟩
 exact⟨z,us,0,r,Heap.get?_push_size _ rfl⟩
end
abbrev Sp:=List V→Hp→VK→XK→Prop
abbrev CXT:=List Env→Hp→Shared→XK→Value→Shared→Prop
structure Env0(P:Program)(w:World)(K:Bq)(mg:be)(base:Heap)(A:Around)(outer:List Env)(s:Shared)(H:Hp):Prop where
 frames:A.frames=some outer
 mod:Mod K mg base
 bs:∀b o,base.get? b=some o→s.heap.get? b=some o∧H b=none
 bsz:base.objs.size≤s.heap.objs.size
 funs:s.heap.FunFrames base outer
 frf:∀b∈frs outer,H b=none
 hok:HOk P w H s.heap
 bare:AllBare s.gens
def CE(outer:List Env)(P:Program)(w:World)(H:Hp)(s:Shared)(Q:VK)(u:Value)(s':Shared):Prop:=
 ∃v H',s'.os=s.os∧AllBare s'.gens∧Un (frs outer) [] H H' s.heap s'.heap∧HOk P w H' s'.heap∧RelV v u∧Q v H'
def CR(CX:CXT)(outer:List Env)(P:Program)(w:World)(H:Hp)(s:Shared)(Q:VK)(E:XK)(r:Result)(s':Shared):Prop:=
 match r with
 | .ok (.ret u)=>CE outer P w H s Q u s'
 | .ok _=>False
 | .error e=>CX outer H s E e s'
structure FnOk(P:Program)(w:World)(K:Bq)(mg:be)(base:Heap)(CX:CXT)(k:Nat)(f:Addr)(fd:FuncData)(ps:List Str)(sp:Sp):Prop where
 len:∀vs H Q E,sp vs H Q E→vs.length=ps.length
 run:∀(A:Around)(outer:List Env)(s:Shared)(H:Hp)(args:Args)(us:List Value)(vs:List V)(Q:VK)(E:XK),Room k A→Env0 P w K mg base A outer s H→BindsTo s fd args (ps.zip us)→Vals vs us→sp vs H Q E→
  codeAny (model P w) A (.call (.ref f) args) (CR CX outer P w H s Q E) s
theorem FnOk.mono{P:Program}{w:World}{K:Bq}{mg:be}{base:Heap}{CX:CXT}{j k:Nat}{f:Addr}{fd:FuncData}{ps:List Str}{sp:Sp}(F:FnOk P w K mg base CX j f fd ps sp)(h:j≤k):
  FnOk P w K mg base CX k f fd ps sp:=⟨F.len,fun A outer s H args us vs Q E hr=>F.run A outer s H args us vs Q E (hr.mono h)⟩
theorem FnOk.imp{P:Program}{w:World}{K:Bq}{mg:be}{base:Heap}{CX:CXT}{k:Nat}{f:Addr}{fd:FuncData}{ps:List Str}{sp sp':Sp}(F:FnOk P w K mg base CX k f fd ps sp)
  (h:∀vs H Q E,sp' vs H Q E→sp vs H Q E):FnOk P w K mg base CX k f fd ps sp':=
 ⟨fun vs H Q E q=>F.len vs H Q E (h _ _ _ _ q),fun A outer s H args us vs Q E hr he hb hv hs=>F.run A outer s H args us vs Q E hr he hb hv (h _ _ _ _ hs)⟩
theorem Env0.make{P:Program}{w:World}{K:Bq}{mg:be}{base:Heap}{A:Around}{outer:List Env}{s:Shared}{H:Hp}(e:Env0 P w K mg base A outer s H)(C:Addr)(us:List Value)(kw:List (Str×Value)):
  Env0 P w K mg base (A.under (.builtin "type.__call__" ⟨.ref C::us,kw⟩)) outer s H:=⟨by first|exact e.frames|(simpa[Around.under,Code.envs,Code.isFrame,pushEnvs] using e.frames),e.mod,e.bs,e.bsz,e.funs,e.frf,e.hok,e.bare⟩
section
variable{X:Cx}{f':am}{σ:St}{H:Hp}{s s':Shared}
def Inv.env0(I:Inv X f' σ H s):Env0 X.prog X.w X.K X.mg X.base X.A X.stack s H:=
 ⟨I.ok.frames,I.ok.mod,I.bs,BS I.ok.bsz I.sz,I.stack,I.stkFree,I.hok,I.bare⟩
def Inv.after{Q:VK}{u:Value}(I:Inv X f' σ H s)(h:CE X.stack X.prog X.w H s Q u s'):EP X f' σ Q u s':=by
 obtain⟨v,H',os,bare,un,hok,r,q⟩:=h
 obtain⟨hh,g,d,t,os'⟩:=s'
 obtain rfl:os'=s.os:=os
 exact⟨v,H',I.call (h':=hh) (g':=g) (d':=d) (t':=t) (ch:=[]) un hok bare (fun b z=>absurd z (by simp)),r,q⟩
end
def TM(sp:Sp)(dvs:List V)(E:XK)(t:TA):TE:=fun σ H Q=>t σ H fun vs H1=>sp (vs++dvs) H1 Q E
def TF(C:Addr)(sp:Sp)(dvs:List V)(E:XK)(t:TA):TE:=fun σ H Q=>t σ H fun vs H1=>∀x dx,H1 x=none→H1 dx=none→dx≠x→
 sp (.ref x::(vs++dvs)) (upd (upd H1 dx (.own x)) x (.ins C dx [])) (fun v H2=>v=.non∧Q (.ref x) H2) E
def Binds(K:Bq)(fd:FuncData)(ps:List Str)(ds:List Value):Prop:=
 ∀(s:Shared)(us:List Value),K.In s.heap→(us++ds).length=ps.length→BindsTo s fd ⟨us,[]⟩ (ps.zip (us++ds))
def Binds.all{K:Bq}{fd:FuncData}{ps:List Str}(h:∀us:List Value,us.length=ps.length→bindArgs fd ⟨us,[]⟩=pure (ps.zip us)):Binds K fd ps []:=fun s us _ hl=>by
 rw[Cm]at hl ⊢
 exact .of_eq (h us hl)
def nR(CX:CXT)(X:Cx)(E:XK):Prop:=∀(f':am)(σ:St)(H:Hp)(s:Shared)(e:Value)(s':Shared),Inv X f' σ H s→CX X.stack H s E e s'→X.xe e s'
section
variable{X:Cx}{CX:CXT}{k:Nat}{f C:Addr}{fd:FuncData}{ps:List Str}{sp:Sp}{dvs:List V}{ds:List Value}{E:XK}{x:Str}{p pos:Pos}{e:Expr}{es:List Expr}{t:TA}
theorem fE{f':am}{σ:St}{H:Hp}{s:Shared}{Q:VK}{us:List Value}{vs:List V}(F:FnOk X.prog X.w X.K X.mg X.base CX k f fd ps sp)(hr:Room k X.A)(hb:Binds X.K fd ps ds)(hd:Vals dvs ds)(hx:nR CX X E)
  (I:Inv X f' σ H s) (r:Vals vs us) (h:sp (vs++dvs) H Q E):wpAny (model X.prog X.w) X.A (call (.ref f) us) (EP X f' σ Q) X.xe s:=by
 have r2:Vals (vs++dvs) (us++ds):=r.append hd
 have hl:(us++ds).length=ps.length:=by rw[←r2.length];exact F.len _ _ _ _ h
 refine wpAny_call (codeAny_mono (F.run X.A X.stack s H ⟨us,[]⟩ (us++ds) (vs++dvs) Q E hr I.env0 (hb s us I.kIn hl) r2 h) fun r s' hq=>?_)
 cases r with
 | error e=>exact hx f' σ H s e s' I hq
 | ok fl=>
  cases fl with
  | ret u=>exact I.after hq
  | next=>exact False.elim hq
  | brk=>exact False.elim hq
  | cont=>exact False.elim hq
theorem oi(F:FnOk X.prog X.w X.K X.mg X.base CX k f fd ps sp)(hr:Room k X.A)(hg:Gl X x)(hm:X.mg x=some (.ref f))(hk:PySem.W.keepIn X.K (.ref f)=true)(hb:Binds X.K fd ps ds)(hd:Vals dvs ds)(hx:nR CX X E)
  (ha:PA X (e::es) t) (hdb:ug x:=by decide) (he:J' X.env e es:=by rfl) (hpl:K' X.env pos es:=by rfl):
  PE X (.Call (.Name x p) (e::es) [] pos) (TM sp dvs E t):=by
 intro f' s σ H Q I h
 refine wpAny_Call_Name_kw (kN I hg hm ?_ hdb)
 refine PySem.W.callWith_K (h₀:=X.base) I.ok.mod.kin hk (thn (ha pos f' s σ H _ I h) fun us s1 ⟨vs,H1,I1,r,q⟩=>⟨I1.kIn,?_⟩) he hpl
 exact fE F hr hb hd hx I1 r q
structure Mk(K:Bq)(C f:Addr):Prop where
 makes:PySem.W.makesIn K C=true
 init:PySem.W.findIn K (.ref C) "__init__"=some (some (.ref f))
 fn:PySem.W.isFn K (.ref f)=true
 kp:PySem.W.keepIn K (.ref C)=true
theorem aO{f':am}{σ:St}{H:Hp}{s:Shared}{Q:VK}{us:List Value}{vs:List V}(M:Mk X.K C f)(F:FnOk X.prog X.w X.K X.mg X.base CX k f fd ps sp)(hr:Room (k+1) X.A)(hb:Binds X.K fd ps ds)(hd:Vals dvs ds)
  (hx:nR CX X E) (I:Inv X f' σ H s) (r:Vals vs us)
  (h:∀x dx,H x=none→H dx=none→dx≠x→sp (.ref x::(vs++dvs)) (upd (upd H dx (.own x)) x (.ins C dx [])) (fun v H2=>v=.non∧Q (.ref x) H2) E):
  wpAny (model X.prog X.w) X.A (call (.ref C) us) (EP X f' σ Q) X.xe s:=by
 have hq:=h (s.heap.objs.size+1) s.heap.objs.size (I.hok.fresh (Nat.le_succ _)) (I.hok.fresh (By _)) (BY (Nat.lt_succ_self _))
 have I2:=Inv.made (C:=C) I
 have r2:Vals (V.ref (s.heap.objs.size+1)::(vs++dvs)) (Value.ref (s.heap.objs.size+1)::(us++ds)):=.cons rfl (r.append hd)
 have hl:(Value.ref (s.heap.objs.size+1)::us++ds).length=ps.length:=by
  have e:=r2.length
  rw[F.len _ _ _ _ hq]at e
  exact e.symm
 refine wpAny_call (ZG (f:=f) I.kIn M.makes M.init (beq_iff_eq.mp M.fn) (codeAny_mono (F.run _ X.stack _ _ ⟨Value.ref (s.heap.objs.size+1)::us,[]⟩ (Value.ref (s.heap.objs.size+1)::(us++ds)) _ _ E (hr.make C us [])
  (I2.env0.make C us []) (hb _ (Value.ref (s.heap.objs.size+1)::us) I2.kIn hl) r2 hq) fun r s' hq'=>?_))
 cases r with
 | error e=>exact hx f' σ _ _ e s' I2 hq'
 | ok fl=>
  cases fl with
  | ret u=>
   obtain⟨v,H',I3,rv,ev,q3⟩:=I2.after hq'
   subst ev
   exact⟨rv,⟨V.ref (s.heap.objs.size+1),H',I3,rfl,q3⟩⟩
  | next=>exact False.elim hq'
  | brk=>exact False.elim hq'
  | cont=>exact False.elim hq'
theorem Xl(M:Mk X.K C f)(F:FnOk X.prog X.w X.K X.mg X.base CX k f fd ps sp)(hr:Room (k+1) X.A)(hg:Gl X x)(hm:X.mg x=some (.ref C))(hb:Binds X.K fd ps ds)(hd:Vals dvs ds)(hx:nR CX X E)
  (ha:PA X (e::es) t) (hdb:ug x:=by decide) (he:J' X.env e es:=by rfl) (hpl:K' X.env pos es:=by rfl):
  PE X (.Call (.Name x p) (e::es) [] pos) (TF C sp dvs E t):=by
 intro f' s σ H Q I h
 refine wpAny_Call_Name_kw (kN I hg hm ?_ hdb)
 refine PySem.W.callWith_K (h₀:=X.base) I.ok.mod.kin M.kp (thn (ha pos f' s σ H _ I h) fun us s1 ⟨vs,H1,I1,r,q⟩=>⟨I1.kIn,?_⟩) he hpl
 exact aO M F hr hb hd hx I1 r q
end
structure zk(N P:List Str)(sc:Scope):Prop where
 kind:sc.kind=.function
 co:sc.isCoroutine=false
 gen:sc.isGenerator=false
 nd:N.Nodup
 pre:N.take P.length=P
 par:∀x∈P,sc.names.lookup x=some .local∨sc.names.lookup x=some .cell
 nofree:∀y∈sc.names,y.2≠.free
theorem lC{kindOf:Str→Option NameKind}{x:Str}:∀{binds:List (Str×Value)}{m:be},(∀v,(x,v)∉binds)→bindL kindOf binds m x=m x
 | [],_,_=>rfl
 | (n,v)::r,m,h=>by
  unfold bindL
  rw[lC fun w hw=>h w (BI _ hw)]
  split
  ·have:x≠n:=by rintro rfl;exact h v BJ
   simp[this]
  ·rfl
theorem lE{kindOf:Str→Option NameKind}{x:Str}:∀{binds:List (Str×Value)}{m:be},(∀v,(x,v)∉binds)→bindC kindOf binds m x=m x
 | [],_,_=>rfl
 | (n,v)::r,m,h=>by
  unfold bindC
  rw[lE fun w hw=>h w (BI _ hw)]
  split
  ·rfl
  ·have:x≠n:=by rintro rfl;exact h v BJ
   simp[this]
theorem lD{kindOf:Str→Option NameKind}{x:Str}{v:Value}:∀{P:List Str}{vs:List Value}{i:Nat}{m:be},P.Nodup→P[i]? = some x→vs[i]? = some v→kindOf x=some .local→
  bindL kindOf (P.zip vs) m x=some v
 | [],_,_,_,_,h,_,_=>by simp at h
 | _::_,[],_,_,_,_,h,_=>by simp at h
 | p::P,w::vs,0,m,nd,h1,h2,hk=>by
  simp at h1 h2;subst h1;subst h2
  show bindL kindOf ((p,w)::P.zip vs) m p=_
  unfold bindL
  rw[lC fun v hv=>(List.nodup_cons.mp nd).1 (List.of_mem_zip hv).1,if_pos hk]
  simp
 | p::P,w::vs,i+1,m,nd,h1,h2,hk=>by
  show bindL kindOf ((p,w)::P.zip vs) m x=_
  unfold bindL
  exact lD (i:=i) (List.nodup_cons.mp nd).2 (by simpa using h1) (by simpa using h2) hk
theorem lF{kindOf:Str→Option NameKind}{x:Str}{v:Value}:∀{P:List Str}{vs:List Value}{i:Nat}{m:be},P.Nodup→P[i]? = some x→vs[i]? = some v→kindOf x≠some .local→
  bindC kindOf (P.zip vs) m x=some v
 | [],_,_,_,_,h,_,_=>by simp at h
 | _::_,[],_,_,_,_,h,_=>by simp at h
 | p::P,w::vs,0,m,nd,h1,h2,hk=>by
  simp at h1 h2;subst h1;subst h2
  show bindC kindOf ((p,w)::P.zip vs) m p=_
  unfold bindC
  rw[lE fun v hv=>(List.nodup_cons.mp nd).1 (List.of_mem_zip hv).1,if_neg hk]
  simp
 | p::P,w::vs,i+1,m,nd,h1,h2,hk=>by
  show bindC kindOf ((p,w)::P.zip vs) m x=_
  unfold bindC
  exact lF (i:=i) (List.nodup_cons.mp nd).2 (by simpa using h1) (by simpa using h2) hk
def start(N:List Str)(vs:List V):St:=vs.map some++List.replicate (N.length-vs.length) none
def ub(CX:CXT)(P:Program)(w:World)(K:Bq)(mg:be)(base:Heap)(N:List Str)(qual:Str)(scope:Scope)(f:Addr)(cd:Value)(A:Around)(outer:List Env)(s:Shared)(H:Hp)(E:XK):Cx where
 prog:=P
 w:=w
 K:=K
 mg:=mg
 base:=base
 A:=A.deeper (envOfC qual scope s.heap.objs.size f cd)
 N:=N
 s₀:=s
 H₀:=H
 env:=envOfC qual scope s.heap.objs.size f cd
 outer:=outer
 stack:=envOfC qual scope s.heap.objs.size f cd::outer
 ex:=[]
 calm:=true
 fn:=fun _=>true
 pn:=[]
 xe:=fun e s'=>wpAny (model P w) (A.deeper (envOfC qual scope s.heap.objs.size f cd)) (leaving (envOfC qual scope s.heap.objs.size f cd) e) (fun _ s''=>CX outer H s E e s'') (fun e' s''=>CX outer H s E e' s'') s'
def nI{sc:Scope}{n:Nat}{x:Str}(h:sc.names.lookup x=some .cell):∃c,(cellsFrom n sc.names []).lookup x=some c:=by
 have q:=PySem.W.cellsFrom_some sc.names n [] (.inl h)
 exact Option.isSome_iff_exists.mp q
theorem bI{CX:CXT}{P:Program}{w:World}{K:Bq}{mg:be}{base:Heap}{N ps:List Str}{qual:Str}{scope:Scope}{f:Addr}{cd:Value}{A:Around}{outer:List Env}{s s1:Shared}{H:Hp}{E:XK}{us:List Value}{vs:List V}
  (S:zk N ps scope) (hd:A.handled=none) (e0:Env0 P w K mg base A outer s H) (hl:vs.length=ps.length) (r:Vals vs us)
  (x:InCallC s s.heap.objs.size (bindL (envOfC qual scope s.heap.objs.size f cd).kindOf (ps.zip us) fun _=>none) (cellsFrom (s.heap.objs.size+1) scope.names []) (bindC (envOfC qual scope s.heap.objs.size f cd).kindOf (ps.zip us) fun _=>none) s1):
  Inv (ub CX P w K mg base N qual scope f cd A outer s H E) [] (start N vs) H s1:=by
 have hpl:ps.length≤N.length:=by have:=congrArg List.length S.pre;rw[List.length_take]at this;omega
 obtain⟨h1,tk,rfl,hk⟩:=x.done
 have noA:∀b:Addr,b∉(ub CX P w K mg base N qual scope f cd A outer s H E).ex:=fun b z=>absurd (show b∈([]:List Addr) from z) (by simp)
 refine⟨⟨e0.mod,S.kind,rfl,rfl,By _,fun y z c h1 h2=>?_,fun y hy=>?_,fun y c _ h=>?_,fun _=>hd,Around.frames_deeper e0.frames,.inr ⟨rfl,rfl⟩,fun b z=>absurd z (noA b),e0.bs,e0.bsz,fun b _ _=>noA b,fun b z=>absurd z (noA b),e0.funs,e0.frf⟩,
  rfl,e0.bare,Un.kept hk,⟨_,x.toInCall.ns,fun i y v h1 h2 h3=>?_⟩,fun y c h=>⟨_,x.cell y c h⟩,e0.hok.fresh (Nat.le_refl _),fun y c h=>?_,fun p hp=>absurd (show p∈([]:am) from hp) (by simp),e0.hok.kept hk,?_⟩
 ·exact name_of_addr x.apart (PySem.mem_of_lookup h1) (PySem.mem_of_lookup h2)
 ·have hy:scope.names.lookup y=some .cell∨scope.names.lookup y=some .free:=hy
  rcases hy with hy|hy
  ·exact nI hy
  ·exact absurd rfl (S.nofree _ (PySem.mem_of_lookup hy))
 ·exact Nat.le_of_lt (x.above y c (PySem.mem_of_lookup h))
 ·have hi:i<vs.length:=by
   unfold start at h2
   by_cases hi:i<vs.length
   ·exact hi
   ·rw[List.getElem?_append_right (by simpa using hi)]at h2
    rw[CP]at h2
    split at h2<;>cases h2
  have ha:vs[i]? = some v:=by
   unfold start at h2
   rw[List.getElem?_append_left (by simpa using hi),List.getElem?_map]at h2
   cases e:vs[i]? with
   | none=>rw[e]at h2;cases h2
   | some a=>rw[e]at h2;cases h2;rfl
  obtain⟨u,hu,rv⟩:=r.get ha
  have hp:ps[i]? = some y:=by
   rw[←S.pre,List.getElem?_take_of_lt (by omega)];exact h1
  have ndP:ps.Nodup:=by rw[←S.pre];exact S.nd.sublist (List.take_sublist _ _)
  refine⟨u,rv,?_⟩
  rcases S.par y (BH hp) with k|k
  ·exact .inl ⟨k,lD ndP hp hu k⟩
  ·obtain⟨c,e⟩:=nI (n:=s.heap.objs.size+1) k
   refine .inr ⟨.inl k,c,e,?_⟩
   have q:=x.cell y c e
   rw[lF ndP hp hu (by show scope.names.lookup y≠_;rw[k];decide)]at q
   exact q
 ·exact e0.hok.fresh (Nat.le_of_lt (x.above y c (PySem.mem_of_lookup h)))
 ·unfold start
  show _=N.length
  rw[Bv,Bs,Cs]
  omega
theorem Mx{CX:CXT}{P:Program}{w:World}{K:Bq}{mg:be}{base:Heap}{k:Nat}{f:Addr}{name qual:Str}{params:Arguments}{body:List Stmt}{scope:Scope}{dV kV doc pm cdv ct oc:Value}{an od:Option Addr}
  {osl:Array (Option Value)} {N ps:List Str} {sp:Sp} (lk:K.lookup f=some ⟨oc,od,.func (PySem.W.fnOf name qual params body scope dV kV doc pm an cdv ct),osl⟩) (hcd:PySem.W.codeIn K cdv qual=true) (S:zk N ps scope)
  (len:∀vs H Q E,sp vs H Q E→vs.length=ps.length)
  (hbody:∀(A:Around)(outer:List Env)(s:Shared)(H:Hp)(vs:List V)(Q:VK)(E:XK),Room k (A.deeper (envOfC qual scope s.heap.objs.size f cdv))→sp vs H Q E→
   ∃t,PSs (ub CX P w K mg base N qual scope f cdv A outer s H E) body t∧t { nx:=fun _ H'=>Q .non H',rt:=Q } (start N vs) H):
  FnOk P w K mg base CX (k+1) f (PySem.W.fnOf name qual params body scope dV kV doc pm an cdv ct) ps sp:=by
 refine⟨len,fun A outer s H args us vs Q E hr e0 hb r hsp=>?_⟩
 have hl:=len _ _ _ _ hsp
 have KX:K.In s.heap:=e0.mod.kin.keeps fun b o e=>(e0.bs b o e).1
 have lim:s.heap.NoLimit:=e0.mod.nolimit.keeps fun b o e=>(e0.bs b o e).1
 have hkind:∀y∈ps.zip us,scope.names.lookup y.1=some .local∨(scope.names.lookup y.1=some .cell∧((cellsFrom (s.heap.objs.size+1) scope.names []).lookup y.1).isSome=true):=fun⟨n,v⟩ hy=>by
  rcases S.par n (List.of_mem_zip hy).1 with q|q
  ·exact .inl q
  ·exact .inr ⟨q,PySem.W.cellsFrom_some _ _ _ (.inl q)⟩
 refine codeAny_call_function hr.depth (KX _ _ lk) rfl S.co S.gen rfl (PySem.W.codeRec_of KX hcd) (hb _ _ _ _ ?_)
 refine wpAny_newFunctionEnv_cells S.kind hkind fun env he s1 x=>?_
 subst he
 refine⟨lim.keeps x.toInCall.keep,codeAny_func ?_⟩
 obtain⟨t,ht,hq⟩:=hbody A outer s H vs Q E (hr.deeper _) hsp
 have I:Inv (ub CX P w K mg base N qual scope f cdv A outer s H E) [] (start N vs) H s1:=bI S hr.hd e0 hl r x
 refine wpAny_mono (ht [] s1 (start N vs) H _ I hq) (fun fl s' hs=>?_) fun e s' hs=>hs
 have fin:∀{σ':St}{H':Hp}{v:V}{u:Value},Inv (ub CX P w K mg base N qual scope f cdv A outer s H E) [] σ' H' s'→RelV v u→Q v H'→CE outer P w H s Q u s':=
  fun{σ' H' v u} J rv q=>⟨v,H',J.os,J.bare,J.base,J.hok,rv,q⟩
 cases fl with
 | ret u=>
  obtain⟨v,σ',H',J,rv,q⟩:=hs
  exact fin J rv q
 | next=>
  obtain⟨σ',H',J,q⟩:=hs
  exact fin (v:=V.non) (u:=Value.none) J rfl q
 | brk=>
  obtain⟨_,_,_,q⟩:=hs
  exact False.elim q
 | cont=>
  obtain⟨_,_,_,q⟩:=hs
  exact False.elim q
section
variable{X:Cx}{x:Str}{p pos:Pos}{e:Expr}{es:List Expr}{t:TA}{id T:String}{r:List V→Hp→VK→Prop}
def tCB(r:List V→Hp→VK→Prop)(t:TA):TE:=fun σ H Q=>t σ H fun vs H1=>r vs H1 Q
def xo(hc:tu X (.builtin id) r)(hg:Gl X x)(hm:X.mg x=none)(hv:bootBuiltins x=some (.builtin id))(ha:PA X (e::es) t)(hn:x≠"__name__":=by decide)(hdb:ug x:=by decide)
  (he:J' X.env e es:=by rfl) (hpl:K' X.env pos es:=by rfl):PE X (.Call (.Name x p) (e::es) [] pos) (tCB r t):=by
 intro f' s σ H Q I h
 refine wpAny_Call_Name_kw (vc I hg hm hv ?_ hn hdb)
 exact PyProof.Rows.callWith_builtin1 (thn (ha pos f' s σ H _ I h) fun us s1 ⟨vs,H1,I1,r1,q1⟩=>hc f' s1 σ H1 vs us Q I1 r1 q1) he hpl
def qx(hc:tu X (.type T) r)(hg:Gl X x)(hm:X.mg x=none)(hv:bootBuiltins x=some (.type T))(ha:PA X (e::es) t)(hn:x≠"__name__":=by decide)(hdb:ug x:=by decide)
  (he:J' X.env e es:=by rfl) (hpl:K' X.env pos es:=by rfl):PE X (.Call (.Name x p) (e::es) [] pos) (tCB r t):=by
 intro f' s σ H Q I h
 refine wpAny_Call_Name_kw (vc I hg hm hv ?_ hn hdb)
 exact PyProof.Rows.callWith_type1 (thn (ha pos f' s σ H _ I h) fun us s1 ⟨vs,H1,I1,r1,q1⟩=>hc f' s1 σ H1 vs us Q I1 r1 q1) he hpl
end
end L2
namespace HT
open PySem PyProof.Rows
section
def sIx(n d:Nat):Option Int→Nat
 | none=>d
 | some v=>if v<0 then(v+(n:Int)).toNat else min v.toNat n
end
end HT
namespace L2
open PySem PySem.Spec PyProof.Rows
abbrev TO:=St→Hp→(Option Int→Hp→Prop)→Prop
def PO(X:Cx)(e:Option Expr)(t:TO):Prop:=
 ∀(f':am)(s:Shared)(σ:St)(H:Hp)(Q:Option Int→Hp→Prop),Inv X f' σ H s→t σ H Q→
  wpAny (model X.prog X.w) X.A (evalPart e X.env) (fun u s'=>∃o H',Inv X f' σ H' s'∧IsPart u o∧Q o H') X.xe s
def YU:TO:=fun _ H Q=>Q none H
def Tx(t:TE):TO:=fun σ H Q=>t σ H fun x H1=>∃i,x=.int i∧Q (some i) H1
section
variable{X:Cx}{e:Expr}{te:TE}{lo hi:Option Expr}{tl th:TO}{pos p2:Pos}
def Xi:PO X none YU:=by
 intro f' s σ H Q I h
 rw[evalPart_none]
 exact wpAny_pure ⟨none,H,I,.none,h⟩
def Xh(h:PE X e te):PO X (some e) (Tx te):=by
 intro f' s σ H Q I hw
 rw[evalPart_some]
 refine thn (h f' s σ H _ I hw) fun u s1 zz=>?_
 obtain⟨x,H1,I1,r1,q1⟩:=zz
 obtain⟨i,rfl,q⟩:=q1
 obtain⟨t,rfl⟩:=r1
 exact⟨some i,H1,I1,.int i t,q⟩
def SlR(X:Cx)(r:V→Option Int→Option Int→Hp→VK→Prop):Prop:=
 ∀(f':am)(s:Shared)(σ:St)(H:Hp)(x:V)(v vl vu:Value)(lo hi:Option Int)(sl:Addr)(Q:VK),Inv X f' σ H s→RelV x v→s.heap.IsSliceOf sl vl vu .none→IsPart vl lo→IsPart vu hi→r x lo hi H Q→
  ∃T id,typeLookup (.type T) "__getitem__"=pure (some (.builtin id))∧s.TypeIs v T∧wpAny (model X.prog X.w) X.A (getItem v (.ref sl)) (EP X f' σ Q) X.xe s
def tSl(r:V→Option Int→Option Int→Hp→VK→Prop)(te:TE)(tl th:TO):TE:=fun σ H Q=>te σ H fun x H1=>tl σ H1 fun l H2=>th σ H2 fun u H3=>r x l u H3 Q
def jZ{r:V→Option Int→Option Int→Hp→VK→Prop}(hr:SlR X r)(he:PE X e te)(hl:PO X lo tl)(hu:PO X hi th):PE X (.Subscript e (.Slice lo hi none p2) pos) (tSl r te tl th):=by
 intro f' s σ H Q I h
 refine Subscript_ (thn (he f' s σ H _ I h) fun v s1 zz=>?_)
 obtain⟨x,H1,I1,r1,q1⟩:=zz
 refine wpAny_Slice (thn (hl f' s1 σ H1 _ I1 q1) fun vl s2 ⟨l,H2,I2,pl,q2⟩=>thn (hu f' s2 σ H2 _ I2 q2) fun vu s3 zz=>?_)
 obtain⟨u,H3,I3,pu,q3⟩:=zz
 rw[evalPart_none]
 refine wpAny_pure ?_
 have I4:Inv X f' σ H3 { s3 with heap:=s3.heap.push { cls:=.type "slice",data:=.fields #[vl,vu,.none] } }:=I3.kept (t':=s3.toks) fun b ob q=>Heap.get?_push_of_some _ q
 obtain⟨T,id,hT,ht,hg⟩:=hr f' { s3 with heap:=s3.heap.push { cls:=.type "slice",data:=.fields #[vl,vu,.none] } } σ H3 x v vl vu l u s3.heap.objs.size Q I4 r1 (Heap.IsSliceOf.new ..) pl pu q3
 show wpAny (model X.prog X.w) X.A (subscriptTail e (.Slice lo hi none p2) v (.ref s3.heap.objs.size)) (EP X f' σ Q) X.xe { s3 with heap:=s3.heap.push { cls:=.type "slice",data:=.fields #[vl,vu,.none] } }
 exact tail_any (ops:=[.ref s3.heap.objs.size,v]) ht hT hg (by with_unfolding_all rfl)
def dj(xs:List V)(lo hi:Option Int):List V:=(xs.drop (HT.sIx xs.length 0 lo)).take (HT.sIx xs.length xs.length hi-HT.sIx xs.length 0 lo)
def ga(xs:List V)(lo hi:Option Int):(dj xs lo hi).length≤xs.length:=by
 unfold dj
 rw[List.length_take,List.length_drop]
 omega
end
def ixN(n:Nat)(i:Int):Option Nat:=if 0≤i then(if i<n then some i.toNat else none) else if -(n:Int)≤i then some (i+n).toNat else none
def atI{α:Type}(xs:List α)(i:Int):Option α:=(ixN xs.length i).bind fun j=>xs[j]?
def cj{n:Nat}{i:Int}{j:Nat}(h:ixN n i=some j):seqIndex? i n=some j∧j<n∧-(n:Int)≤i∧i<n:=by
 unfold ixN at h
 by_cases h0:0≤i
 ·rw[if_pos h0]at h
  by_cases h1:i<n
  ·rw[if_pos h1]at h
   have e:i.toNat=j:=Option.some.inj h
   exact⟨by rw[seqIndex_of h0 h1,e],by omega,by omega,h1⟩
  ·rw[if_neg h1]at h;cases h
 ·rw[if_neg h0]at h
  by_cases h1:-(n:Int)≤i
  ·rw[if_pos h1]at h
   have e:(i+n).toNat=j:=Option.some.inj h
   exact⟨by rw[seqIndex_neg (by omega) h1,e],by omega,h1,by omega⟩
  ·rw[if_neg h1]at h;cases h
def jp{α:Type}{xs:List α}{i:Int}{v:α}(h:atI xs i=some v):∃j,seqIndex? i xs.length=some j∧xs[j]? = some v∧j<xs.length∧-(xs.length:Int)≤i∧i<xs.length:=by
 unfold atI at h
 cases e:ixN xs.length i with
 | none=>rw[e]at h;cases h
 | some j=>
  rw[e]at h
  obtain⟨h1,h2,h3,h4⟩:=cj e
  exact⟨j,h1,h,h2,h3,h4⟩
def ud{α:Type}{xs:List α}{j:Nat}{v:α}(h:xs[j]? = some v):atI xs (j:Int)=some v:=by
 have hj:j<xs.length:=(Cd.mp h).1
 have e:ixN xs.length (j:Int)=some j:=by
  unfold ixN
  rw[if_pos (by omega),if_pos (by omega)];simp
 unfold atI;rw[e];exact h
def atI_last{α:Type}(xs:List α)(v:α):atI (xs++[v]) (-1)=some v:=by
 have hl:(xs++[v]).length=xs.length+1:=by simp
 have e:ixN (xs++[v]).length (-1)=some xs.length:=by
  unfold ixN
  rw[hl,if_neg (by decide),if_pos (by omega)]
  congr 1
  omega
 unfold atI
 rw[e]
 show(xs++[v])[xs.length]? = some v
 simp
def rQ(b:Expr):Prop:=∀o i,subscripted b false o i=operate [o,i] (getItem o i)
def IxR(X:Cx)(r:R2):Prop:=
 ∀(value slice:Expr)(f':am)(s:Shared)(σ:St)(H:Hp)(x y:V)(v u:Value)(Q:VK),Inv X f' σ H s→RelV x v→RelV y u→r x y H Q→
  subscripted slice false v u=operate [v,u] (getItem v u)→wpAny (model X.prog X.w) X.A (subscriptTail value slice v u) (EP X f' σ Q) X.xe s
def MtR(X:Cx)(id:String)(r:V→List V→Hp→VK→Prop):Prop:=
 ∀(f':am)(s:Shared)(σ:St)(H:Hp)(x:V)(xs:List V)(v:Value)(us:List Value)(Q:VK),Inv X f' σ H s→RelV x v→Vals xs us→r x xs H Q→
  wpAny (model X.prog X.w) X.A (call (.builtin id) (v::us)) (EP X f' σ Q) X.xe s
section
variable{X:Cx}{a b:Expr}{ta tb:TE}{pos:Pos}
def IxR.or{r r':R2}(h:IxR X r)(h':IxR X r'):IxR X (fun x y H Q=>r x y H Q∨r' x y H Q):=by
 intro value slice f' s σ H x y v u Q I rx ry q hs
 rcases q with q|q
 ·exact h value slice f' s σ H x y v u Q I rx ry q hs
 ·exact h' value slice f' s σ H x y v u Q I rx ry q hs
def cc{r:R2}(hr:IxR X r)(ha:PE X a ta)(hb:PE X b tb)(hs:rQ b):PE X (.Subscript a b pos) (tOp r ta tb):=by
 intro f' s σ H Q I h
 exact Subscript_ (Wc ha hb I h fun v u s2 x y H2 I2 rx ry q=>hr a b f' s2 σ H2 x y v u Q I2 rx ry q (hs _ _))
def T0(K:Bq):R2:=fun x y H Q=>∃p xs i v,x=.ref p∧y=.int i∧SqL K H p xs∧atI xs i=some v∧Q v H
def TY(K:Bq):R2:=fun x y H Q=>∃p xs i v,x=.ref p∧y=.int i∧SqT K H p xs∧atI xs i=some v∧Q v H
def TZ:R2:=fun x y H Q=>∃z i c,x=.str z∧y=.int i∧z.length≤sizeLine∧atI z.cps.toList i=some c∧Q (.str ⟨#[c]⟩) H
def ix_list:IxR X (T0 X.K):=by
 intro value slice f' s σ H x y v u Q I rx ry h hs
 obtain⟨p,xs,i,z,rfl,rfl,hq,he,q⟩:=h
 cases rx
 obtain⟨t,rfl⟩:=ry
 obtain⟨its,r,pl,hz⟩:=I.list hq
 obtain⟨j,h1,h2,h3,h4,h5⟩:=jp he
 obtain⟨w,ew,rw'⟩:=r.get h2
 have hl:=r.length
 have hn:=uS
 have fin:EP X f' σ Q w s:=⟨z,H,I,rw',q⟩
 by_cases h0:0≤i
 ·have hj:i.toNat=j:=by
   rw[seqIndex_of h0 h5]at h1
   exact Option.some.inj h1
  exact item_listR pl.isList h0 (by omega) (by rw[hj];simpa using ew) fin hs
 ·have hj:(i+(its.toArray.size:Int)).toNat=j:=by
   rw[seqIndex_neg (by omega) h4]at h1
   rw[BC,←hl]
   exact Option.some.inj h1
  exact subscriptTail_builtinR (x:=w) pl.isList.typeIs slot_list_getitem.lookup
   (wpAny_getItem_list_neg (Q:=fun r s'=>r=w∧EP X f' σ Q r s') pl.isList (by omega) (by rw[List.size_toArray]<;>omega) (by omega) (by rw[hj];simpa using ew) ⟨rfl,fin⟩) hs
def ix_tup:IxR X (TY X.K):=by
 intro value slice f' s σ H x y v u Q I rx ry h hs
 obtain⟨p,xs,i,z,rfl,rfl,hq,he,q⟩:=h
 cases rx
 obtain⟨t,rfl⟩:=ry
 obtain⟨its,r,pl,hz⟩:=I.tuple hq
 obtain⟨j,h1,h2,h3,h4,h5⟩:=jp he
 obtain⟨w,ew,rw'⟩:=r.get h2
 have hl:=r.length
 have hn:=uS
 have fin:EP X f' σ Q w s:=⟨z,H,I,rw',q⟩
 exact subscriptTail_builtinR (x:=w) pl.typeIs slot_tuple_getitem.lookup
  (getItem_tuple (j:=j) (Q:=fun r s'=>r=w∧EP X f' σ Q r s') pl (by omega) (by omega) (by rw[List.size_toArray,←hl];exact h1) (by simpa using ew) ⟨rfl,fin⟩) hs
def UJ:IxR X TZ:=by
 intro value slice f' s σ H x y v u Q I rx ry h hs
 obtain⟨z,i,c,rfl,rfl,hz,he,q⟩:=h
 obtain⟨t,rfl⟩:=rx
 obtain⟨t',rfl⟩:=ry
 obtain⟨j,h1,h2,h3,h4,h5⟩:=jp he
 have hl:z.cps.toList.length=z.length:=by simp[Str.length]
 rw[hl]at h1 h4 h5
 have hn:=uS
 exact tail_any (typeIs_str s z t) slot_str_getitem.lookup (getItem_str (c:=c) (by
  have e1:decide (i < -(2^63:Int))=false:=decide_eq_false (by omega)
  have e2:decide (i≥2^63)=false:=decide_eq_false (by omega)
  rw[e1,e2,Bool.or_false]) (by rw[h1];simpa using h2) ⟨.str ⟨#[c]⟩,H,I.tok _,⟨_,rfl⟩,q⟩) hs
def rIx(K:Bq):R2:=fun x y H Q=>T0 K x y H Q∨TY K x y H Q∨TZ x y H Q
def ZK:IxR X (rIx X.K):=ix_list.or (ix_tup.or UJ)
def eE(its:List Value)(n j:Nat)(u:Value):Obj.mapSeq (·.setIfInBounds j u) { cls:=.type "list",data:=.seq its.toArray n }={ cls:=.type "list",data:=.seq (its.set j u).toArray n }:=by
 simp[Obj.mapSeq]
theorem Inv.lst{f':am}{σ:St}{H:Hp}{s:Shared}{p:Addr}{xs:List V}(I:Inv X f' σ H s)(h:H p=some (.lst xs)):
  ∃(its:List Value)(n:Nat),Vals xs its∧s.heap.get? p=some { cls:=.type "list",data:=.seq its.toArray n }∧xs.length≤sizeLine:=by
 obtain⟨z,its,n,r,e⟩:=I.hok p _ h
 exact⟨its,n,r,e,z⟩
theorem Inv.lstUpd{f':am}{σ:St}{H:Hp}{s:Shared}{p:Addr}{xs ys:List V}{its its':List Value}{n n':Nat}{f:Obj→Obj}(I:Inv X f' σ H s)(h:H p=some (.lst xs))
  (ho:s.heap.get? p=some { cls:=.type "list",data:=.seq its.toArray n }) (hf:f { cls:=.type "list",data:=.seq its.toArray n }={ cls:=.type "list",data:=.seq its'.toArray n' }) (r:Vals ys its') (hz:ys.length≤sizeLine) (t:Nat):
  Inv X f' σ (upd H p (.lst ys)) { s with heap:=s.heap.update p f,toks:=t }:=by
 have e:(s.heap.update p f).get? p=some { cls:=.type "list",data:=.seq its'.toArray n' }:=by
  rw[Heap.get?_update_self f ho (by rw[hf]<;>rfl),hf]
 refine I.write (x:=p) (e:=p) (by rw[h];trivial) (.inl rfl) (fun b u hb q=>(Heap.get?_update_other _ _ (Ne.symm hb)).trans q) ⟨_,e⟩ ?_
 exact⟨hz,its',n',r,e⟩
def TX:V→V→V→Hp→(Hp→Prop)→Prop:=fun o i v H Q=>∃p xs k j,o=.ref p∧i=.int k∧H p=some (.lst xs)∧ixN xs.length k=some j∧Q (upd H p (.lst (xs.set j v)))
def aK:Lx X TX:=by
 intro f' s σ H o i v ov iv u Q I ro ri rv h
 obtain⟨p,xs,k,j,rfl,rfl,hp,hj,q⟩:=h
 cases ro
 obtain⟨t,rfl⟩:=ri
 obtain⟨its,n,r,ho,hz⟩:=I.lst hp
 obtain⟨h1,h2,h3,h4⟩:=cj hj
 have hl:=r.length
 have hn:=uS
 have I':Inv X f' σ (upd H p (.lst (xs.set j v))) { s with heap:=s.heap.update p (Obj.mapSeq (·.setIfInBounds j u)) }:=
  I.lstUpd hp ho (eE its n j u) (r.set rv j) (by rw[B_];exact hz) s.toks
 by_cases h0:0≤k
 ·have hk:k.toNat=j:=by
   rw[seqIndex_of h0 h4]at h1
   exact Option.some.inj h1
  exact PySem.W.ki_setAt ho h0 (by omega) (by rw[BC,←hl];exact h4) (by rw[hk];exact⟨_,I',q⟩)
 ·have hk:(k+(its.toArray.size:Int)).toNat=j:=by
   rw[seqIndex_neg (by omega) h3]at h1
   rw[BC,←hl]
   exact Option.some.inj h1
  exact PySem.W.ki_setBack ho (by omega) (by rw[BC,←hl];exact h3) (by omega) (by rw[hk];exact⟨_,I',q⟩)
def lP(lo hi:Option Int)(n:Nat):(sliceBounds lo hi none n).1=((HT.sIx n 0 lo:Nat):Int)∧(sliceBounds lo hi none n).2.1=((HT.sIx n n hi:Nat):Int)∧(sliceBounds lo hi none n).2.2=1:=by
 refine⟨?_,?_,rfl⟩
 ·cases lo with
  | none=>simp[sliceBounds,HT.sIx]
  | some i=>
   simp only[sliceBounds,HT.sIx,Option.getD_none,show(1:Int)>0 by decide,if_true]
   by_cases h:i<0
   ·simp only[h,if_true]<;>omega
   ·simp only[h,if_false]<;>omega
 ·cases hi with
  | none=>simp[sliceBounds,HT.sIx]
  | some i=>
   simp only[sliceBounds,HT.sIx,Option.getD_none,show(1:Int)>0 by decide,if_true]
   by_cases h:i<0
   ·simp only[h,if_true]<;>omega
   ·simp only[h,if_false]<;>omega
def nU(its:List Value)(lo hi:Option Int):slicePick its.toArray lo hi none=((its.drop (HT.sIx its.length 0 lo)).take (HT.sIx its.length its.length hi-HT.sIx its.length 0 lo)).toArray:=by
 obtain⟨h1,h2,h3⟩:=lP lo hi its.toArray.size
 unfold slicePick
 rw[h1,h2,h3]
 simp only[sliceRange_one,pick_run,List.size_toArray]<;>rfl
def LP(K:Bq):V→Option Int→Option Int→Hp→VK→Prop:=fun x lo hi H Q=>∃a xs,x=.ref a∧SqL K H a xs∧∀p,H p=none→Q (.ref p) (upd H p (.lst (dj xs lo hi)))
def YW:SlR X (LP X.K):=by
 intro f' s σ H x v vl vu lo hi sl Q I rx hs pl pu h
 obtain⟨a,xs,rfl,hx,q⟩:=h
 cases rx
 obtain⟨its,r,ht,hz⟩:=I.list hx
 have hlen:=r.length
 refine⟨"list",_,slot_list_getitem.lookup,ht.isList.typeIs,?_⟩
 refine wpAny_getItem_list_slice ht.isList hs pl pu .none (by simp) ?_ (by rw[List.size_toArray]<;>omega)
 rw[nU,←hlen]
 refine⟨.ref s.heap.objs.size,_,I.laid (t':=s.toks) (o:=.lst (dj xs lo hi)) (fun b ob q=>Heap.get?_push_of_some _ q) (By _) ?_,rfl,q _ (I.hok.fresh (By _))⟩
 exact⟨BS (ga xs lo hi) hz,_,0,(r.drop (HT.sIx xs.length 0 lo)).take (HT.sIx xs.length xs.length hi-HT.sIx xs.length 0 lo),Heap.get?_push_size _ rfl⟩
def ui:V→Bool
 | .non=>true
 | .bl _=>true
 | .int _=>true
 | .str _=>true
 | _=>false
def eqV:V→V→Bool
 | .non,.non=>true
 | .bl a,.bl b=>a==b
 | .bl a,.int b=>(if a then 1 else 0)==b
 | .int a,.bl b=>a==(if b then 1 else 0)
 | .int a,.int b=>a==b
 | .str a,.str b=>a==b
 | _,_=>false
def eV{A:Around}{s:Shared}{y x:V}{u v:Value}(ry:RelV y u)(rx:RelV x v)(fy:ui y=true)(fx:ui x=true):SeqAt.EqAt A s u v (eqV y x):=by
 cases y with
 | non=>
  cases ry
  cases x with
  | non=>cases rx;exact SeqAt.EqAt.same _
  | bl b=>cases rx;exact SeqAt.EqAt.none_bool b
  | int b=>obtain⟨t,rfl⟩:=rx;exact SeqAt.EqAt.none_int b t
  | str b=>obtain⟨t,rfl⟩:=rx;exact SeqAt.EqAt.none_str b t
  | _=>exact absurd (show false=true from fx) Bw
 | bl a=>
  cases ry
  cases x with
  | non=>cases rx;exact SeqAt.EqAt.bool_none a
  | bl b=>cases rx;exact SeqAt.EqAt.bool_bool a b
  | int b=>obtain⟨t,rfl⟩:=rx;exact SeqAt.EqAt.bool_int a b t
  | str b=>obtain⟨t,rfl⟩:=rx;exact SeqAt.EqAt.bool_str a b t
  | _=>exact absurd (show false=true from fx) Bw
 | int a=>
  obtain⟨t',rfl⟩:=ry
  cases x with
  | non=>cases rx;exact SeqAt.EqAt.int_none a t'
  | bl b=>cases rx;exact SeqAt.EqAt.int_bool a t' b
  | int b=>obtain⟨t,rfl⟩:=rx;exact SeqAt.EqAt.int_int a t' b t
  | str b=>obtain⟨t,rfl⟩:=rx;exact SeqAt.EqAt.int_str a t' b t
  | _=>exact absurd (show false=true from fx) Bw
 | str a=>
  obtain⟨t',rfl⟩:=ry
  cases x with
  | non=>cases rx;exact SeqAt.EqAt.str_none a t'
  | bl b=>cases rx;exact SeqAt.EqAt.str_bool a t' b
  | int b=>obtain⟨t,rfl⟩:=rx;exact SeqAt.EqAt.str_int a t' b t
  | str b=>obtain⟨t,rfl⟩:=rx;exact SeqAt.EqAt.str_str a t' b t
  | _=>exact absurd (show false=true from fx) Bw
 | _=>exact absurd (show false=true from fy) Bw
def eqU(x:V)(u:Value):Bool:=match u with
 | .none=>eqV .non x
 | .bool b=>eqV (.bl b) x
 | .int i _=>eqV (.int i) x
 | .str z _=>eqV (.str z) x
 | _=>false
def ZZ{x y:V}{u:Value}(r:RelV y u)(f:ui y=true):eqU x u=eqV y x:=by
 cases y with
 | non=>cases r;rfl
 | bl b=>cases r;rfl
 | int i=>obtain⟨t,rfl⟩:=r;rfl
 | str z=>obtain⟨t,rfl⟩:=r;rfl
 | _=>exact absurd (show false=true from f) Bw
theorem rM{x:V}:∀{xs:List V}{us:List Value},Vals xs us→xs.all ui=true→us.any (eqU x)=xs.any fun y=>eqV y x
 | _,_,.nil,_=>rfl
 | y::xs,u::us,.cons r t,f=>by
  rw[C3,BL]at f
  rw[C4,C4,ZZ r f.1,rM t f.2]
theorem uQ{A:Around}{s:Shared}{x:V}{v:Value}(rx:RelV x v)(fx:ui x=true):∀{xs:List V}{us:List Value},Vals xs us→xs.all ui=true→∀u∈us,SeqAt.EqAt A s u v (eqU x u)
 | _,_,.nil,_=>fun u hu=>by cases hu
 | y::xs,u::us,.cons r t,f=>fun u' hu=>by
  rw[C3,BL]at f
  rcases BE.mp hu with rfl|hu
  ·rw[ZZ r f.1];exact eV r rx f.1 fx
  ·exact uQ rx fx t f.2 u' hu
def inV(x:V)(xs:List V):Bool:=xs.any fun y=>eqV y x
def rIn(K:Bq)(neg:Bool):R2:=fun x y H Q=>∃p xs,y=.ref p∧(SqL K H p xs∨SqT K H p xs)∧ui x=true∧xs.all ui=true∧Q (.bl (if neg then !inV x xs else inV x xs)) H
def mP:OpR X (compareOp .In) (rIn X.K false):=by
 intro f' s σ H x y v u Q I rx ry h
 obtain⟨p,xs,rfl,hq,fx,fs,q⟩:=h
 cases ry
 rcases hq with hq|hq
 ·obtain⟨its,r,pl,hz⟩:=I.list hq
  refine SeqAt.in_listAt (eqU x) pl.isList (fun w hw=>uQ rx fx r fs w (by simpa using hw)) ⟨.bl _,H,I,rfl,?_⟩
  rw[show its.toArray.any (eqU x)=its.any (eqU x) by simp,rM r fs]
  exact q
 ·obtain⟨its,r,pl,hz⟩:=I.tuple hq
  refine SeqAt.in_tupleAt (eqU x) pl (fun w hw=>uQ rx fx r fs w (by simpa using hw)) ⟨.bl _,H,I,rfl,?_⟩
  rw[show its.toArray.any (eqU x)=its.any (eqU x) by simp,rM r fs]
  exact q
def kl:OpR X (compareOp .NotIn) (rIn X.K true):=by
 intro f' s σ H x y v u Q I rx ry h
 obtain⟨p,xs,rfl,hq,fx,fs,q⟩:=h
 cases ry
 rcases hq with hq|hq
 ·obtain⟨its,r,pl,hz⟩:=I.list hq
  refine SeqAt.notIn_listAt (eqU x) pl.isList (fun w hw=>uQ rx fx r fs w (by simpa using hw)) ⟨.bl _,H,I,rfl,?_⟩
  rw[show its.toArray.any (eqU x)=its.any (eqU x) by simp,rM r fs]
  exact q
 ·obtain⟨its,r,pl,hz⟩:=I.tuple hq
  refine SeqAt.notIn_tupleAt (eqU x) pl (fun w hw=>uQ rx fx r fs w (by simpa using hw)) ⟨.bl _,H,I,rfl,?_⟩
  rw[show its.toArray.any (eqU x)=its.any (eqU x) by simp,rM r fs]
  exact q
def uc:tu X (.builtin "len") (fun xs H Q=>∃p ys,xs=[.ref p]∧(SqL X.K H p ys∨SqT X.K H p ys)∧Q (.int ys.length) H):=by
 intro f' s σ H xs us Q I r h
 obtain⟨p,ys,rfl,hq,q⟩:=h
 obtain⟨u,rfl,rx⟩:=dM r
 cases rx
 have hn:=uS
 rcases hq with hq|hq
 ·obtain⟨its,r',pl,hz⟩:=I.list hq
  have hlen:=r'.length
  exact Calls.call_len_list pl.isList (by simp only[List.size_toArray]<;>omega) ⟨.int ys.length,H,I.tok _,⟨s.toks+1,by rw[List.size_toArray,hlen]⟩,q⟩
 ·obtain⟨its,r',pl,hz⟩:=I.tuple hq
  have hlen:=r'.length
  exact len_tuple pl (by simp only[List.size_toArray]<;>omega) ⟨.int ys.length,H,I.tok _,⟨s.toks+1,by rw[List.size_toArray,hlen]⟩,q⟩
def jl:tu X (.builtin "len") (fun xs H Q=>∃z,xs=[.str z]∧z.length≤sizeLine∧Q (.int z.length) H):=by
 intro f' s σ H xs us Q I r h
 obtain⟨z,rfl,hz,q⟩:=h
 obtain⟨u,rfl,t,rfl⟩:=dM r
 have hn:=uS
 exact len_str (by omega) ⟨.int z.length,H,I.tok _,⟨_,rfl⟩,q⟩
def jk:tu X (.type "list") (fun xs H Q=>∃p ys,xs=[.ref p]∧(SqL X.K H p ys∨SqT X.K H p ys)∧∀l,H l=none→Q (.ref l) (upd H l (.lst ys))):=by
 intro f' s σ H xs us Q I r h
 obtain⟨p,ys,rfl,hq,q⟩:=h
 obtain⟨u,rfl,rx⟩:=dM r
 cases rx
 have fin:∀(its:List Value),Vals ys its→ys.length≤sizeLine→∀(h':Heap)(c':Nat),(∀b o',s.heap.get? b=some o'→h'.get? b=some o')→
   h'.get? s.heap.objs.size=some { cls:=.type "list",dict:=none,data:=.seq its.toArray c',slots:=#[] }→EP X f' σ Q (.ref s.heap.objs.size) { s with heap:=h' }:=fun its r' hz h' c' kp e=>
  ⟨.ref s.heap.objs.size,_,I.laid (t':=s.toks) kp (By _) (show ObjOk X.prog X.w _ h' _ (.lst ys) from⟨hz,its,c',r',e⟩),rfl,q _ (I.hok.fresh (By _))⟩
 rcases hq with hq|hq
 ·obtain⟨its,r',pl,hz⟩:=I.list hq
  have hlen:=r'.length
  obtain⟨o,ho,hc,n,hd⟩:=pl.isList
  exact call_list_seq p (.inl rfl) ho hc hd (fun h' c' kp e=>fin its r' hz h' c' kp e) (by simp only[List.size_toArray]<;>omega)
 ·obtain⟨its,r',pl,hz⟩:=I.tuple hq
  have hlen:=r'.length
  obtain⟨o,ho,hc,n,hd⟩:=pl
  exact call_list_seq p (.inr rfl) ho hc hd (fun h' c' kp e=>fin its r' hz h' c' kp e) (by simp only[List.size_toArray]<;>omega)
def tyV(K:Bq)(T:String)(x:V)(H:Hp):Prop:=match x with
 | .str _=>T="str"
 | .int _=>T="int"
 | .ref p=>(T="list"∧∃xs,SqL K H p xs)∨(T="tuple"∧∃o,K.lookup p=some o∧o.cls=.type "tuple"∧o.dict=none)∨
   (T="dict"∧((∃kvs,H p=some (.dK kvs))∨∃kvs,H p=some (.dT kvs)))∨(T="set"∧∃S n,H p=some (.set S n))
 | _=>False
theorem au{f':am}{σ:St}{H:Hp}{s:Shared}{T:String}{x:V}{v:Value}(I:Inv X f' σ H s)(r:RelV x v)(ty:tyV X.K T x H):
  s.TypeIs v T∧∀a,v=.ref a→∃ob,s.heap.get? a=some ob∧ob.dict=none:=by
 cases x with
 | str z=>
  obtain⟨t,rfl⟩:=r
  cases(show T="str" from ty)
  exact⟨typeIs_str s z t,fun _ e=>nomatch e⟩
 | int i=>
  obtain⟨t,rfl⟩:=r
  cases(show T="int" from ty)
  exact⟨typeIs_int s i t,fun _ e=>nomatch e⟩
 | ref p=>
  cases r
  rcases ty with ⟨rfl,xs,hq⟩|⟨rfl,o,hk,hc,hd⟩|⟨rfl,hk⟩|⟨rfl,S,n,hk⟩
  ·obtain⟨its,_,pl,_⟩:=I.list hq
   refine⟨pl.isList.typeIs,fun a e=>?_⟩
   cases e
   obtain⟨o,n,e,c,hd,_⟩:=pl
   exact⟨o,e,hd⟩
  ·refine⟨⟨o,I.kIn p o hk,hc⟩,fun a e=>?_⟩
   cases e
   exact⟨o,I.kIn _ o hk,hd⟩
  ·have z:∃o,s.heap.get? p=some o∧o.ExactDict:=by
    rcases hk with ⟨kvs,hk⟩|⟨kvs,hk⟩
    ·obtain⟨_,_,_,_,o,_,_,e,ex,_⟩:=I.hok p _ hk
     exact⟨o,e,ex⟩
    ·obtain⟨_,_,_,_,o,_,_,e,ex,_⟩:=I.hok p _ hk
     exact⟨o,e,ex⟩
   obtain⟨o,e,ex⟩:=z
   refine⟨⟨o,e,ex.1⟩,fun a e2=>?_⟩
   cases e2
   exact⟨o,e,ex.2.1⟩
  ·obtain⟨o,_,_,_,e,ex,_⟩:=I.hok p _ hk
   refine⟨⟨o,e,ex.1⟩,fun a e2=>?_⟩
   cases e2
   exact⟨o,e,ex.2.1⟩
 | _=>exact False.elim ty
def LK(K:Bq)(T:String)(r:V→List V→Hp→VK→Prop)(to:TE):TE:=fun σ H Q=>to σ H fun x H1=>tyV K T x H1∧r x [] H1 Q
def tBM(K:Bq)(T:String)(r:V→List V→Hp→VK→Prop)(to:TE)(t:TA):TE:=fun σ H Q=>to σ H fun x H1=>tyV K T x H1∧t σ H1 fun xs H2=>r x xs H2 Q
variable{o e:Expr}{es:List Expr}{to:TE}{t:TA}{name:Str}{apos cpos:Pos}{T id:String}{r:V→List V→Hp→VK→Prop}
theorem fK(pa:PlainAttrs T)(slot:Slot T name id)(hty:typeOf (.builtin id)=pure (.type "method_descriptor"))(hm:MtR X id r)(ho:PE X o to)
  (hbase:attributeBase o name X.env (eval o X.env)=eval o X.env:=by rfl) (hline:(apos.endLine==cpos.line)=true:=by rfl):PE X (.Call (.Attribute o name apos) [] [] cpos) (LK X.K T r to):=by
 intro f' s σ H Q I h
 refine wpAny_Call_method0_late hbase hline (thn (ho f' s σ H _ I h) fun v s1 zz=>?_)
 obtain⟨x,H1,I1,r1,ty,q1⟩:=zz
 obtain⟨h1,h2⟩:=au I1 r1 ty
 exact⟨T,id,pa,slot,hty,h1,h2,Calls.callWith_builtin rfl (PySem.evalArgs_none (hm f' s1 σ H1 x [] v [] Q I1 r1 .nil q1))⟩
theorem oW(pa:PlainAttrs T)(slot:Slot T name id)(hty:typeOf (.builtin id)=pure (.type "method_descriptor"))(hm:MtR X id r)(ho:PE X o to)(ha:PA X (e::es) t)
  (hbase:attributeBase o name X.env (eval o X.env)=eval o X.env:=by rfl)
  (hfew:((backTo cpos (starEach (e::es) X.env)).all (fun x=>!x.1)&&(backToKw cpos (keywordEach [] X.env)).all (fun x=>x.1.isSome)
   && decide ((e::es).length+([]:List Keyword).length+(if([]:List Keyword).isEmpty then 0 else 1)<30))=true:=by rfl)
  (hline:(apos.endLine==cpos.line)=true:=by rfl) (hs:J' X.env e es:=by rfl) (hplain:K' X.env cpos es:=by rfl):
  PE X (.Call (.Attribute o name apos) (e::es) [] cpos) (tBM X.K T r to t):=by
 intro f' s σ H Q I h
 refine wpAny_Call_method_late hbase hfew hline rfl (thn (ho f' s σ H _ I h) fun v s1 zz=>?_)
 obtain⟨x,H1,I1,r1,ty,q1⟩:=zz
 obtain⟨h1,h2⟩:=au I1 r1 ty
 refine⟨T,id,pa,slot,hty,h1,h2,?_⟩
 have hA:=ha cpos f' s1 σ H1 _ I1 q1
 rw[hs]at hA ⊢
 refine Calls.callWith_builtin (by show(false||(backTo cpos (starEach es X.env)).any (·.1))=false;rw[hplain]<;>rfl) (Calls.evalArgs_plain ?_)
 exact thn hA fun us s2 ⟨vs,H2,I2,r2,q2⟩=>hm f' s2 σ H2 x vs v us Q I2 r1 r2 q2
end
def MtM(X:Cx)(id:String)(r:V→List V→Hp→VK→Prop):Prop:=
 ∀(f':am)(s:Shared)(σ:St)(H:Hp)(x:V)(xs:List V)(v:Value)(us:List Value)(Q:VK),Inv X f' σ H s→RelV x v→Vals xs us→r x xs H Q→
  wpAny (model X.prog X.w) X.A (call (.builtin id) (v::us)) (EP X f' σ Q) X.xe s
theorem Vals.one:∀{x:V}{us:List Value},Vals [x] us→∃u,us=[u]∧RelV x u
 | _,_,.cons r .nil=>⟨_,rfl,r⟩
theorem Vals.two:∀{x y:V}{us:List Value},Vals [x,y] us→∃u v,us=[u,v]∧RelV x u∧RelV y v
 | _,_,_,.cons r (.cons q .nil)=>⟨_,_,rfl,r,q⟩
theorem Vals.zero:∀{us:List Value},Vals [] us→us=[]
 | _,.nil=>rfl
def Vals.dropLast{xs:List V}{us:List Value}(h:Vals xs us):Vals xs.dropLast us.dropLast:=by
 induction h with
 | nil=>exact .nil
 | cons r t ih=>
  cases t with
  | nil=>exact .nil
  | cons q t'=>exact .cons r ih
def Vals.reverse{xs:List V}{us:List Value}(h:Vals xs us):Vals xs.reverse us.reverse:=by
 induction h with
 | nil=>exact .nil
 | cons r t ih=>rw[CD,CD];exact Vals.append ih (.cons r .nil)
theorem Vals.rep{xs:List V}{us:List Value}(h:Vals xs us):∀k:Nat,Vals (List.replicate k xs).flatten (List.replicate k us).flatten
 | 0=>.nil
 | k+1=>by
  rw[Cq,Cq,Cw,Cw]
  exact Vals.append h (Vals.rep h k)
def eT{α:Type}(l:List α):l.eraseIdx (l.length-1)=l.dropLast:=by
 induction l with
 | nil=>rfl
 | cons a r ih=>
  cases r with
  | nil=>rfl
  | cons b r=>
   have e:(a::b::r).length-1=((b::r).length-1)+1:=by
    have h1:(a::b::r).length=r.length+2:=rfl
    have h2:(b::r).length=r.length+1:=rfl
    omega
   rw[e,List.eraseIdx_cons_succ,ih]
   all_goals rfl
theorem lc(its:List Value):∀(k:Nat)(acc:List Value),
  List.foldl (fun x1 x2=>x1++x2) acc.toArray (List.replicate k its.toArray)=(acc++(List.replicate k its).flatten).toArray
 | 0,acc=>by simp
 | k+1,acc=>by
  have e:acc.toArray++its.toArray=(acc++its).toArray:=by simp
  have e2:(acc++its)++(List.replicate k its).flatten=acc++(List.replicate (k+1) its).flatten:=by
   rw[Cq,Cw,CU]
  rw[←e2,←lc its k (acc++its),←e,Cq,List.foldl_cons]
section
variable{X:Cx}{f':am}{σ:St}{H:Hp}{s:Shared}{l:Addr}{xs ys:List V}
theorem Inv.lset{its its':List Value}{n:Nat}{f:Array Value→Array Value}{t':Nat}(I:Inv X f' σ H s)(hH:H l=some (.lst xs))
  (e:s.heap.get? l=some { cls:=.type "list",data:=.seq its.toArray n }) (hf:f its.toArray=its'.toArray) (hv:Vals ys its') (hz:ys.length≤sizeLine):
  Inv X f' σ (upd H l (.lst ys)) { s with heap:=s.heap.update l (Obj.mapSeq f),toks:=t' }:=by
 have q:=PySem.IsL.update e f
 rw[hf]at q
 refine I.write (x:=l) (e:=l) (by rw[hH];exact trivial) (.inl rfl) (fun b' u hb hu=>(Heap.get?_update_other s.heap (Obj.mapSeq f) (Ne.symm hb)).trans hu) ⟨_,q⟩ ?_
 exact⟨hz,its',_,hv,q⟩
theorem Inv.lnew{its:List Value}{t':Nat}(I:Inv X f' σ H s)(hv:Vals ys its)(hz:ys.length≤sizeLine):
  Inv X f' σ (upd H s.heap.objs.size (.lst ys)) { s with heap:=s.heap.push { cls:=.type "list",data:=.seq its.toArray },toks:=t' }:=
 I.laid (fun _ _ q=>Heap.get?_push_of_some _ q) (By _) ⟨hz,its,0,hv,Heap.get?_push_size _ rfl⟩
def Inv.fresh(I:Inv X f' σ H s):H s.heap.objs.size=none:=I.hok.fresh (By _)
def Inv.lstM(I:Inv X f' σ H s)(hH:H l=some (.lst xs)):xs.length≤sizeLine∧∃(its:List Value)(n:Nat),Vals xs its∧xs.length=its.length∧s.heap.get? l=some { cls:=.type "list",data:=.seq its.toArray n }:=by
 obtain⟨z,its,n,r,e⟩:=I.hok l _ hH
 exact⟨z,its,n,r,r.length,e⟩
def iz{n:Nat}(h:n≤sizeLine):Builtin.List.listTooLong n=false:=by
 unfold Builtin.List.listTooLong
 exact decide_eq_false (by omega)
end
section
variable{X:Cx}
def Xa:V→List V→Hp→VK→Prop:=fun x vs H Q=>∃l xs y,x=.ref l∧vs=[y]∧H l=some (.lst xs)∧xs.length<sizeLine∧Q .non (upd H l (.lst (xs++[y])))
def qF:MtM X "list.append" Xa:=by
 intro f' s σ H x vs v us Q I rx rv h
 obtain⟨l,xs,y,rfl,rfl,hH,hz,q⟩:=h
 cases rx
 obtain⟨u,rfl,ru⟩:=rv.one
 obtain⟨z,its,n,r,hl,e⟩:=I.lstM hH
 refine call_meets F.slot_list_append ⟨_,e,rfl⟩ F.entry_list_append (F.args_list_append_2 _ _) (PySem.list_append l its.toArray n u (by rw[BC];omega)) ⟨e,?_⟩
 refine⟨.non,_,I.lset (its':=its++[u]) hH e (by simp) (r.append (.cons ru .nil)) ?_,rfl,q⟩
 rw[Bv,List.length_singleton]
 omega
def Y_:V→List V→Hp→VK→Prop:=fun x vs H Q=>∃l b xs zs,x=.ref l∧vs=[.ref b]∧H l=some (.lst xs)∧H b=some (.lst zs)∧xs.length+zs.length≤sizeLine∧Q .non (upd H l (.lst (xs++zs)))
def bG:MtM X "list.extend" Y_:=by
 intro f' s σ H x vs v us Q I rx rv h
 obtain⟨l,b,xs,zs,rfl,rfl,hH,hB,hz,q⟩:=h
 cases rx
 obtain⟨u,rfl,ru⟩:=rv.one
 cases ru
 obtain⟨z,its,n,r,hl,e⟩:=I.lstM hH
 obtain⟨z2,its2,n2,r2,hl2,e2⟩:=I.lstM hB
 have hsz:its.toArray.size+its2.toArray.size≤sizeLine:=by rw[BC,BC];omega
 have hlong:¬(!its.toArray.isEmpty&&Builtin.List.listTooLong (its.toArray.size+its2.toArray.size))=true:=by
  rw[iz hsz,Bool.and_false]
  exact Bw
 refine call_meets F.slot_list_extend ⟨_,e,rfl⟩ F.entry_list_extend (F.args_list_extend_2 _ _)
  (AutoSeq1.list_extend_list_list_0 l its.toArray n b its2.toArray n2 hlong (by rw[BC];omega) (by omega)) ⟨e,e2,?_⟩
 refine⟨.non,_,I.lset (its':=its++its2) hH e (by simp) (r.append r2) ?_,rfl,q⟩
 rw[Bv]
 omega
def LR:V→List V→Hp→VK→Prop:=fun x vs H Q=>∃l xs y,x=.ref l∧vs=[]∧H l=some (.lst xs)∧xs[xs.length-1]? = some y∧Q y (upd H l (.lst xs.dropLast))
def UC:MtM X "list.pop" LR:=by
 intro f' s σ H x vs v us Q I rx rv h
 obtain⟨l,xs,y,rfl,rfl,hH,hy,q⟩:=h
 cases rx
 have hus:=rv.zero
 subst hus
 obtain⟨z,its,n,r,hl,e⟩:=I.lstM hH
 obtain⟨u,hu,ru⟩:=r.get hy
 have hy':its.toArray[its.toArray.size-1]? = some u:=by
  show its.toArray[its.length-1]? = some u
  rw[←Array.getElem?_toList,←hl]
  exact hu
 refine call_meets F.slot_list_pop ⟨_,e,rfl⟩ F.entry_list_pop (F.args_list_pop_1 _) (MeetsSeq.list_pop_last l its.toArray n u hy' (by rw[BC];omega)) ⟨e,?_⟩
 refine⟨y,_,I.lset (its':=its.dropLast) hH e ?_ r.dropLast ?_,ru,q⟩
 ·show its.toArray.eraseIdxIfInBounds (its.toArray.size-1)=its.dropLast.toArray
  rw[BC,List.eraseIdxIfInBounds_toArray,eT]
 ·rw[List.length_dropLast]
  omega
def aV:V→List V→Hp→VK→Prop:=fun x vs H Q=>∃l xs,x=.ref l∧vs=[]∧H l=some (.lst xs)∧Q .non (upd H l (.lst xs.reverse))
def eD:MtM X "list.reverse" aV:=by
 intro f' s σ H x vs v us Q I rx rv h
 obtain⟨l,xs,rfl,rfl,hH,q⟩:=h
 cases rx
 have hus:=rv.zero
 subst hus
 obtain⟨z,its,n,r,hl,e⟩:=I.lstM hH
 refine call_meets F.slot_list_reverse ⟨_,e,rfl⟩ F.entry_list_reverse (F.args_list_reverse_1 _) (AutoSeq1.list_reverse_list_0 l its.toArray n (by rw[BC];omega)) ⟨e,?_⟩
 refine⟨.non,_,I.lset (its':=its.reverse) hH e (by simp) r.reverse ?_,rfl,q⟩
 rw[BQ]
 omega
def LQ:R2:=fun x y H Q=>∃l k xs,x=.ref l∧y=.int k∧H l=some (.lst xs)∧-(2^63)≤k∧k<2^63∧xs.length*k.toNat≤sizeLine∧
 ∀p,H p=none→Q (.ref p) (upd H p (.lst (List.replicate k.toNat xs).flatten))
def XF{α:Type}(xs:List α)(k:Nat):(List.replicate k xs).flatten.length=k*xs.length:=by
 induction k with
 | zero=>simp
 | succ k ih=>rw[Cq,Cw,Bv,ih,Nat.succ_mul,Nat.add_comm]
def Us:OpR X (binaryOp .Mult) LQ:=by
 intro f' s σ H x y v u Q I rx ry h
 obtain⟨l,k,xs,rfl,rfl,hH,h1,h2,hz,q⟩:=h
 cases rx
 obtain⟨t,rfl⟩:=ry
 obtain⟨z,its,n,r,hl,e⟩:=I.lstM hH
 have hlen:its.toArray.size*k.toNat≤sizeLine:=by rw[BC,←hl];exact hz
 have hcap:¬its.toArray.size*k.toNat>(2^63-1)/8:=by
  have:(sizeLine:Nat)≤(2^63-1)/8:=by decide
  omega
 have hfit:¬(!Builtin.List.listFitsIndex k)=true:=by
  rw[fitsIndex_both h1 h2]
  exact Bw
 have hlong:¬Builtin.List.listTooLong (its.toArray.size*k.toNat)=true:=by
  rw[iz hlen]
  exact Bw
 have hnew:List.foldl (fun x1 x2=>x1++x2) #[] (List.replicate (if its.toArray.isEmpty=true then 0 else k.toNat) its.toArray)=(List.replicate k.toNat its).flatten.toArray:=by
  have f0:∀m:Nat,List.foldl (fun x1 x2=>x1++x2) #[] (List.replicate m its.toArray)=(List.replicate m its).flatten.toArray:=fun m=>by
   have:=lc its m []
   rw[List.nil_append]at this
   exact this
  rw[f0]
  cases its with
  | nil=>simp
  | cons a r'=>rw[if_neg (by simp)]
 refine wpAny_binaryOp_repeat_ref (T:="list") (U:="int") (by decide) ⟨_,e,rfl⟩ (fun s'=>typeIs_int s' k t) noFill_list_mul F.fills_int_mul F.slot_int_rmul repeat_list F.slot_int_index.lookup
  (call_meets F.slot_int_rmul (typeIs_int s k t) F.entry_int_rmul (F.args_int_rmul_2 _ _) (int___rmul___int_list k t l its.toArray n)
   ⟨e,rfl,⟨_,e,rfl⟩,call_meets F.slot_list_mul ⟨_,e,rfl⟩ F.entry_list_mul (F.args_list_mul_2 _ _) (AutoListH.list___mul___list_int_3 l its.toArray n k t hfit hcap hlong) ⟨e,?_⟩⟩)
 rw[hnew]
 exact⟨.ref _,_,I.lnew (t':=s.toks) (r.rep k.toNat) (by rw[XF,Nat.mul_comm];exact hz),rfl,q _ I.fresh⟩
end
section
set_option maxRecDepth 100000 in
end
end L2
namespace Att
open PySem PySem.W PySem.Calls PyProof.Rows
def pY{P:Params}{h:Heap}:∀(ns:List Int)(vs:List Value),WellAll P h vs (ns.map WData.int)→IntsAre vs ns:=by
 intro ns
 induction ns with
 | nil=>
  intro vs w
  rw[List.map_nil]at w
  cases w
  exact .nil
 | cons n ns ih=>
  intro vs w
  rw[Cg]at w
  cases w with
  | cons a b=>
   cases a
   exact .cons _ _ (ih _ b)
theorem bo{l:OpenLaw}{n:Nat}(hn:l.most=some n){P:Params}{h:Heap}{args:List WData}{vals:List Value}
  (hpre:l.row.toRowW.claim.pre args=true) (hwl:WellAll P h vals args):
  ∃a vs ns,vals=[Value.ref a]∧args=[WData.list (ns.map WData.int)]∧h.get? a=some { cls:=.type "list",data:=.seq vs.toArray }∧IntsAre vs ns∧ns.length≤n:=by
 have hsh:WShape.hasAll [] args [.list .int]=true:=(pre_splitW hpre).1
 have hc:l.pre.holds [] { args:=args }=true:=(pre_splitW hpre).2
 obtain⟨d,r,rfl,h1,h2⟩:=hasAllW_cons hsh
 obtain rfl:=hasAllW_nil h2
 obtain⟨xs,rfl,h3⟩:=hasW_list h1
 obtain⟨ns,rfl⟩:=items_int h3
 have hlen:ns.length≤n:=by
  unfold OpenLaw.pre at hc
  have h4:(WTm.not (.lt (.lit (.int (n:Int))) (.len (.arg 0)))).holds [] { args:=[.list (ns.map .int)] }=true:=by
   have h4:=(holds_andW hc).1
   rw[hn]at h4
   exact h4
  have h5:=condW_of h4 (w_not (w_lt w_lit (w_len_list (w_arg rfl))))
  rw[Bs]at h5
  refine Nat.le_of_not_lt fun q=>?_
  have q':(n:Int)<((ns.length:Nat):Int):=by omega
  first
   | (rw[decide_eq_true q']at h5;exact absurd h5 (by decide))
   | (simp at h5;omega)
 cases hwl with
 | cons w1 w2=>
  cases w2
  cases w1 with
  | list ho hall=>exact⟨_,_,ns,rfl,rfl,ho,pY ns _ hall,hlen⟩
def bv(l:OpenLaw)(args:List WData):l.row.toRowW.claim.post args (.bool true) args=true:=
 postW_of (r:=l.row.toRowW) (X:=(true==true))
  (show WShape.has [] (.bool true) .bool=true by first|rfl|decide|simp[WShape.has,WShape.arms,WShape.armsAll])
  (show(WTm.eq .res (.lit (.bool true))).value [] { args:=args,res:=some (.bool true),after:=args }=some (.bool (true==true)) from w_eq_bool (w_res rfl) w_lit) rfl
theorem attach_call{l:OpenLaw}{n:Nat}{q:Program}{loose:List Str}{XP:(Str→Option Value)→Heap→Prop}{YP:World→Heap→Prop}{d:DefRec}
  (hn:l.most=some n) (hdf:d.params.defaults=[])
  (call:∀(w:World)(s₀ s₁:Shared)(mg mb:be)(fa:Addr)(o:Obj)(pm cd doc:Value)(a:Addr)(vs:List Value)(ns:List Int),
   Ground q loose [] XP w s₀ mg mb s₁.heap→YP w s₁.heap→
   s₁.heap.get? fa=some o→o.data=.func (docDef d.name d.params d.body d.scope pm cd doc)→s₁.heap.CodeRec cd d.name→mg d.name=some (.ref fa)→
   s₁.heap.get? a=some { cls:=.type "list",data:=.seq vs.toArray }→IntsAre vs ns→ns.length≤n→s₁.gens=#[]→
   codeAny (model l.prog w) callerA (.call (.ref fa) ⟨[.ref a],[]⟩) (fun r s'=>r=.ok (.ret (.bool true))∧OldK s₁.heap s'.heap∧s'.os=s₁.os∧AllBare s'.gens) s₁):
  WalkO q loose XP YP l.row.toRowW d [] (fun f vs=>PySem.call f vs):=by
 intro w s₀ s₁ mg mb G Y fa o pm cd doc dV kV ho hd hcd hD hmg hg args vals as hpre hlay hrd hwl hlo
 obtain rfl:dV=.none:=Dflts.none hD hdf
 obtain rfl:kV=.none:=Dflts.noKw hD
 obtain⟨a,vs,ns,rfl,rfl,hobj,hints,hlen⟩:=bo hn hpre hwl
 refine enter_call (codeAny_mono (call w s₀ s₁ mg mb fa o pm cd doc a vs ns G Y ho (fd_plain hd) hcd hmg hobj hints hlen hg) fun r s' hq=>?_)
 obtain⟨rfl,h2,h3,h4⟩:=hq
 exact⟨.inl ⟨.bool true,.bool true,[],rfl,fun _=>rfl,.bool true,bv l _,fun _=>⟨List.Pairwise.nil,fun _ hm=>(nomatch hm)⟩⟩,h2,h3,h4⟩
section
def He(h:Heap)(L d:Addr):List (Addr×Obj):=(List.range h.objs.size).filterMap fun a=>if a=L∨a=d then none else(h.get? a).map fun o=>(a,o)
end
end Att
namespace L2
open PySem PySem.Spec PyProof.Rows
theorem mE:∀{vs:List Value}{ns:List Int},IntsAre vs ns→Vals (ns.map V.int) vs
 | _,_,.nil=>.nil
 | _,_,.cons n t h=>.cons ⟨t,rfl⟩ (mE h)
def To(H:Hp):Prop:=∀b,H b=none∨∃o xs,H b=some (.frz o (.lst xs))
theorem ZJ{P:Program}{w:World}{K:Bq}{mg mb:be}{CX:CXT}{k:Nat}{fa a:Addr}{fd:FuncData}{x:Str}{sp:Sp}{s₁:Shared}{vs:List Value}{ns:List Int}
  (KX:K.In s₁.heap) (hns:s₁.heap.Ns mainGlobals mg) (hb:s₁.heap.Ns builtinsNs mb) (hbb:∀x:Str,x≠"__name__"→mb x=bootBuiltins x) (hlim:s₁.heap.NoLimit) (hg:s₁.gens=#[])
  (ha:s₁.heap.get? a=some { cls:=.type "list",data:=.seq vs.toArray }) (hi:IntsAre vs ns) (hl:ns.length≤sizeLine) (hr:Room k callerA)
  (F:∀base:Heap,K.In base→base.Ns mainGlobals mg→FnOk P w K mg base CX k fa fd [x] sp) (hbind:∀(s:Shared)(u:Value),BindsTo s fd ⟨[u],[]⟩ [(x,u)])
  (hsp:∀H:Hp,To H→SqL K H a (ns.map V.int)→sp [.ref a] H (fun v _=>v=.bl true) fun _ _ _=>False)
  (hCX:∀H e s',CX [] H s₁ (fun _ _ _=>False) e s'→False):
  codeAny (model P w) callerA (.call (.ref fa) ⟨[.ref a],[]⟩) (fun r s'=>r=.ok (.ret (.bool true))∧OldK s₁.heap s'.heap∧s'.os=s₁.os∧AllBare s'.gens) s₁:=by
 have rv:=mE hi
 have lenV:=hi.length
 have core:∀H:Hp,To H→SqL K H a (ns.map V.int)→HOk P w H s₁.heap→(∀b,H b≠none→b=a)→(H a≠none→K.lookup a=none)→
   codeAny (model P w) callerA (.call (.ref fa) ⟨[.ref a],[]⟩) (fun r s'=>r=.ok (.ret (.bool true))∧OldK s₁.heap s'.heap∧s'.os=s₁.os∧AllBare s'.gens) s₁:=by
  intro H hO hS hok hA hK
  have base_of:∀{b:Addr}{o:Obj},s₁.heap.get? b=some o→H b=none→(kQ s₁.heap H).get? b=some o:=fun e n=>ZN e n
  have noA:∀{b:Addr}{o:Obj}{es:Array DictEntry}{ep:Nat},s₁.heap.get? b=some o→o.data=.dict es ep→H b=none:=fun{b o es ep} e d=>by
   cases q:H b with
   | none=>rfl
   | some u=>
    have e':b=a:=hA b (by rw[q];simp)
    subst e'
    rw[ha]at e;cases e
    have d':Data.seq vs.toArray _=Data.dict es ep:=d
    cases d'
  have nsK:∀{b:Addr}{m:be},s₁.heap.Ns b m→(kQ s₁.heap H).Ns b m:=fun{b m} ⟨o,es,ep,e,d,r⟩=>⟨o,es,ep,base_of e (noA e d),d,r⟩
  have hKb:K.In (kQ s₁.heap H):=fun b o e=>base_of (KX b o e) (by
   cases q:H b with
   | none=>rfl
   | some u=>
    have e':b=a:=hA b (by rw[q];simp)
    subst e'
    rw[hK (by rw[q];simp)]at e;cases e)
  have hM:Mod K mg (kQ s₁.heap H):=⟨hKb,nsK hns,⟨mb,nsK hb,hbb⟩,let⟨mc,h1,h2⟩:=hlim; ⟨mc,nsK h1,h2⟩⟩
  have e0:Env0 P w K mg (kQ s₁.heap H) callerA [] s₁ H:=⟨rfl,hM,fun b o e=>Xy e,Nat.le_of_eq (bL _ _),trivial,fun b hb=>absurd (show b∈([]:List Addr) from hb) (by simp),hok,.of_eq hg⟩
  refine codeAny_mono ((F _ hKb (nsK hns)).run callerA [] s₁ H ⟨[.ref a],[]⟩ [.ref a] [.ref a] _ _ hr e0 (hbind s₁ (.ref a)) (.cons rfl .nil) (hsp H hO hS)) fun r s' h=>?_
  cases r with
  | error e=>exact(hCX H e s' h).elim
  | ok fl=>
   cases fl with
   | next=>exact False.elim h
   | brk=>exact False.elim h
   | cont=>exact False.elim h
   | ret u=>
    obtain⟨v,H',os,bare,un,hok',r',q⟩:=h
    have q':v=.bl true:=q
    subst q'
    obtain rfl:u=Value.bool true:=r'
    refine⟨rfl,OldK.of_keep fun b o e=>?_,os,bare⟩
    cases q:H b with
    | none=>exact un.keep b o e q (by intro z;exact absurd (show b∈([]:List Addr) from z) (by simp)) (by simp)
    | some u=>
     rcases hO b with z|⟨ob,xs,z⟩
     ·rw[q]at z;cases z
     ·have z2:=un.frzs b ob _ z
      obtain⟨e1,_⟩:=hok b _ z
      obtain⟨e2,_⟩:=hok' b _ z2
      rw[e]at e1;cases e1
      exact e2
 cases hk:K.lookup a with
 | some o=>
  have e:=KX a o hk
  rw[ha]at e
  cases e
  refine core (fun _=>none) (fun _=>.inl rfl) (.inr ⟨_,vs.toArray,_,hk,rfl,rfl,rfl,by rw[List.size_toArray,lenV];exact hl,by simpa using rv⟩) (fun b u z=>by have z':(none:Option HO)=some u:=z;cases z') (fun b z=>absurd rfl z) fun z=>absurd rfl z
 | none=>
  refine core (fun b=>if b=a then some (.frz { cls:=.type "list",data:=.seq vs.toArray } (.lst (ns.map V.int))) else none) (fun b=>?_) (.inl (.inr ⟨{ cls:=.type "list",data:=.seq vs.toArray },if_pos rfl⟩)) (fun b u z=>?_) (fun b z=>?_) fun _=>hk
  ·by_cases hb:b=a
   ·exact .inr ⟨_,_,if_pos hb⟩
   ·exact .inl (if_neg hb)
  ·by_cases hb:b=a
   ·have z':=(if_pos hb).symm.trans z
    cases z'
    subst hb
    exact⟨ha,by rw[Bs];exact hl,vs,_,rv,ha⟩
   ·have z':=(if_neg hb).symm.trans z
    cases z'
  ·by_cases hb:b=a
   ·exact hb
   ·exact absurd (if_neg hb) z
abbrev KOf{K:Bq}{h:Heap}(_:K.In h):PySem.W.Frag:=K
theorem walk_of{l:PySem.W.OpenLaw}{n k:Nat}{q:Program}{loose:List Str}{XP:(Str→Option Value)→Heap→Prop}{YP:World→Heap→Prop}{d:DefRec}{K:Params→PySem.W.Frag}{CX:World→CXT}{sp:World→Sp}{x:Str}
  (hn:l.most=some n) (hn2:n≤sizeLine) (hdf:d.params.defaults=[]) (hr:Room k callerA)
  (hY:∀(w:World)(h:Heap),YP w h→(K w.params).In h)
  (F:∀(w:World)(mg:be)(fa:Addr)(h:Heap),(K w.params).In h→h.Ns mainGlobals mg→mg d.name=some (.ref fa)→
   ∃fd:FuncData,(∀(s:Shared)(u:Value),BindsTo s fd ⟨[u],[]⟩ [(x,u)])∧
    ∀base:Heap,(K w.params).In base→base.Ns mainGlobals mg→FnOk l.prog w (K w.params) mg base (CX w) k fa fd [x] (sp w))
  (hsp:∀(w:World)(H:Hp)(a:Addr)(ns:List Int),ns.length≤n→To H→SqL (K w.params) H a (ns.map V.int)→sp w [.ref a] H (fun v _=>v=.bl true) fun _ _ _=>False)
  (hCX:∀(w:World)(H:Hp)(s:Shared)(e:Value)(s':Shared),CX w [] H s (fun _ _ _=>False) e s'→False):
  PySem.W.WalkO q loose XP YP l.row.toRowW d [] (fun f vs=>PySem.call f vs):=by
 refine Att.attach_call hn hdf fun w s₀ s₁ mg mb fa o pm cd doc a vs ns G Y ho hd hcd hmg hobj hints hlen hg=>?_
 have KX:=hY w _ Y
 obtain⟨fd,hb,hF⟩:=F w mg fa _ KX G.T.g hmg
 exact ZJ KX G.T.g G.T.b G.T.builtins G.T.nolimit hg hobj hints (BS hlen hn2) hr hF hb (fun H hO hS=>hsp w H a ns hlen hO hS) fun H e s'=>hCX w H s₁ e s'
def inClass(s:Stmt)(j:Nat):Stmt:=match s with
 | .ClassDef _ _ _ body _ _ _ _ _ _ _=>body.getD j (.Pass ⟨0,0,0,0⟩)
 | _=>.Pass ⟨0,0,0,0⟩
def defArgs(s:Stmt):Arguments:=match s with
 | .FunctionDef _ a _ _ _ _ _ _ _ _=>a
 | _=>{ posonlyargs:=[],args:=[],vararg:=none,kwonlyargs:=[],kw_defaults:=[],kwarg:=none,defaults:=[] }
def defBody(s:Stmt):List Stmt:=match s with
 | .FunctionDef _ _ b _ _ _ _ _ _ _=>b
 | _=>[]
def defScope(s:Stmt):Scope:=match s with
 | .FunctionDef _ _ _ _ _ _ sc _ _ _=>sc
 | _=>{ kind:=.function,names:=[],isGenerator:=false,isCoroutine:=false }
abbrev CX0:CXT:=fun _ _ _ _ _ _=>False
abbrev E0:XK:=fun _ _ _=>False
def oX{X:Cx}:nR CX0 X E0:=fun _ _ _ _ _ _ _ h=>h.elim
structure Fun(K:Bq)(x qual:Str)(st:Stmt)(f:Addr)(fd:FuncData):Prop where
 ex:∃(oc:Value)(od:Option Addr)(kV doc pm:Value)(an:Option Addr)(cdv ct:Value)(osl:Array (Option Value)),
  fd=PySem.W.fnOf x qual (defArgs st) (defBody st) (defScope st) .none kV doc pm an cdv ct∧K.lookup f=some ⟨oc,od,.func fd,osl⟩∧PySem.W.codeIn K cdv qual=true
 kp:PySem.W.keepIn K (.ref f)=true
section
variable{P:Program}{w:World}{K:Bq}{mg:be}{base:Heap}
theorem Fun.ok{x qual:Str}{st:Stmt}{f:Addr}{fd:FuncData}{N ps:List Str}{k:Nat}{sp:Sp}(F:Fun K x qual st f fd)(S:zk N ps (defScope st))(len:∀vs H Q E,sp vs H Q E→vs.length=ps.length)
  (hbody:∀(cdv:Value)(A:Around)(outer:List Env)(s:Shared)(H:Hp)(vs:List V)(Q:VK)(E:XK),Room k (A.deeper (envOfC qual (defScope st) s.heap.objs.size f cdv))→sp vs H Q E→
   ∃t,PSs (ub CX0 P w K mg base N qual (defScope st) f cdv A outer s H E).nox (defBody st) t∧t { nx:=fun _ H'=>Q .non H',rt:=Q } (start N vs) H):FnOk P w K mg base CX0 (k+1) f fd ps sp:=by
 obtain⟨oc,od,kV,doc,pm,an,cdv,ct,osl,rfl,lk,hcd⟩:=F.ex
 refine Mx lk hcd S len fun A outer s H vs Q E hr hsp=>?_
 obtain⟨t,h,q⟩:=hbody cdv A outer s H vs Q E hr hsp
 exact⟨t,h.nox,q⟩
theorem Fun.binds{x qual:Str}{st:Stmt}{f:Addr}{fd:FuncData}{ps:List Str}(F:Fun K x qual st f fd)
  (h:∀(kV doc pm:Value)(an:Option Addr)(cdv ct:Value)(us:List Value),us.length=ps.length→bindArgs (PySem.W.fnOf x qual (defArgs st) (defBody st) (defScope st) .none kV doc pm an cdv ct) ⟨us,[]⟩=pure (ps.zip us)):Binds K fd ps []:=by
 obtain⟨oc,od,kV,doc,pm,an,cdv,ct,osl,rfl,lk,hcd⟩:=F.ex
 exact .all (h kV doc pm an cdv ct)
theorem eQ{x qual:Str}{st:Stmt}{f:Addr}{oc:Value}{od an:Option Addr}{osl:Array (Option Value)}{kV doc pm cdv ct:Value}(l:K.lookup f=some ⟨oc,od,.func (PySem.W.fnOf x qual (defArgs st) (defBody st) (defScope st) .none kV doc pm an cdv ct),osl⟩)
  (c:PySem.W.codeIn K cdv qual=true) (k:PySem.W.keepIn K (.ref f)=true):Fun K x qual st f (PySem.W.fnOf x qual (defArgs st) (defBody st) (defScope st) .none kV doc pm an cdv ct):=⟨⟨oc,od,kV,doc,pm,an,cdv,ct,osl,rfl,l,c⟩,k⟩
end
section
variable{X:Cx}
def pv(i:Nat){x:Str}{pos:Pos}(hN:X.N[i]? = some x:=by rfl)(hv:Vis X.env.scope x:=by walk_at "v")(hd:ug x:=by decide)
  (hcd:we x:=by decide):PE X (.Name x pos) (YT i):=xa hN hv hd hcd
end
def Hi{A B:Prop}(h:B):if false=true then A else B:=by
 rw[if_neg Bw]
 exact h
def Hh{A B:Prop}(h:A):if true=true then A else B:=by
 rw[if_pos rfl]
 exact h
def Hj{c A B:Prop}[Decidable c](h1:c→A)(h2:¬c→B):if c then A else B:=by
 by_cases h:c
 ·rw[if_pos h]
  exact h1 h
 ·rw[if_neg h]
  exact h2 h
def Same(H H':Hp):Prop:=∀b o,H b=some o→H' b=some o
def Same.refl(H:Hp):Same H H:=fun _ _ h=>h
def Same.trans{H H1 H2:Hp}(a:Same H H1)(b:Same H1 H2):Same H H2:=fun c o h=>b c o (a c o h)
def Same.free{H H':Hp}(e:Same H H'){l:Addr}(h:H' l=Option.none):H l=Option.none:=by
 cases q:H l with
 | none=>rfl
 | some o=>
  rw[e l o q]at h
  cases h
def Same.seq{K:Bq}{H H':Hp}{a:Addr}{xs:List V}(e:Same H H')(h:SqL K H a xs):SqL K H' a xs:=by
 rcases h with (h|⟨o,h⟩)|h
 ·exact .inl (.inl (e _ _ h))
 ·exact .inl (.inr ⟨o,e _ _ h⟩)
 ·exact .inr h
end L2
set_option maxRecDepth 1000000
set_option maxHeartbeats 0
open PySem in
def My.top(i:Nat):Stmt:=PySem.Challenge.pw_oddbases_k59_rows_answered.main.body.getD i (.Pass ⟨0,0,0,0⟩)
def My.T_(a n:Nat):List PySem.Stmt:=(List.range' a n).map My.top
noncomputable section
open PySem My
namespace My
noncomputable abbrev v_:Option Value:=some (.ref 6)
noncomputable abbrev g_:Array GenState:=⟨[]⟩
noncomputable abbrev d_:=@Drawn.mk 0 0 0 0
noncomputable abbrev P_:=@Pos.mk
noncomputable abbrev N_(o:Params→Obj)(a b:Params→W.BT)(x:Params):W.BT:=.node (o x) (a x) (b x)
noncomputable def q_{α:Type}(x:Params)(l:List (Params→α)):List α:=l.map fun f=>f x
noncomputable abbrev Z_(_:Params):W.BT:=.nil
noncomputable abbrev L_(o:Params→Obj):=N_ o Z_ Z_
def sg_{tb p w n₀ ann b}{n:Nat}{s s':W.SharedT}{t:Thread}{f:Flow}{c:Code}{q:Pos}(h:W.segRunT tb p w n₀ ann b n s t=some (f,s',c,q)):W.segRun tb p w n₀ ann b n s.abs t=some (f,s'.abs,c,q):=W.segRun_of h
noncomputable abbrev p_(a:String)(b:Nat):Value:=.str (.ofString a) b
noncomputable abbrev j_(a:Int)(b:Nat):Value:=.int a b
noncomputable abbrev r_(a:Nat):Value:=.ref a
noncomputable abbrev e_(x:Params)(a:String)(b:Nat)(v:Value):DictEntry:=⟨PyData.keyHash x (.ofString a),.str (.ofString a) b,v⟩
noncomputable abbrev t0(a1:String)(a3:Nat)(a7:String)(a8 a9:Nat)(x:Params):Obj:=(@Obj.mk (.type "function") none (@Data.func (@FuncData.mk (.ofString a1) (.ofString a1) (L2.defArgs (My.top a3)) (@FuncBody.stmts (L2.defBody (My.top a3))) (L2.defScope (My.top a3)) 3 (@List.nil (@Prod @Str @Nat)) .none .none .none (p_ a7 a8) none (r_ a9) .none 0)) #[])
noncomputable abbrev t1(a1:String)(a2:Nat)(a3:String)(a4 a6:Nat)(a7 a9:Int)(a17 a20 a21 a22 a23:Nat)(a24:Int)(a29:Nat)(x:Params):Obj:=(@Obj.mk (.type "code") none (@Data.fields (List.toArray [(p_ a1 a2),(p_ a3 a4),(p_ "/claim/cut.py" a6),(j_ a7 0),(j_ a9 0),(j_ 0 0),(j_ 0 0),(j_ 3 0),(r_ a17),(.bool @Bool.true),(j_ 181 0),(r_ a20),.none,(r_ a21),(r_ a22),(r_ a23),(j_ a24 0),(j_ a7 0),(p_ "/claim/cut.py" a29)])) #[])
noncomputable abbrev t2(a0:String)(a2:Nat)(x:Params):Obj:=(@Obj.mk .none none (@Data.func (@FuncData.mk (.ofString a0) (.ofString a0) (L2.defArgs (My.top a2)) (@FuncBody.stmts (L2.defBody (My.top a2))) (L2.defScope (My.top a2)) 0 (@List.nil (@Prod @Str @Nat)) .none .none .none .none none .none .none 0)) #[])
noncomputable abbrev t3(x:Params):Obj:=(@Obj.mk (.type "tuple") none (@Data.seq #[] 0) #[])
noncomputable abbrev t4(a1:String)(a2:Nat)(a3:String)(a4:Nat)(x:Params):Obj:=(@Obj.mk (.type "tuple") none (@Data.seq (List.toArray [(p_ a1 a2),(p_ a3 a4)]) 0) #[])
noncomputable abbrev t5(x:Params):Obj:=(@Obj.mk .none none (@Data.fields #[]) #[])
noncomputable abbrev t6(a1:String)(a2:Nat)(a3:String)(a4:Nat)(a5:String)(a6:Nat)(a7:String)(a8:Nat)(a9:String)(a10:Nat)(a11:String)(a12:Nat)(a13:String)(a14:Nat)(a15:String)(a16:Nat)(x:Params):Obj:=(@Obj.mk (.type "tuple") none (@Data.seq (List.toArray [(p_ a1 a2),(p_ a3 a4),(p_ a5 a6),(p_ a7 a8),(p_ a9 a10),(p_ a11 a12),(p_ a13 a14),(p_ a15 a16)]) 0) #[])
noncomputable abbrev t7(a1:String)(a2:Nat)(a3:String)(a4:Nat)(a5:String)(a6:Nat)(a7:String)(a8:Nat)(a9:String)(a10:Nat)(a11:String)(a12:Nat)(a13:String)(a14:Nat)(x:Params):Obj:=(@Obj.mk (.type "tuple") none (@Data.seq (List.toArray [(p_ a1 a2),(p_ a3 a4),(p_ a5 a6),(p_ a7 a8),(p_ a9 a10),(p_ a11 a12),(p_ a13 a14)]) 0) #[])
noncomputable abbrev t8(a1:String)(a2:Nat)(a3:String)(a4:Nat)(a5:String)(a6:Nat)(a7:String)(a8:Nat)(a9:String)(a10:Nat)(a11:String)(a12:Nat)(x:Params):Obj:=(@Obj.mk (.type "tuple") none (@Data.seq (List.toArray [(p_ a1 a2),(p_ a3 a4),(p_ a5 a6),(p_ a7 a8),(p_ a9 a10),(p_ a11 a12)]) 0) #[])
noncomputable abbrev t9(a1:String)(a2:Nat)(a3:String)(a4:Nat)(a5:String)(a6:Nat)(a7:String)(a8:Nat)(x:Params):Obj:=(@Obj.mk (.type "tuple") none (@Data.seq (List.toArray [(p_ a1 a2),(p_ a3 a4),(p_ a5 a6),(p_ a7 a8)]) 0) #[])
noncomputable abbrev t10(a1:String)(a2:Nat)(x:Params):Obj:=(@Obj.mk (.type "tuple") none (@Data.seq (List.toArray [(p_ a1 a2)]) 0) #[])
noncomputable abbrev t11(a1:String)(a2:Nat)(a3:String)(a4:Nat)(a5:String)(a6:Nat)(x:Params):Obj:=(@Obj.mk (.type "tuple") none (@Data.seq (List.toArray [(p_ a1 a2),(p_ a3 a4),(p_ a5 a6)]) 0) #[])
noncomputable abbrev t12(a1:String)(a2 a4 a6:Nat)(a7 a9:Int)(a17 a20 a21:Nat)(a22:Int)(a27:Nat)(x:Params):Obj:=(@Obj.mk (.type "code") none (@Data.fields (List.toArray [(p_ a1 a2),(p_ a1 a4),(p_ "/claim/cut.py" a6),(j_ a7 0),(j_ a9 0),(j_ 0 0),(j_ 0 0),(j_ 3 0),(r_ a17),(.bool @Bool.true),(j_ 181 0),(r_ a20),.none,.none,.none,(r_ a21),(j_ a22 0),(j_ a7 0),(p_ "/claim/cut.py" a27)])) #[])
noncomputable abbrev t13(a1:String)(a2:Nat)(a3:String)(a4:Nat)(a5:String)(a6:Nat)(a7:String)(a8:Nat)(a9:String)(a10:Nat)(x:Params):Obj:=(@Obj.mk (.type "tuple") none (@Data.seq (List.toArray [(p_ a1 a2),(p_ a3 a4),(p_ a5 a6),(p_ a7 a8),(p_ a9 a10)]) 0) #[])
noncomputable abbrev t14(a2:Nat)(x:Params):Obj:=(@Obj.mk (.type "builtin_function_or_method") none (@Data.fields (List.toArray [(.builtin "object.__init_subclass__"),(r_ a2)])) #[])
noncomputable abbrev t15(a1:Nat)(x:Params):Obj:=(@Obj.mk (.type "super") none (@Data.fields (List.toArray [(r_ a1),(r_ a1),(r_ a1)])) #[])
noncomputable abbrev t16(a1:String)(a3 a6 a8 a10 a12:Nat)(x:Params):Obj:=(@Obj.mk (.type "type") none (@Data.cls (@ClassData.mk (.ofString a1) [(r_ 241)] [(r_ a3),(r_ 241),(.type "object")] a6 (.ofString a1) @Bool.true [] [] @Bool.false (@Option.none @Bool) @Bool.false)) (@List.toArray (@Option @Value) [(some (r_ a8)),none,(some (p_ a1 a10)),(some (p_ a1 a12)),(some (.builtin "object.__new__")),(some (.bool @Bool.true))]))
noncomputable abbrev t17(a1 a2:String)(a3 a4 a12:Nat)(x:Params):Obj:=(@Obj.mk (.type "function") none (@Data.func (@FuncData.mk (.ofString a1) (.ofString a2) (L2.defArgs (L2.inClass (My.top a3) a4)) (@FuncBody.stmts (L2.defBody (L2.inClass (My.top a3) a4))) (L2.defScope (L2.inClass (My.top a3) a4)) 3 (@List.nil (@Prod @Str @Nat)) .none .none .none (p_ "oddbases.ways" 410) none (r_ a12) .none 0)) #[])
noncomputable abbrev t18(a0 a1:String)(a2 a3:Nat)(x:Params):Obj:=(@Obj.mk .none none (@Data.func (@FuncData.mk (.ofString a0) (.ofString a1) (L2.defArgs (L2.inClass (My.top a2) a3)) (@FuncBody.stmts (L2.defBody (L2.inClass (My.top a2) a3))) (L2.defScope (L2.inClass (My.top a2) a3)) 0 (@List.nil (@Prod @Str @Nat)) .none .none .none .none none .none .none 0)) #[])
noncomputable abbrev t19(a1 a3:Nat)(a4:String)(a5:Nat)(x:Params):Obj:=(@Obj.mk (.type "frame") none @Data.plain (@List.toArray (@Option @Value) [(some (r_ a1)),(some (r_ 3)),(some (r_ a3)),none,(some (p_ a4 a5)),none,(some (r_ 0))]))
noncomputable abbrev t20(a1:String)(a2 a4 a6:Nat)(a7:Int)(a17 a20:Nat)(a21:Int)(a26:Nat)(x:Params):Obj:=(@Obj.mk (.type "code") none (@Data.fields (List.toArray [(p_ a1 a2),(p_ a1 a4),(p_ "/claim/cut.py" a6),(j_ a7 0),(j_ 0 0),(j_ 0 0),(j_ 0 0),(j_ 0 0),(r_ a17),(.bool @Bool.false),(j_ 181 0),(r_ a20),.none,.none,.none,.none,(j_ a21 0),(j_ a7 0),(p_ "/claim/cut.py" a26)])) #[])
noncomputable abbrev t21(a0:Int)(a4:Nat)(a5:Int)(a9:Nat)(a10:Int)(a14:Nat)(a15:Int)(a19:Nat)(a20:Int)(a24:Nat)(a25:Int)(a29:Nat)(x:Params):Obj:=(@Obj.mk .none none (@Data.fields (List.toArray [(j_ a0 0),(j_ 4 0),(r_ a4),(j_ a5 0),(j_ 4 0),(r_ a9),(j_ a10 0),(j_ 4 0),(r_ a14),(j_ a15 0),(j_ 4 0),(r_ a19),(j_ a20 0),(j_ 4 0),(r_ a24),(j_ a25 0),(j_ 4 0),(r_ a29)])) #[])
noncomputable abbrev t22(a3 a8:Nat)(a9:String)(a10 a13:Nat)(a14:Int)(a15:Nat)(a16:String)(a18 a19:Nat)(a20:String)(a22 a23:Nat)(a24:String)(a26 a27:Nat)(a28:String)(a30 a31 a34 a35 a38 a39 a42 a43:Nat)(x:Params):Obj:=(@Obj.mk (.type "dict") none (@Data.dict (List.toArray [(e_ x "__module__" a3 (p_ "oddbases.ways" 410)),(e_ x "__qualname__" a8 (p_ a9 a10)),(e_ x "__firstlineno__" a13 (j_ a14 a15)),(e_ x a16 a18 (r_ a19)),(e_ x a20 a22 (r_ a23)),(e_ x a24 a26 (r_ a27)),(e_ x a28 a30 (r_ a31)),(e_ x "split" a34 (r_ a35)),(e_ x "has" a38 (r_ a39)),(e_ x "__static_attributes__" a42 (r_ a43))]) 10) #[])
noncomputable abbrev t23(x:Params):Obj:=(@Obj.mk (.type "builtin_function_or_method") none (@Data.fields (List.toArray [(.builtin "type.__prepare__"),(.type "type")])) #[])
noncomputable abbrev t24(a1:Nat)(x:Params):Obj:=(@Obj.mk (.type "tuple") none (@Data.seq (List.toArray [(r_ a1)]) 0) #[])
noncomputable abbrev t25(a3 a8:Nat)(a9:Int)(a10 a13 a14:Nat)(a15:String)(a17 a18:Nat)(a19:String)(a21 a22 a25 a26:Nat)(a27:String)(a29 a30 a33 a34 a37:Nat)(x:Params):Obj:=(@Obj.mk (.type "dict") none (@Data.dict (List.toArray [(e_ x "__module__" a3 (p_ "oddbases.ways" 410)),(e_ x "__firstlineno__" a8 (j_ a9 a10)),(e_ x "__init__" a13 (r_ a14)),(e_ x a15 a17 (r_ a18)),(e_ x a19 a21 (r_ a22)),(e_ x "ratio" a25 (r_ a26)),(e_ x a27 a29 (r_ a30)),(e_ x "__static_attributes__" a33 (r_ a34)),(e_ x "__doc__" a37 .none)]) 2) #[])
noncomputable abbrev t26(a0:Int)(a4:Nat)(a5:Int)(a9:Nat)(a10:Int)(a14:Nat)(a15:Int)(a19:Nat)(a20:Int)(a24:Nat)(x:Params):Obj:=(@Obj.mk .none none (@Data.fields (List.toArray [(j_ a0 0),(j_ 4 0),(r_ a4),(j_ a5 0),(j_ 4 0),(r_ a9),(j_ a10 0),(j_ 4 0),(r_ a14),(j_ a15 0),(j_ 4 0),(r_ a19),(j_ a20 0),(j_ 4 0),(r_ a24)])) #[])
noncomputable abbrev t27(a3 a8:Nat)(a9:String)(a10 a13:Nat)(a14:Int)(a15 a18 a19:Nat)(a20:String)(a22 a23:Nat)(a24:String)(a26 a27 a30 a31:Nat)(a32:String)(a34 a35 a38 a39:Nat)(x:Params):Obj:=(@Obj.mk (.type "dict") none (@Data.dict (List.toArray [(e_ x "__module__" a3 (p_ "oddbases.ways" 410)),(e_ x "__qualname__" a8 (p_ a9 a10)),(e_ x "__firstlineno__" a13 (j_ a14 a15)),(e_ x "__init__" a18 (r_ a19)),(e_ x a20 a22 (r_ a23)),(e_ x a24 a26 (r_ a27)),(e_ x "ratio" a30 (r_ a31)),(e_ x a32 a34 (r_ a35)),(e_ x "__static_attributes__" a38 (r_ a39))]) 9) #[])
noncomputable abbrev t28(a3 a8:Nat)(a9:Int)(a10 a13 a14 a17 a18 a21 a22 a25 a26 a29:Nat)(x:Params):Obj:=(@Obj.mk (.type "dict") none (@Data.dict (List.toArray [(e_ x "__module__" a3 (p_ "oddbases.ways" 410)),(e_ x "__firstlineno__" a8 (j_ a9 a10)),(e_ x "__init__" a13 (r_ a14)),(e_ x "high" a17 (r_ a18)),(e_ x "ratio" a21 (r_ a22)),(e_ x "__static_attributes__" a25 (r_ a26)),(e_ x "__doc__" a29 .none)]) 2) #[])
noncomputable abbrev t29(a0:Int)(a4:Nat)(a5:Int)(a9:Nat)(a10:Int)(a14:Nat)(x:Params):Obj:=(@Obj.mk .none none (@Data.fields (List.toArray [(j_ a0 0),(j_ 4 0),(r_ a4),(j_ a5 0),(j_ 4 0),(r_ a9),(j_ a10 0),(j_ 4 0),(r_ a14)])) #[])
noncomputable abbrev t30(a3 a8:Nat)(a9:String)(a10 a13:Nat)(a14:Int)(a15 a18 a19 a22 a23 a26 a27 a30 a31:Nat)(x:Params):Obj:=(@Obj.mk (.type "dict") none (@Data.dict (List.toArray [(e_ x "__module__" a3 (p_ "oddbases.ways" 410)),(e_ x "__qualname__" a8 (p_ a9 a10)),(e_ x "__firstlineno__" a13 (j_ a14 a15)),(e_ x "__init__" a18 (r_ a19)),(e_ x "high" a22 (r_ a23)),(e_ x "ratio" a26 (r_ a27)),(e_ x "__static_attributes__" a30 (r_ a31))]) 7) #[])
noncomputable abbrev t31(a2 a3:Nat)(x:Params):Obj:=(@Obj.mk (.type "getset_descriptor") none (@Data.fields (List.toArray [(p_ "__weakref__" a2),(r_ a3),(.builtin "ExceptionGroup.__weakref__"),.none])) #[])
noncomputable abbrev t32(a1:String)(a3 a9 a11 a13 a15:Nat)(x:Params):Obj:=(@Obj.mk (.type "type") none (@Data.cls (@ClassData.mk (.ofString a1) [(r_ 24)] [(r_ a3),(r_ 24),(.type "ValueError"),(.type "Exception"),(.type "BaseException"),(.type "object")] a9 (.ofString a1) @Bool.true [] [] @Bool.false (@Option.none @Bool) @Bool.false)) (@List.toArray (@Option @Value) [(some (r_ a11)),none,(some (p_ a1 a13)),(some (p_ a1 a15)),(some (.builtin "ValueError.__new__")),(some (.bool @Bool.true))]))
noncomputable abbrev t33(a3 a8:Nat)(a9:Int)(a10 a13 a14 a17:Nat)(x:Params):Obj:=(@Obj.mk (.type "dict") none (@Data.dict (List.toArray [(e_ x "__module__" a3 (p_ "oddbases.errors" 187)),(e_ x "__firstlineno__" a8 (j_ a9 a10)),(e_ x "__static_attributes__" a13 (r_ a14)),(e_ x "__doc__" a17 .none)]) 2) #[])
noncomputable abbrev t34(a3 a8:Nat)(a9:String)(a10 a13:Nat)(a14:Int)(a15 a18 a19:Nat)(x:Params):Obj:=(@Obj.mk (.type "dict") none (@Data.dict (List.toArray [(e_ x "__module__" a3 (p_ "oddbases.errors" 187)),(e_ x "__qualname__" a8 (p_ a9 a10)),(e_ x "__firstlineno__" a13 (j_ a14 a15)),(e_ x "__static_attributes__" a18 (r_ a19))]) 4) #[])
abbrev U50(x:Params):DictEntry:=(e_ x "Way" 494 (r_ 241))
abbrev U49(x:Params):DictEntry:=(e_ x "NoWay" 222 (r_ 37))
abbrev U48(x:Params):DictEntry:=(e_ x "__doc__" 166 .none)
abbrev U47(x:Params):DictEntry:=(e_ x "Below" 584 (r_ 316))
abbrev U46(x:Params):DictEntry:=(e_ x "Plain" 535 (r_ 276))
abbrev U45(x:Params):DictEntry:=(e_ x "added" 399 (r_ 175))
abbrev U44(x:Params):DictEntry:=(e_ x "NoRow" 366 (r_ 145))
abbrev U43(x:Params):DictEntry:=(e_ x "__spec__" 169 .none)
abbrev U42(x:Params):DictEntry:=(e_ x "NoText" 350 (r_ 133))
abbrev U41(x:Params):DictEntry:=(e_ x "Nought" 334 (r_ 121))
abbrev U40(x:Params):DictEntry:=(e_ x "NoRatio" 286 (r_ 85))
abbrev U39(x:Params):DictEntry:=(e_ x "TooLess" 270 (r_ 73))
abbrev U38(x:Params):DictEntry:=(e_ x "bounded" 420 (r_ 189))
abbrev U37(x:Params):DictEntry:=(e_ x "as_pair" 389 (r_ 168))
abbrev U36(x:Params):DictEntry:=(e_ x "is_pair" 382 (r_ 161))
abbrev U35(x:Params):DictEntry:=(e_ x "NoPairs" 318 (r_ 109))
abbrev U34(x:Params):DictEntry:=(e_ x "NoNumber" 238 (r_ 49))
abbrev U33(x:Params):DictEntry:=(e_ x "OddError" 206 (r_ 24))
abbrev U32(x:Params):DictEntry:=(e_ x "__cached__" 174 .none)
abbrev U31(x:Params):DictEntry:=(e_ x "is_whole" 375 (r_ 154))
abbrev U30(x:Params):DictEntry:=(e_ x "NoFalling" 302 (r_ 97))
abbrev U29(x:Params):DictEntry:=(e_ x "NoWriting" 254 (r_ 61))
abbrev U28(x:Params):DictEntry:=(e_ x "__package__" 167 .none)
abbrev U27(x:Params):DictEntry:=(e_ x "multiplied" 409 (r_ 182))
abbrev U26(x:Params):DictEntry:=(e_ x "__builtins__" 171 (r_ 4))
abbrev U25(x:Params):DictEntry:=(e_ x "whole_read" 1234 (r_ 787))
abbrev U24(x:Params):DictEntry:=(e_ x "number_read" 1242 (r_ 794))
abbrev U23(x:Params):DictEntry:=(e_ x "whole_shown" 1204 (r_ 761))
abbrev U22(x:Params):DictEntry:=(e_ x "written_row" 1006 (r_ 632))
abbrev U21(x:Params):DictEntry:=(e_ x "number_shown" 1211 (r_ 768))
abbrev U20(x:Params):DictEntry:=(e_ x "lender_above" 1118 (r_ 705))
abbrev U19(x:Params):DictEntry:=(e_ x "__annotations__" 170 (r_ 6))
abbrev U18(x:Params):DictEntry:=(e_ x "without_debts" 1137 (r_ 719))
abbrev U17(x:Params):DictEntry:=(e_ x "times_by_ratio" 1149 (r_ 726))
abbrev U16(x:Params):DictEntry:=(e_ x "times_in_falling" 1162 (r_ 733))
abbrev U15(x:Params):DictEntry:=(e_ x "has_figures_alone" 941 (r_ 780))
abbrev U14(x:Params):DictEntry:=(e_ x "steps_and_writing" 898 (r_ 555))
abbrev U13(x:Params):DictEntry:=(e_ x "held_to_be_a_heap" 843 (r_ 520))
abbrev U12(x:Params):DictEntry:=(e_ x "written_by_weights" 990 (r_ 618))
abbrev U11(x:Params):DictEntry:=(e_ x "quotients_and_rest" 1085 (r_ 681))
abbrev U10(x:Params):DictEntry:=(e_ x "quotients_by_ratio" 1062 (r_ 667))
abbrev U9(x:Params):DictEntry:=(e_ x "held_to_be_writings" 968 (r_ 604))
abbrev U8(x:Params):DictEntry:=(e_ x "figures_and_carries" 921 (r_ 569))
abbrev U7(x:Params):DictEntry:=(e_ x "quotients_in_falling" 1076 (r_ 674))
abbrev U6(x:Params):DictEntry:=(e_ x "FIGURES" 1194 (p_ "0123456789" 1193))
abbrev U5(x:Params):DictEntry:=(e_ x "has_figures_alone_texts" 1226 (r_ 780))
abbrev U4(x:Params):DictEntry:=(e_ x "__file__" 173 (p_ "/claim/cut.py" 172))
abbrev U3(x:Params):DictEntry:=(e_ x "has_figures_alone_writings" 942 (r_ 583))
abbrev U2(x:Params):DictEntry:=(e_ x "has_mosts_above_noughts_alone" 951 (r_ 590))
abbrev U1(x:Params):DictEntry:=(e_ x "__loader__" 168 (.builtin "__main__.__loader__#opaque"))
abbrev U0(x:Params):DictEntry:=(e_ x "__name__" 165 (p_ "law_oddbases_k59_rows_answered" 1349))
def WB:=t0 "law" 114 "law_oddbases_k59_rows_answered" 1349 996
def WC:=t1 "law" 1552 "law" 1553 1554 695 1 991 992 993 994 995 1557 1558
def NZ:=t2 "law" 114
def zc:=t3
def WD:=t4 "_law_script" 1555 "_law_cell" 1556
def zu:=t5
def WE:=t0 "_law_answered" 113 "law_oddbases_k59_rows_answered" 1349 989
def WF:=t1 "_law_answered" 1538 "_law_answered" 1539 1540 676 1 984 985 986 987 988 1549 1550
def N1:=t2 "_law_answered" 113
def WG:=t6 "_law_cell" 1541 "_law_way_here" 1542 "_law_head" 1543 "_law_one" 1544 "_law_other" 1545 "_law_word" 1546 "_law_number_here" 1547 "_law_text" 1548
def WH:=t0 "_law_move" 112 "law_oddbases_k59_rows_answered" 1349 982
def WI:=t1 "_law_move" 1525 "_law_move" 1526 1527 665 4 977 978 979 980 981 1535 1536
def N2:=t2 "_law_move" 112
def WJ:=t7 "_law_way_here" 1528 "_law_head" 1529 "_law_one" 1530 "_law_cell" 1531 "_law_number_here" 1532 "_law_target" 1533 "_law_text" 1534
def WK:=t0 "_law_order" 111 "law_oddbases_k59_rows_answered" 1349 975
def WL:=t1 "_law_order" 1511 "_law_order" 1512 1513 659 4 970 971 972 973 974 1522 1523
def N3:=t2 "_law_order" 111
def WM:=t6 "_law_way_here" 1514 "_law_head" 1515 "_law_one" 1516 "_law_other" 1517 "_law_first" 1518 "_law_second" 1519 "_law_due_here" 1520 "_law_text" 1521
def WN:=t0 "_law_share" 110 "law_oddbases_k59_rows_answered" 1349 968
def WO:=t1 "_law_share" 1497 "_law_share" 1498 1499 647 4 963 964 965 966 967 1508 1509
def N4:=t2 "_law_share" 110
def WP:=t6 "_law_way_here" 1500 "_law_head" 1501 "_law_one" 1502 "_law_many" 1503 "_law_text" 1504 "_law_parts" 1505 "_law_row" 1506 "_law_rest" 1507
def WQ:=t0 "_law_two" 109 "law_oddbases_k59_rows_answered" 1349 961
def WR:=t1 "_law_two" 1485 "_law_two" 1486 1487 641 5 956 957 958 959 960 1494 1495
def N5:=t2 "_law_two" 109
def WS:=t8 "_law_word" 1488 "_law_way_here" 1489 "_law_head" 1490 "_law_one" 1491 "_law_other" 1492 "_law_text" 1493
def WU:=t0 "_law_due" 108 "law_oddbases_k59_rows_answered" 1349 954
def WV:=t1 "_law_due" 1475 "_law_due" 1476 1477 633 4 949 950 951 952 953 1482 1483
def N8:=t2 "_law_due" 108
def WW:=t9 "_law_word" 1478 "_law_way_here" 1479 "_law_one" 1480 "_law_other" 1481
def WX:=t0 "_law_tells" 107 "law_oddbases_k59_rows_answered" 1349 947
def WY:=t1 "_law_tells" 1465 "_law_tells" 1466 1467 630 3 942 943 944 945 946 1472 1473
def Ma:=t2 "_law_tells" 107
def WZ:=t9 "_law_way_here" 1468 "_law_text" 1469 "_law_number_here" 1470 "_law_row" 1471
def W5:=t0 "_law_number_text" 106 "law_oddbases_k59_rows_answered" 1349 940
def W6:=t1 "_law_number_text" 1458 "_law_number_text" 1459 1460 626 1 935 936 937 938 939 1462 1463
def Mb:=t2 "_law_number_text" 106
def W7:=t10 "_law_number_here" 1461
def W8:=t0 "_law_number" 105 "law_oddbases_k59_rows_answered" 1349 933
def W9:=t1 "_law_number" 1449 "_law_number" 1450 1451 619 2 928 929 930 931 932 1455 1456
def Mc:=t2 "_law_number" 105
def W_:=t11 "_law_way_here" 1452 "_law_cell" 1453 "_law_number_here" 1454
def Va:=t0 "_law_some" 104 "law_oddbases_k59_rows_answered" 1349 926
def Vb:=t12 "_law_some" 1443 1444 1445 616 3 923 924 925 1446 1447
def Md:=t2 "_law_some" 104
def Vc:=t0 "_law_row_of" 103 "law_oddbases_k59_rows_answered" 1349 921
def Vd:=t12 "_law_row_of" 1437 1438 1439 607 2 918 919 920 1440 1441
def Me:=t2 "_law_row_of" 103
def Ve:=t0 "_law_whole_of" 102 "law_oddbases_k59_rows_answered" 1349 916
def Vf:=t1 "_law_whole_of" 1428 "_law_whole_of" 1429 1430 595 1 911 912 913 914 915 1434 1435
def Mf:=t2 "_law_whole_of" 102
def Vg:=t11 "_law_text" 1431 "_law_figures" 1432 "_law_sign" 1433
def Vh:=t0 "_law_is_writing" 101 "law_oddbases_k59_rows_answered" 1349 909
def Vi:=t1 "_law_is_writing" 1419 "_law_is_writing" 1420 1421 588 2 904 905 906 907 908 1425 1426
def Mg:=t2 "_law_is_writing" 101
def Vj:=t11 "_law_way_here" 1422 "_law_row" 1423 "_law_k" 1424
def Vk:=t0 "_law_worth" 100 "law_oddbases_k59_rows_answered" 1349 902
def Vl:=t1 "_law_worth" 1408 "_law_worth" 1409 1410 571 2 897 898 899 900 901 1416 1417
def Mh:=t2 "_law_worth" 100
def Vm:=t13 "_law_way_here" 1411 "_law_row" 1412 "_law_x" 1413 "_law_y" 1414 "_law_k" 1415
def Sn:=t0 "_law_falling_worth" 99 "law_oddbases_k59_rows_answered" 1349 895
def So:=t1 "_law_falling_worth" 1396 "_law_falling_worth" 1397 1398 563 2 890 891 892 893 894 1405 1406
def LT:=t2 "_law_falling_worth" 99
def Sq:=t8 "_law_most" 1399 "_law_row" 1400 "_law_total" 1401 "_law_weight" 1402 "_law_behind" 1403 "_law_figure" 1404
def Sr:=t0 "_law_shown" 98 "law_oddbases_k59_rows_answered" 1349 888
def Ss:=t12 "_law_shown" 1390 1391 1392 559 1 885 886 887 1393 1394
def LU:=t2 "_law_shown" 98
def Su:=t0 "_law_drawn" 97 "law_oddbases_k59_rows_answered" 1349 883
def Sv:=t1 "_law_drawn" 1375 "_law_drawn" 1376 1377 545 2 878 879 880 881 882 1387 1388
def LV:=t2 "_law_drawn" 97
def Sw(x:Params):Obj:=(@Obj.mk (.type "tuple") none (@Data.seq (List.toArray [(p_ "_law_way_here" 1378),(p_ "_law_cells" 1379),(p_ "_law_row" 1380),(p_ "_law_cell" 1381),(p_ "_law_mixed" 1382),(p_ "_law_low_here" 1383),(p_ "_law_high_here" 1384),(p_ "_law_free" 1385),(p_ "_law_figure" 1386)]) 0) #[])
def Sx:=t0 "_law_high" 96 "law_oddbases_k59_rows_answered" 1349 876
def Sy:=t1 "_law_high" 1367 "_law_high" 1368 1369 537 2 871 872 873 874 875 1372 1373
def LW:=t2 "_law_high" 96
def Sz:=t4 "_law_way_here" 1370 "_law_place" 1371
def SA:=t0 "_law_low" 95 "law_oddbases_k59_rows_answered" 1349 869
def SB:=t1 "_law_low" 1360 "_law_low" 1361 1362 533 1 864 865 866 867 868 1364 1365
def LX:=t2 "_law_low" 95
def SD:=t10 "_law_way_here" 1363
def SE:=t0 "_law_way" 94 "law_oddbases_k59_rows_answered" 1349 862
def SF:=t1 "_law_way" 1351 "_law_way" 1352 1353 523 1 857 858 859 860 861 1357 1358
def LY:=t2 "_law_way" 94
def SG:=t11 "_law_cell" 1354 "_law_kind" 1355 "_law_number_here" 1356
def SH:=t0 "said" 92 "oddbases.desk" 1266 855
def SI:=t1 "said" 1340 "said" 1341 1342 516 1 850 851 852 853 854 1346 1347
def LZ:=t2 "said" 92
def SJ:=t11 "row" 1343 "words" 1344 "way" 1345
def SK:=t0 "writing_said" 91 "oddbases.desk" 1266 848
def SL:=t1 "writing_said" 1331 "writing_said" 1332 1333 508 3 843 844 845 846 847 1337 1338
def L0:=t2 "writing_said" 91
def SM:=t11 "words" 1334 "way" 1335 "writing" 1336
def SN:=t0 "reckoning_said" 90 "oddbases.desk" 1266 841
def SO:=t1 "reckoning_said" 1321 "reckoning_said" 1322 1323 500 4 836 837 838 839 840 1328 1329
def L1:=t2 "reckoning_said" 90
def SQ:=t9 "asked" 1324 "way" 1325 "one" 1326 "other" 1327
def SR:=t0 "order_said" 89 "oddbases.desk" 1266 834
def SS:=t1 "order_said" 1311 "order_said" 1312 1313 493 3 829 830 831 832 833 1318 1319
def L3:=t2 "order_said" 89
def ST:=t9 "way" 1314 "one" 1315 "other" 1316 "told" 1317
def SU:=t0 "share_said" 88 "oddbases.desk" 1266 827
def SV:=t1 "share_said" 1301 "share_said" 1302 1303 490 3 822 823 824 825 826 1308 1309
def L4:=t2 "share_said" 88
def SW:=t9 "way" 1304 "writing" 1305 "many" 1306 "parts" 1307
def SY:=t0 "words_of" 87 "oddbases.desk" 1266 820
def SZ:=t1 "words_of" 1293 "words_of" 1294 1295 485 1 815 816 817 818 819 1298 1299
def L5:=t2 "words_of" 87
def S0:=t4 "row" 1296 "words" 1297
def S1(x:Params):Obj:=(@Obj.mk (.type "dict") none (@Data.dict (List.toArray [(e_ x "write" 1268 (j_ 3 1269)),(e_ x "worth" 1270 (j_ 3 1271)),(e_ x "plus" 1272 (j_ 4 1273)),(e_ x "minus" 1274 (j_ 4 1275)),(e_ x "times" 1276 (j_ 4 1277)),(e_ x "share" 1278 (j_ 4 1279)),(e_ x "order" 1280 (j_ 4 1281)),(e_ x "move" 1282 (j_ 4 1283))]) 8) #[])
def S2:=t0 "way_read" 84 "oddbases.texts" 1191 812
def S3:=t1 "way_read" 1257 "way_read" 1258 1259 476 1 807 808 809 810 811 1263 1264
def L8:=t2 "way_read" 84
def S4:=t11 "text" 1260 "name" 1261 "number" 1262
def S5:=t0 "way_made" 83 "oddbases.texts" 1191 805
def S6:=t1 "way_made" 1249 "way_made" 1250 1251 462 2 800 801 802 803 804 1254 1255
def L9:=t2 "way_made" 83
def S7:=t4 "name" 1252 "number" 1253
def S8:=t0 "row_read" 82 "oddbases.texts" 1191 798
def S9:=t12 "row_read" 1243 1244 1245 454 2 795 796 797 1246 1247
def Ka:=t2 "row_read" 82
def Ra:=t0 "number_read" 81 "oddbases.texts" 1191 793
def Rb:=t1 "number_read" 1235 "number_read" 1236 1237 447 1 788 789 790 791 792 1240 1241
def Kb:=t2 "number_read" 81
def Rc:=t4 "text" 1238 "parts" 1239
def Re:=t0 "whole_read" 80 "oddbases.texts" 1191 786
def Rf:=t1 "whole_read" 1227 "whole_read" 1228 1229 440 1 781 782 783 784 785 1232 1233
def Kc:=t2 "whole_read" 80
def Rg:=t4 "text" 1230 "figures" 1231
def Rh:=t0 "has_figures_alone" 78 "oddbases.texts" 1191 779
def Ri:=t1 "has_figures_alone" 1218 "has_figures_alone" 1219 1220 434 1 774 775 776 777 778 1223 1224
def Ke:=t2 "has_figures_alone" 78
def Rj:=t4 "text" 1221 "sign" 1222
def Rk:=t0 "row_shown" 77 "oddbases.texts" 1191 772
def Rm:=t12 "row_shown" 1212 1213 1214 430 1 769 770 771 1215 1216
def Kf:=t2 "row_shown" 77
def Rn:=t0 "number_shown" 76 "oddbases.texts" 1191 767
def Ro:=t1 "number_shown" 1205 "number_shown" 1206 1207 426 1 762 763 764 765 766 1209 1210
def Kg:=t2 "number_shown" 76
def Rp:=t10 "number" 1208
def Rq:=t0 "whole_shown" 75 "oddbases.texts" 1191 760
def Rr:=t1 "whole_shown" 1195 "whole_shown" 1196 1197 414 1 755 756 757 758 759 1202 1203
def Kh:=t2 "whole_shown" 75
def Rs:=t9 "number" 1198 "limit" 1199 "parts" 1200 "rest" 1201
def Rt:=t0 "times" 72 "oddbases.sums" 1096 753
def Ru:=t1 "times" 1182 "times" 1183 1184 407 3 748 749 750 751 752 1188 1189
def Kj:=t2 "times" 72
def Rv:=t11 "way" 1185 "one" 1186 "other" 1187
def Rw:=t0 "minus" 71 "oddbases.sums" 1096 746
def Rx:=t1 "minus" 1172 "minus" 1173 1174 401 3 741 742 743 744 745 1179 1180
def Kk:=t2 "minus" 71
def Ry:=t9 "way" 1175 "one" 1176 "other" 1177 "difference" 1178
def Rz:=t0 "plus" 70 "oddbases.sums" 1096 739
def RA:=t1 "plus" 1163 "plus" 1164 1165 398 3 734 735 736 737 738 1169 1170
def Kl:=t2 "plus" 70
def RB:=t11 "way" 1166 "one" 1167 "other" 1168
def RC:=t0 "times_in_falling" 69 "oddbases.sums" 1096 732
def RD:=t1 "times_in_falling" 1150 "times_in_falling" 1151 1152 390 3 727 728 729 730 731 1160 1161
def Ko:=t2 "times_in_falling" 69
def RE:=t7 "way" 1153 "one" 1154 "other" 1155 "product" 1156 "ahead" 1157 "place" 1158 "above" 1159
def RF:=t0 "times_by_ratio" 68 "oddbases.sums" 1096 725
def RG:=t1 "times_by_ratio" 1138 "times_by_ratio" 1139 1140 384 3 720 721 722 723 724 1147 1148
def Kp:=t2 "times_by_ratio" 68
def RH:=t8 "way" 1141 "one" 1142 "other" 1143 "product" 1144 "place" 1145 "above" 1146
def RI:=t0 "without_debts" 67 "oddbases.sums" 1096 718
def RJ:=t1 "without_debts" 1128 "without_debts" 1129 1130 378 2 713 714 715 716 717 1135 1136
def Kq:=t2 "without_debts" 67
def RK:=t9 "way" 1131 "row" 1132 "things" 1133 "place" 1134
def RL:=t0 "lend" 66 "oddbases.sums" 1096 711
def RM:=t1 "lend" 1119 "lend" 1120 1121 371 3 706 707 708 709 710 1125 1126
def Kr:=t2 "lend" 66
def RN:=t11 "way" 1122 "row" 1123 "lender" 1124
def RO:=t0 "lender_above" 65 "oddbases.sums" 1096 704
def RP:=t1 "lender_above" 1110 "lender_above" 1111 1112 366 2 699 700 701 702 703 1116 1117
def Ks:=t2 "lender_above" 65
def RQ:=t11 "row" 1113 "place" 1114 "lender" 1115
def RS:=t0 "row_times" 64 "oddbases.sums" 1096 697
def RT:=t12 "row_times" 1104 1105 1106 364 2 694 695 696 1107 1108
def Kt:=t2 "row_times" 64
def RU:=t0 "row_plus" 63 "oddbases.sums" 1096 692
def RV:=t12 "row_plus" 1098 1099 1100 361 2 689 690 691 1101 1102
def Ku:=t2 "row_plus" 63
def RW:=t0 "shared" 61 "oddbases.shares" 1048 687
def RX:=t1 "shared" 1086 "shared" 1087 1088 352 3 682 683 684 685 686 1093 1094
def Kv:=t2 "shared" 61
def RY:=t9 "way" 1089 "row" 1090 "many" 1091 "parts" 1092
def RZ:=t0 "quotients_and_rest" 60 "oddbases.shares" 1048 680
def R0:=t1 "quotients_and_rest" 1077 "quotients_and_rest" 1078 1079 348 3 675 676 677 678 679 1083 1084
def Kw:=t2 "quotients_and_rest" 60
def R1:=t11 "way" 1080 "row" 1081 "many" 1082
def R3:=t0 "quotients_in_falling" 59 "oddbases.shares" 1048 673
def R4:=t1 "quotients_in_falling" 1063 "quotients_in_falling" 1064 1065 335 3 668 669 670 671 672 1074 1075
def Kx:=t2 "quotients_in_falling" 59
def R5:=t6 "way" 1066 "row" 1067 "many" 1068 "quotients" 1069 "rest" 1070 "ahead" 1071 "place" 1072 "total" 1073
def R6:=t0 "quotients_by_ratio" 58 "oddbases.shares" 1048 666
def R7:=t1 "quotients_by_ratio" 1050 "quotients_by_ratio" 1051 1052 326 3 661 662 663 664 665 1060 1061
def Ky:=t2 "quotients_by_ratio" 58
def R8:=t7 "way" 1053 "row" 1054 "many" 1055 "quotients" 1056 "rest" 1057 "place" 1058 "total" 1059
def R9:=t0 "order" 56 "oddbases.orders" 1026 659
def R_:=t1 "order" 1037 "order" 1038 1039 314 3 654 655 656 657 658 1045 1046
def Kz:=t2 "order" 56
def Qa:=t13 "way" 1040 "one" 1041 "other" 1042 "place" 1043 "more" 1044
def Qb:=t0 "parting" 55 "oddbases.orders" 1026 652
def Qc:=t1 "parting" 1028 "parting" 1029 1030 309 2 647 648 649 650 651 1034 1035
def KA:=t2 "parting" 55
def Qe:=t11 "one" 1031 "other" 1032 "place" 1033
def Qf:=t0 "moved" 53 "oddbases.moving" 1007 645
def Qg:=t1 "moved" 1017 "moved" 1018 1019 305 3 640 641 642 643 644 1023 1024
def KB:=t2 "moved" 53
def Qh:=t11 "way" 1020 "row" 1021 "other" 1022
def Qi:=t0 "as_wanted" 52 "oddbases.moving" 1007 638
def Qj:=t1 "as_wanted" 1009 "as_wanted" 1010 1011 299 2 633 634 635 636 637 1014 1015
def KC:=t2 "as_wanted" 52
def Qk:=t4 "way" 1012 "number" 1013
def Ql:=t0 "written_row" 50 "oddbases.writings" 930 631
def Qm:=t1 "written_row" 999 "written_row" 1000 1001 294 2 626 627 628 629 630 1004 1005
def KD:=t2 "written_row" 50
def Qn:=t4 "way" 1002 "row" 1003
def Qo:=t0 "written" 49 "oddbases.writings" 930 624
def Qp:=t1 "written" 991 "written" 992 993 288 2 619 620 621 622 623 996 997
def KE:=t2 "written" 49
def Qq:=t4 "way" 994 "number" 995
def Qr:=t0 "written_by_weights" 48 "oddbases.writings" 930 617
def Qs:=t1 "written_by_weights" 980 "written_by_weights" 981 982 280 2 612 613 614 615 616 988 989
def KF:=t2 "written_by_weights" 48
def Qt:=t13 "way" 983 "number" 984 "figures" 985 "rest" 986 "weight" 987
def Qu:=t0 "worth" 47 "oddbases.writings" 930 610
def Qv:=t1 "worth" 969 "worth" 970 971 275 2 605 606 607 608 609 977 978
def KG:=t2 "worth" 47
def Qw:=t13 "way" 972 "row" 973 "number" 974 "thing" 975 "weight" 976
def Qx:=t0 "held_to_be_writings" 46 "oddbases.writings" 930 603
def Qy:=t1 "held_to_be_writings" 960 "held_to_be_writings" 961 962 271 2 598 599 600 601 602 966 967
def KH:=t2 "held_to_be_writings" 46
def Qz:=t11 "way" 963 "rows" 964 "row" 965
def QA:=t0 "is_writing" 45 "oddbases.writings" 930 596
def QB:=t1 "is_writing" 952 "is_writing" 953 954 265 2 591 592 593 594 595 957 958
def KI:=t2 "is_writing" 45
def QC:=t4 "way" 955 "row" 956
def QD:=t0 "has_mosts_above_noughts_alone" 44 "oddbases.writings" 930 589
def QE:=t1 "has_mosts_above_noughts_alone" 943 "has_mosts_above_noughts_alone" 944 945 260 2 584 585 586 587 588 949 950
def KJ:=t2 "has_mosts_above_noughts_alone" 44
def QF:=t11 "way" 946 "row" 947 "place" 948
def QG:=t0 "has_figures_alone" 42 "oddbases.writings" 930 582
def QH:=t1 "has_figures_alone" 932 "has_figures_alone" 933 934 254 2 577 578 579 580 581 939 940
def KK:=t2 "has_figures_alone" 42
def QI:=t9 "way" 935 "row" 936 "place" 937 "thing" 938
def QJ:=t0 "settled" 40 "oddbases.settling" 907 575
def QK:=t1 "settled" 922 "settled" 923 924 251 2 570 571 572 573 574 927 928
def KL:=t2 "settled" 40
def QL:=t4 "way" 925 "totals" 926
def QM:=t0 "figures_and_carries" 39 "oddbases.settling" 907 568
def QN:=t1 "figures_and_carries" 909 "figures_and_carries" 910 911 236 2 563 564 565 566 567 919 920
def KM:=t2 "figures_and_carries" 39
def QO:=t7 "way" 912 "totals" 913 "figures" 914 "carry" 915 "found" 916 "place" 917 "parts" 918
def QP:=t0 "fallen" 37 "oddbases.falls" 833 561
def QQ:=t1 "fallen" 899 "fallen" 900 901 233 2 556 557 558 559 560 904 905
def KN:=t2 "fallen" 37
def QR:=t4 "way" 902 "heap" 903
def QS:=t0 "steps_and_writing" 36 "oddbases.falls" 833 554
def QT:=t1 "steps_and_writing" 886 "steps_and_writing" 887 888 218 2 549 550 551 552 553 896 897
def KO:=t2 "steps_and_writing" 36
def QU:=t7 "way" 889 "heap" 890 "done" 891 "left" 892 "place" 893 "step" 894 "many" 895
def QV:=t0 "how_often" 35 "oddbases.falls" 833 547
def QW:=t1 "how_often" 876 "how_often" 877 878 213 3 542 543 544 545 546 883 884
def KP:=t2 "how_often" 35
def QX:=t9 "way" 879 "heap" 880 "step" 881 "place" 882
def QY:=t0 "step_at" 34 "oddbases.falls" 833 540
def QZ:=t1 "step_at" 867 "step_at" 868 869 207 3 535 536 537 538 539 873 874
def KQ:=t2 "step_at" 34
def Q0:=t11 "way" 870 "heap" 871 "place" 872
def Q1:=t0 "do_steps" 33 "oddbases.falls" 833 533
def Q2:=t1 "do_steps" 855 "do_steps" 856 857 202 4 528 529 530 531 532 864 865
def KR:=t2 "do_steps" 33
def Q3:=t8 "way" 858 "heap" 859 "step" 860 "many" 861 "place" 862 "things" 863
def Q4:=t0 "changes" 32 "oddbases.falls" 833 526
def Q5:=t1 "changes" 844 "changes" 845 846 190 2 521 522 523 524 525 852 853
def KS:=t2 "changes" 32
def Q6:=t13 "way" 847 "step" 848 "kind" 849 "place" 850 "parted" 851
def Q7:=t0 "held_to_be_a_heap" 31 "oddbases.falls" 833 519
def Q8:=t1 "held_to_be_a_heap" 835 "held_to_be_a_heap" 836 837 184 2 514 515 516 517 518 841 842
def KT:=t2 "held_to_be_a_heap" 31
def Q9:=t11 "way" 838 "heap" 839 "things" 840
def Q_:=t0 "trimmed" 29 "oddbases.rows" 815 512
def Pa:=t1 "trimmed" 825 "trimmed" 826 827 178 1 507 508 509 510 511 830 831
def KU:=t2 "trimmed" 29
def Pb:=t4 "row" 828 "things" 829
def Pc:=t0 "thing_at" 28 "oddbases.rows" 815 505
def Pd:=t1 "thing_at" 817 "thing_at" 818 819 174 2 500 501 502 503 504 822 823
def KW:=t2 "thing_at" 28
def Pe:=t4 "row" 820 "place" 821
def KY:=t14 497
def KZ:=t15 497
def Pf:=t16 "Pairs" 497 496 446 746 754
def Pg(x:Params):Obj:=(@Obj.mk (.type "dict") none (@Data.dict (List.toArray [(e_ x "__module__" 753 (p_ "oddbases.ways" 410)),(e_ x "__firstlineno__" 757 (j_ 150 756)),(e_ x "__init__" 765 (r_ 459)),(e_ x "nought" 772 (r_ 466)),(e_ x "high" 780 (r_ 473)),(e_ x "ratio" 788 (r_ 480)),(e_ x "split" 801 (r_ 487)),(e_ x "has" 809 (r_ 494)),(e_ x "__static_attributes__" 811 (r_ 495)),(e_ x "__doc__" 812 .none)]) 2) #[])
def Ph:=t10 "most" 810
def Pi:=t17 "has" "Pairs.has" 26 5 493
def Pj:=t1 "has" 802 "Pairs.has" 803 804 171 2 488 489 490 491 492 807 808
def K0:=t18 "has" "Pairs.has" 26 5
def Pk:=t4 "self" 805 "number" 806
def Pl:=t17 "split" "Pairs.split" 26 4 486
def Pm:=t1 "split" 789 "Pairs.split" 790 791 164 3 481 482 483 484 485 799 800
def K1:=t18 "split" "Pairs.split" 26 4
def Pn:=t7 "self" 792 "total" 793 "place" 794 "pair" 795 "figures" 796 "figure" 797 "turned" 798
def Po:=t17 "ratio" "Pairs.ratio" 26 3 479
def Pp:=t1 "ratio" 781 "Pairs.ratio" 782 783 161 2 474 475 476 477 478 786 787
def K2:=t18 "ratio" "Pairs.ratio" 26 3
def Pq:=t4 "self" 784 "place" 785
def Pr:=t17 "high" "Pairs.high" 26 2 472
def Ps:=t1 "high" 773 "Pairs.high" 774 775 158 2 467 468 469 470 471 778 779
def K3:=t18 "high" "Pairs.high" 26 2
def Pt:=t4 "self" 776 "place" 777
def Pu:=t17 "nought" "Pairs.nought" 26 1 465
def Pw:=t1 "nought" 766 "Pairs.nought" 767 768 155 1 460 461 462 463 464 770 771
def K4:=t18 "nought" "Pairs.nought" 26 1
def Px:=t10 "self" 769
def Py:=t17 "__init__" "Pairs.__init__" 26 0 458
def Pz:=t1 "__init__" 758 "Pairs.__init__" 759 760 152 2 453 454 455 456 457 763 764
def K5:=t18 "__init__" "Pairs.__init__" 26 0
def PB:=t4 "self" 761 "most" 762
def K6:=t19 451 448 "oddbases.ways" 410
def K7:=t20 "Pairs" 748 749 750 150 449 450 751 752
def K8:=t21 152 458 155 465 158 472 161 479 164 486 171 493
def K9:=t22 753 755 "Pairs" 754 757 150 756 "__init__" 765 459 "nought" 772 466 "high" 780 473 "ratio" 788 480 801 487 809 494 811 495
def ur:=t23
def pX:=t24 241
def K_:=t14 443
def Ja:=t15 443
def PF:=t16 "Falling" 443 442 399 683 691
def PH:=t25 690 694 126 693 702 412 "high" 710 419 "weights" 723 426 731 433 "split" 740 440 742 441 743
def PJ:=t10 "most" 741
def PK:=t17 "split" "Falling.split" 25 4 439
def PL:=t1 "split" 732 "Falling.split" 733 734 148 3 434 435 436 437 438 738 739
def Jb:=t18 "split" "Falling.split" 25 4
def PM:=t11 "self" 735 "total" 736 "place" 737
def PN:=t17 "ratio" "Falling.ratio" 25 3 432
def PP:=t1 "ratio" 724 "Falling.ratio" 725 726 145 2 427 428 429 430 431 729 730
def Jc:=t18 "ratio" "Falling.ratio" 25 3
def PQ:=t4 "self" 727 "place" 728
def PR:=t17 "weights" "Falling.weights" 25 2 425
def PU:=t1 "weights" 711 "Falling.weights" 712 713 134 2 420 421 422 423 424 721 722
def Jd:=t18 "weights" "Falling.weights" 25 2
def PV:=t7 "self" 714 "many" 715 "weights" 716 "ahead" 717 "weight" 718 "place" 719 "following" 720
def PX:=t17 "high" "Falling.high" 25 1 418
def PY:=t1 "high" 703 "Falling.high" 704 705 131 2 413 414 415 416 417 708 709
def Je:=t18 "high" "Falling.high" 25 1
def PZ:=t4 "self" 706 "place" 707
def P0:=t17 "__init__" "Falling.__init__" 25 0 411
def P3:=t1 "__init__" 695 "Falling.__init__" 696 697 128 2 406 407 408 409 410 700 701
def Jf:=t18 "__init__" "Falling.__init__" 25 0
def P4:=t4 "self" 698 "most" 699
def Jg:=t19 404 401 "oddbases.ways" 410
def Jh:=t20 "Falling" 685 686 687 126 402 403 688 689
def Ji:=t26 128 411 131 418 134 425 145 432 148 439
def Jj:=t27 690 692 "Falling" 691 694 126 693 702 412 "high" 710 419 "weights" 723 426 731 433 "split" 740 440 742 441
def Jk:=t14 396
def Jl:=t15 396
def P5:=t16 "Growing" 396 395 366 642 650
def P6:=t28 649 653 116 652 661 379 669 386 677 393 679 394 680
def P7:=t10 "first" 678
def P8:=t17 "ratio" "Growing.ratio" 24 2 392
def P9:=t1 "ratio" 670 "Growing.ratio" 671 672 124 2 387 388 389 390 391 675 676
def Jm:=t18 "ratio" "Growing.ratio" 24 2
def Oa:=t4 "self" 673 "place" 674
def Ob:=t17 "high" "Growing.high" 24 1 385
def Oc:=t1 "high" 662 "Growing.high" 663 664 121 2 380 381 382 383 384 667 668
def Jn:=t18 "high" "Growing.high" 24 1
def Od:=t4 "self" 665 "place" 666
def Oe:=t17 "__init__" "Growing.__init__" 24 0 378
def Of:=t1 "__init__" 654 "Growing.__init__" 655 656 118 2 373 374 375 376 377 659 660
def Jo:=t18 "__init__" "Growing.__init__" 24 0
def Og:=t4 "self" 657 "first" 658
def Jp:=t19 371 368 "oddbases.ways" 410
def Jq:=t20 "Growing" 644 645 646 116 369 370 647 648
def Jr:=t29 118 378 121 385 124 392
def Js:=t30 649 651 "Growing" 650 653 116 652 661 379 669 386 677 393 679 394
def Jt:=t14 363
def Ju:=t15 363
def Oh:=t16 "Balanced" 363 362 319 585 593
def Oi:=t25 592 596 100 595 604 332 "low" 612 339 "high" 620 346 628 353 "has" 636 360 638 361 639
def Oj:=t10 "half" 637
def Ol:=t17 "has" "Balanced.has" 23 4 359
def Om:=t1 "has" 629 "Balanced.has" 630 631 114 2 354 355 356 357 358 634 635
def Jv:=t18 "has" "Balanced.has" 23 4
def On:=t4 "self" 632 "number" 633
def Oo:=t17 "ratio" "Balanced.ratio" 23 3 352
def Oq:=t1 "ratio" 621 "Balanced.ratio" 622 623 111 2 347 348 349 350 351 626 627
def Jw:=t18 "ratio" "Balanced.ratio" 23 3
def Os:=t4 "self" 624 "place" 625
def Ot:=t17 "high" "Balanced.high" 23 2 345
def Ou:=t1 "high" 613 "Balanced.high" 614 615 108 2 340 341 342 343 344 618 619
def Jx:=t18 "high" "Balanced.high" 23 2
def Ov:=t4 "self" 616 "place" 617
def Ow:=t17 "low" "Balanced.low" 23 1 338
def Ox:=t1 "low" 605 "Balanced.low" 606 607 105 2 333 334 335 336 337 610 611
def Jy:=t18 "low" "Balanced.low" 23 1
def Oy:=t4 "self" 608 "place" 609
def Oz:=t17 "__init__" "Balanced.__init__" 23 0 331
def OA:=t1 "__init__" 597 "Balanced.__init__" 598 599 102 2 326 327 328 329 330 602 603
def Jz:=t18 "__init__" "Balanced.__init__" 23 0
def OB:=t4 "self" 600 "half" 601
def JA:=t19 324 321 "oddbases.ways" 410
def JB:=t20 "Balanced" 587 588 589 100 322 323 590 591
def JC:=t26 102 331 105 338 108 345 111 352 114 359
def JD:=t27 592 594 "Balanced" 593 596 100 595 604 332 "low" 612 339 "high" 620 346 628 353 "has" 636 360 638 361
def JE:=t14 316
def JF:=t15 316
def OC:=t16 "Below" 316 315 279 536 544
def OE(x:Params):Obj:=(@Obj.mk (.type "dict") none (@Data.dict (List.toArray [(e_ x "__module__" 543 (p_ "oddbases.ways" 410)),(e_ x "__firstlineno__" 547 (j_ 87 546)),(e_ x "__init__" 555 (r_ 292)),(e_ x "high" 563 (r_ 299)),(e_ x "ratio" 571 (r_ 306)),(e_ x "has" 579 (r_ 313)),(e_ x "__static_attributes__" 581 (r_ 314)),(e_ x "__doc__" 582 .none)]) 2) #[])
def OF:=t10 "base" 580
def OG:=t17 "has" "Below.has" 22 3 312
def OH:=t1 "has" 572 "Below.has" 573 574 98 2 307 308 309 310 311 577 578
def JG:=t18 "has" "Below.has" 22 3
def OI:=t4 "self" 575 "number" 576
def OJ:=t17 "ratio" "Below.ratio" 22 2 305
def OK:=t1 "ratio" 564 "Below.ratio" 565 566 95 2 300 301 302 303 304 569 570
def JH:=t18 "ratio" "Below.ratio" 22 2
def OL:=t4 "self" 567 "place" 568
def OM:=t17 "high" "Below.high" 22 1 298
def ON:=t1 "high" 556 "Below.high" 557 558 92 2 293 294 295 296 297 561 562
def JI:=t18 "high" "Below.high" 22 1
def OO:=t4 "self" 559 "place" 560
def OP:=t17 "__init__" "Below.__init__" 22 0 291
def OQ:=t1 "__init__" 548 "Below.__init__" 549 550 89 2 286 287 288 289 290 553 554
def JJ:=t18 "__init__" "Below.__init__" 22 0
def OR:=t4 "self" 551 "base" 552
def JK:=t19 284 281 "oddbases.ways" 410
def JL:=t20 "Below" 538 539 540 87 282 283 541 542
def JM(x:Params):Obj:=(@Obj.mk .none none (@Data.fields (List.toArray [(j_ 89 0),(j_ 4 0),(r_ 291),(j_ 92 0),(j_ 4 0),(r_ 298),(j_ 95 0),(j_ 4 0),(r_ 305),(j_ 98 0),(j_ 4 0),(r_ 312)])) #[])
def JN(x:Params):Obj:=(@Obj.mk (.type "dict") none (@Data.dict (List.toArray [(e_ x "__module__" 543 (p_ "oddbases.ways" 410)),(e_ x "__qualname__" 545 (p_ "Below" 544)),(e_ x "__firstlineno__" 547 (j_ 87 546)),(e_ x "__init__" 555 (r_ 292)),(e_ x "high" 563 (r_ 299)),(e_ x "ratio" 571 (r_ 306)),(e_ x "has" 579 (r_ 313)),(e_ x "__static_attributes__" 581 (r_ 314))]) 8) #[])
def JR:=t14 276
def JS:=t15 276
def OS:=t16 "Plain" 276 275 246 495 503
def OT:=t28 502 506 77 505 514 259 522 266 530 273 532 274 533
def OU:=t10 "base" 531
def OV:=t17 "ratio" "Plain.ratio" 21 2 272
def OW:=t1 "ratio" 523 "Plain.ratio" 524 525 85 2 267 268 269 270 271 528 529
def JT:=t18 "ratio" "Plain.ratio" 21 2
def OX:=t4 "self" 526 "place" 527
def OY:=t17 "high" "Plain.high" 21 1 265
def OZ:=t1 "high" 515 "Plain.high" 516 517 82 2 260 261 262 263 264 520 521
def JU:=t18 "high" "Plain.high" 21 1
def O0:=t4 "self" 518 "place" 519
def O1:=t17 "__init__" "Plain.__init__" 21 0 258
def O2:=t1 "__init__" 507 "Plain.__init__" 508 509 79 2 253 254 255 256 257 512 513
def JV:=t18 "__init__" "Plain.__init__" 21 0
def O3:=t4 "self" 510 "base" 511
def JW:=t19 251 248 "oddbases.ways" 410
def JX:=t20 "Plain" 497 498 499 77 249 250 500 501
def JY:=t29 79 258 82 265 85 272
def JZ:=t30 502 504 "Plain" 503 506 77 505 514 259 522 266 530 273 532 274
def J0:=t14 241
def J7:=t15 241
def O4:=t31 490 241
def O5(x:Params):Obj:=(@Obj.mk (.type "getset_descriptor") none (@Data.fields (List.toArray [(p_ "__dict__" 488),(r_ 241),(.builtin "function.__dict__"),(.builtin "function.__dict__#set")])) #[])
def PD(x:Params):Obj:=(@Obj.mk (.type "type") none (@Data.cls (@ClassData.mk (.ofString "Way") [(.type "object")] [(r_ 241),(.type "object")] 240 (.ofString "Way") @Bool.true [] [(r_ 276),(r_ 316),(r_ 363),(r_ 396),(r_ 443),(r_ 497)] @Bool.false (@Option.none @Bool) @Bool.false)) (@List.toArray (@Option @Value) [none,none,(some (p_ "Way" 421)),(some (p_ "Way" 429)),(some (.builtin "object.__new__")),(some (.bool @Bool.true))]))
def O6(x:Params):Obj:=(@Obj.mk (.type "dict") none (@Data.dict (List.toArray [(e_ x "__module__" 428 (p_ "oddbases.ways" 410)),(e_ x "__firstlineno__" 432 (j_ 50 431)),(e_ x "nought" 439 (r_ 203)),(e_ x "low" 447 (r_ 210)),(e_ x "weights" 458 (r_ 217)),(e_ x "weight" 466 (r_ 224)),(e_ x "split" 478 (r_ 231)),(e_ x "has" 486 (r_ 238)),(e_ x "__static_attributes__" 487 (r_ 239)),(e_ x "__dict__" 489 (r_ 242)),(e_ x "__weakref__" 491 (r_ 243)),(e_ x "__doc__" 492 .none)]) 4) #[])
def O7:=t17 "has" "Way.has" 20 5 237
def O8:=t1 "has" 479 "Way.has" 480 481 75 2 232 233 234 235 236 484 485
def J8:=t18 "has" "Way.has" 20 5
def O9:=t4 "self" 482 "number" 483
def O_:=t17 "split" "Way.split" 20 4 230
def Na:=t1 "split" 467 "Way.split" 468 469 69 3 225 226 227 228 229 476 477
def J9:=t18 "split" "Way.split" 20 4
def Nb:=t8 "self" 470 "total" 471 "place" 472 "low" 473 "figures" 474 "figure" 475
def Nc:=t17 "weight" "Way.weight" 20 3 223
def Nd:=t1 "weight" 459 "Way.weight" 460 461 66 2 218 219 220 221 222 464 465
def J_:=t18 "weight" "Way.weight" 20 3
def Nf:=t4 "self" 462 "place" 463
def Ng:=t17 "weights" "Way.weights" 20 2 216
def Nh:=t1 "weights" 448 "Way.weights" 449 450 58 2 211 212 213 214 215 456 457
def Ia:=t18 "weights" "Way.weights" 20 2
def Ni:=t13 "self" 451 "many" 452 "weights" 453 "weight" 454 "place" 455
def Nj:=t17 "low" "Way.low" 20 1 209
def Nk:=t1 "low" 440 "Way.low" 441 442 55 2 204 205 206 207 208 445 446
def Ib:=t18 "low" "Way.low" 20 1
def Nl:=t4 "self" 443 "place" 444
def Nn:=t17 "nought" "Way.nought" 20 0 202
def No:=t1 "nought" 433 "Way.nought" 434 435 52 1 197 198 199 200 201 437 438
def Ic:=t18 "nought" "Way.nought" 20 0
def Np:=t10 "self" 436
def Id:=t19 195 192 "oddbases.ways" 410
def Ie:=t20 "Way" 423 424 425 50 193 194 426 427
def Ig:=t21 52 202 55 209 58 216 66 223 69 230 75 237
def Ih:=t22 428 430 "Way" 429 432 50 431 "nought" 439 203 "low" 447 210 "weights" 458 217 "weight" 466 224 478 231 486 238 487 239
def Nq:=t0 "bounded" 19 "oddbases.ways" 410 188
def Nr:=t1 "bounded" 412 "bounded" 413 414 46 3 183 184 185 186 187 418 419
def Ii:=t2 "bounded" 19
def Nt:=t11 "number" 415 "least" 416 "most" 417
def Nu:=t0 "multiplied" 17 "oddbases.pairs" 367 181
def Nv:=t1 "multiplied" 400 "multiplied" 401 402 39 2 176 177 178 179 180 407 408
def Ij:=t2 "multiplied" 17
def Nw:=t9 "one" 403 "other" 404 "left" 405 "right" 406
def Ny:=t0 "added" 16 "oddbases.pairs" 367 174
def Nz:=t1 "added" 390 "added" 391 392 33 2 169 170 171 172 173 397 398
def Ik:=t2 "added" 16
def NA:=t9 "one" 393 "other" 394 "left" 395 "right" 396
def NB:=t0 "as_pair" 15 "oddbases.pairs" 367 167
def NC:=t1 "as_pair" 383 "as_pair" 384 385 29 1 162 163 164 165 166 387 388
def Il:=t2 "as_pair" 15
def ND:=t10 "number" 386
def NE:=t0 "is_pair" 14 "oddbases.pairs" 367 160
def NF:=t1 "is_pair" 376 "is_pair" 377 378 27 1 155 156 157 158 159 380 381
def Im:=t2 "is_pair" 14
def NG:=t10 "value" 379
def NH:=t0 "is_whole" 13 "oddbases.pairs" 367 153
def NI:=t1 "is_whole" 369 "is_whole" 370 371 25 1 148 149 150 151 152 373 374
def Io:=t2 "is_whole" 13
def NJ:=t10 "value" 372
def Ip:=t14 145
def Iq:=t15 145
def NK:=t32 "NoRow" 145 144 136 351 359
def NL:=t33 358 362 22 361 363 143 364
def Ir:=t19 141 138 "oddbases.errors" 187
def Iu:=t20 "NoRow" 353 354 355 22 139 140 356 357
def Iv:=t34 358 360 "NoRow" 359 362 22 361 363 143
def vm:=t24 24
def Iw:=t14 133
def Ix:=t15 133
def NN:=t32 "NoText" 133 132 124 335 343
def NO:=t33 342 346 20 345 347 131 348
def Iy:=t19 129 126 "oddbases.errors" 187
def Iz:=t20 "NoText" 337 338 339 20 127 128 340 341
def IA:=t34 342 344 "NoText" 343 346 20 345 347 131
def IB:=t14 121
def IC:=t15 121
def NP:=t32 "Nought" 121 120 112 319 327
def NQ:=t33 326 330 18 329 331 119 332
def ID:=t19 117 114 "oddbases.errors" 187
def IE:=t20 "Nought" 321 322 323 18 115 116 324 325
def IF:=t34 326 328 "Nought" 327 330 18 329 331 119
def IG:=t14 109
def IH:=t15 109
def NR:=t32 "NoPairs" 109 108 100 303 311
def NS:=t33 310 314 16 313 315 107 316
def II:=t19 105 102 "oddbases.errors" 187
def IJ:=t20 "NoPairs" 305 306 307 16 103 104 308 309
def IK:=t34 310 312 "NoPairs" 311 314 16 313 315 107
def IL:=t14 97
def IM:=t15 97
def NT:=t32 "NoFalling" 97 96 88 287 295
def NU:=t33 294 298 14 297 299 95 300
def IN:=t19 93 90 "oddbases.errors" 187
def IO:=t20 "NoFalling" 289 290 291 14 91 92 292 293
def IQ:=t34 294 296 "NoFalling" 295 298 14 297 299 95
def IS:=t14 85
def IT:=t15 85
def NV:=t32 "NoRatio" 85 84 76 271 279
def NW:=t33 278 282 12 281 283 83 284
def IU:=t19 81 78 "oddbases.errors" 187
def IV:=t20 "NoRatio" 273 274 275 12 79 80 276 277
def IW:=t34 278 280 "NoRatio" 279 282 12 281 283 83
def IX:=t14 73
def IZ:=t15 73
def NX:=t32 "TooLess" 73 72 64 255 263
def NY:=t33 262 266 10 265 267 71 268
def I0:=t19 69 66 "oddbases.errors" 187
def I8:=t20 "TooLess" 257 258 259 10 67 68 260 261
def I9:=t34 262 264 "TooLess" 263 266 10 265 267 71
def I_:=t14 61
def Ha:=t15 61
def N6:=t32 "NoWriting" 61 60 52 239 247
def N9:=t33 246 250 8 249 251 59 252
def Hb:=t19 57 54 "oddbases.errors" 187
def Hc:=t20 "NoWriting" 241 242 243 8 55 56 244 245
def o99:=t34 246 248 "NoWriting" 247 250 8 249 251 59
def o93:=t14 49
def o92:=t15 49
def o91:=t32 "NoNumber" 49 48 40 223 231
def o90:=t33 230 234 6 233 235 47 236
def o88:=t19 45 42 "oddbases.errors" 187
def o87:=t20 "NoNumber" 225 226 227 6 43 44 228 229
def o84:=t34 230 232 "NoNumber" 231 234 6 233 235 47
def o78:=t14 37
def o77:=t15 37
def o76:=t32 "NoWay" 37 36 28 207 215
def o75:=t33 214 218 4 217 219 35 220
def o73:=t19 33 30 "oddbases.errors" 187
def o72:=t20 "NoWay" 209 210 211 4 31 32 212 213
def o69:=t34 214 216 "NoWay" 215 218 4 217 219 35
def o63:=t14 24
def o62:=t15 24
def o61:=t31 202 24
def NM(x:Params):Obj:=(@Obj.mk (.type "type") none (@Data.cls (@ClassData.mk (.ofString "OddError") [(.type "ValueError")] [(r_ 24),(.type "ValueError"),(.type "Exception"),(.type "BaseException"),(.type "object")] 23 (.ofString "OddError") @Bool.true [] [(r_ 37),(r_ 49),(r_ 61),(r_ 73),(r_ 85),(r_ 97),(r_ 109),(r_ 121),(r_ 133),(r_ 145)] @Bool.false (@Option.none @Bool) @Bool.false)) (@List.toArray (@Option @Value) [(some (r_ 15)),none,(some (p_ "OddError" 189)),(some (p_ "OddError" 197)),(some (.builtin "ValueError.__new__")),(some (.bool @Bool.true))]))
def o59(x:Params):Obj:=(@Obj.mk (.type "dict") none (@Data.dict (List.toArray [(e_ x "__module__" 196 (p_ "oddbases.errors" 187)),(e_ x "__firstlineno__" 200 (j_ 2 199)),(e_ x "__static_attributes__" 201 (r_ 22)),(e_ x "__weakref__" 203 (r_ 25)),(e_ x "__doc__" 204 .none)]) 3) #[])
def o57:=t19 20 17 "oddbases.errors" 187
def o56:=t20 "OddError" 191 192 193 2 18 19 194 195
def o53:=t34 196 198 "OddError" 197 200 2 199 201 22
def o51(x:Params):Obj:=(@Obj.mk (.type "tuple") none (@Data.seq (List.toArray [(.type "ValueError")]) 0) #[])
def o46:=t19 13 3 "__main__" 164
def o45:=t20 "<module>" 182 183 184 1 11 12 185 186
noncomputable def g3_:List (Nat×Nat):=(2,20)::(4,33)::(6,45)::(8,57)::(10,69)::(12,81)::(14,93)::(16,105)::(18,117)::(20,129)::(22,141)::(25,153)::(27,160)::(29,167)::(33,174)::(39,181)::(46,188)::(50,195)::(77,251)::(87,284)::(100,324)::(116,371)::(126,404)::(150,451)::(174,505)::(178,512)::(184,519)::(190,526)::(202,533)::(207,540)::(213,547)::(218,554)::(233,561)::(236,568)::(251,575)::(254,582)::(260,589)::(265,596)::(271,603)::(275,610)::(280,617)::(288,624)::(294,631)::(299,638)::(305,645)::(309,652)::(314,659)::(326,666)::(335,673)::(348,680)::(352,687)::(361,692)::(364,697)::(366,704)::(371,711)::(378,718)::(384,725)::(390,732)::(398,739)::(401,746)::(407,753)::(414,760)::(426,767)::(430,772)::(434,779)::(440,786)::(447,793)::(454,798)::(462,805)::(476,812)::(485,820)::(490,827)::(493,834)::(500,841)::(508,848)::(516,855)::(523,862)::(533,869)::(537,876)::(545,883)::(559,888)::(563,895)::(571,902)::(588,909)::(595,916)::(607,921)::(616,926)::(619,933)::(626,940)::(630,947)::(633,954)::(641,961)::(647,968)::(659,975)::(665,982)::(676,989)::(695,996)::[]
noncomputable def f3_(n:Nat):List Value:=(g3_.take n).flatMap fun p=>[j_ p.1 0,j_ 0 0,r_ p.2]
def N7(x:Params):Obj:=(@Obj.mk .none none (@Data.fields (List.toArray (f3_ 97))) #[])
noncomputable def d3_(x:Params)(n:Nat):List DictEntry:=(q_ x (U48::U28::U1::U43::U19::U26::U4::U32::U33::U49::U34::U29::U39::U40::U30::U35::U41::U42::U44::U31::U36::U37::U45::U27::U38::U50::U46::U47::[])++(e_ x "Balanced" 641 (r_ 363))::(e_ x "Growing" 682 (r_ 396))::(e_ x "Falling" 745 (r_ 443))::(e_ x "Pairs" 814 (r_ 497))::(e_ x "thing_at" 824 (r_ 506))::(e_ x "trimmed" 832 (r_ 513))::(U13 x)::(e_ x "changes" 854 (r_ 527))::(e_ x "do_steps" 866 (r_ 534))::(e_ x "step_at" 875 (r_ 541))::(e_ x "how_often" 885 (r_ 548))::(U14 x)::(e_ x "fallen" 906 (r_ 562))::(U8 x)::(e_ x "settled" 929 (r_ 576))::q_ x (U15::U3::U2::[])++(e_ x "is_writing" 959 (r_ 597))::(U9 x)::(e_ x "worth" 979 (r_ 611))::(U12 x)::(e_ x "written" 998 (r_ 625))::(U22 x)::(e_ x "as_wanted" 1016 (r_ 639))::(e_ x "moved" 1025 (r_ 646))::(e_ x "parting" 1036 (r_ 653))::(e_ x "order" 1047 (r_ 660))::q_ x (U10::U7::U11::[])++(e_ x "shared" 1095 (r_ 688))::(e_ x "row_plus" 1103 (r_ 693))::(e_ x "row_times" 1109 (r_ 698))::(U20 x)::(e_ x "lend" 1127 (r_ 712))::q_ x (U18::U17::U16::[])++(e_ x "plus" 1171 (r_ 740))::(e_ x "minus" 1181 (r_ 747))::(e_ x "times" 1190 (r_ 754))::q_ x (U6::U23::U21::[])++(e_ x "row_shown" 1217 (r_ 773))::q_ x (U5::U25::U24::[])++(e_ x "row_read" 1248 (r_ 799))::(e_ x "way_made" 1256 (r_ 806))::(e_ x "way_read" 1265 (r_ 813))::(e_ x "COUNTS" 1292 (r_ 814))::(e_ x "words_of" 1300 (r_ 821))::(e_ x "share_said" 1310 (r_ 828))::(e_ x "order_said" 1320 (r_ 835))::(e_ x "reckoning_said" 1330 (r_ 842))::(e_ x "writing_said" 1339 (r_ 849))::(e_ x "said" 1348 (r_ 856))::(e_ x "_law_way" 1359 (r_ 863))::(e_ x "_law_low" 1366 (r_ 870))::(e_ x "_law_high" 1374 (r_ 877))::(e_ x "_law_drawn" 1389 (r_ 884))::(e_ x "_law_shown" 1395 (r_ 889))::(e_ x "_law_falling_worth" 1407 (r_ 896))::(e_ x "_law_worth" 1418 (r_ 903))::(e_ x "_law_is_writing" 1427 (r_ 910))::(e_ x "_law_whole_of" 1436 (r_ 917))::(e_ x "_law_row_of" 1442 (r_ 922))::(e_ x "_law_some" 1448 (r_ 927))::(e_ x "_law_number" 1457 (r_ 934))::(e_ x "_law_number_text" 1464 (r_ 941))::(e_ x "_law_tells" 1474 (r_ 948))::(e_ x "_law_due" 1484 (r_ 955))::(e_ x "_law_two" 1496 (r_ 962))::(e_ x "_law_share" 1510 (r_ 969))::(e_ x "_law_order" 1524 (r_ 976))::(e_ x "_law_move" 1537 (r_ 983))::(e_ x "_law_answered" 1551 (r_ 990))::(e_ x "law" 1559 (r_ 997))::[]).take n
def WT(x:Params):Obj:=(@Obj.mk (.type "dict") none (@Data.dict (List.toArray ((U0 x)::d3_ x 108)) 109) #[])
def L6(x:Params):Obj:=(@Obj.mk .none none (@Data.fields (List.toArray (f3_ 78))) #[])
def L7(x:Params):Obj:=(@Obj.mk (.type "dict") none (@Data.dict (List.toArray ((U0 x)::d3_ x 89)) 90) #[])
def Km(x:Params):Obj:=(@Obj.mk .none none (@Data.fields (List.toArray (f3_ 70))) #[])
def Kn(x:Params):Obj:=(@Obj.mk (.type "dict") none (@Data.dict (List.toArray ((e_ x "__name__" 165 (p_ "oddbases.desk" 1266))::d3_ x 80)) 81) #[])
def JP(x:Params):Obj:=(@Obj.mk .none none (@Data.fields (List.toArray [(j_ 2 0),(j_ 0 0),(r_ 20),(j_ 4 0),(j_ 0 0),(r_ 33),(j_ 6 0),(j_ 0 0),(r_ 45),(j_ 8 0),(j_ 0 0),(r_ 57),(j_ 10 0),(j_ 0 0),(r_ 69),(j_ 12 0),(j_ 0 0),(r_ 81),(j_ 14 0),(j_ 0 0),(r_ 93),(j_ 16 0),(j_ 0 0),(r_ 105),(j_ 18 0),(j_ 0 0),(r_ 117),(j_ 20 0),(j_ 0 0),(r_ 129),(j_ 22 0),(j_ 0 0),(r_ 141),(j_ 25 0),(j_ 0 0),(r_ 153),(j_ 27 0),(j_ 0 0),(r_ 160),(j_ 29 0),(j_ 0 0),(r_ 167),(j_ 33 0),(j_ 0 0),(r_ 174),(j_ 39 0),(j_ 0 0),(r_ 181),(j_ 46 0),(j_ 0 0),(r_ 188),(j_ 50 0),(j_ 0 0),(r_ 195),(j_ 77 0),(j_ 0 0),(r_ 251),(j_ 87 0),(j_ 0 0),(r_ 284)])) #[])
def JO(x:Params):Obj:=(@Obj.mk (.type "type") none (@Data.cls (@ClassData.mk (.ofString "Way") [(.type "object")] [(r_ 241),(.type "object")] 240 (.ofString "Way") @Bool.true [] [(r_ 276),(r_ 316)] @Bool.false (@Option.none @Bool) @Bool.false)) (@List.toArray (@Option @Value) [none,none,(some (p_ "Way" 421)),(some (p_ "Way" 429)),(some (.builtin "object.__new__")),(some (.bool @Bool.true))]))
def JQ(x:Params):Obj:=(@Obj.mk (.type "dict") none (@Data.dict (List.toArray [(e_ x "__name__" 165 (p_ "oddbases.ways" 410)),(U48 x),(U28 x),(U1 x),(U43 x),(U19 x),(U26 x),(U4 x),(U32 x),(U33 x),(U49 x),(U34 x),(U29 x),(U39 x),(U40 x),(U30 x),(U35 x),(U41 x),(U42 x),(U44 x),(U31 x),(U36 x),(U37 x),(U45 x),(U27 x),(U38 x),(U50 x),(U46 x),(U47 x)]) 29) #[])
section
local macro_rules | `($n:num) => `(nat_lit $n)
noncomputable def myAs:List Nat:=(2::3::15::22::23::24::25::28::35::36::37::40::47::48::49::52::59::60::61::64::71::72::73::76::83::84::85::88::95::96::97::100::107::108::109::112::119::120::121::124::131::132::133::136::143::144::145::148::150::151::153::154::155::157::158::160::161::162::164::165::167::168::169::171::172::174::175::176::178::179::181::182::183::185::186::188::189::197::199::200::202::203::204::206::207::209::210::211::213::214::216::217::218::220::221::223::224::225::227::228::230::231::232::234::235::237::238::239::240::241::242::243::246::253::255::256::258::259::260::262::263::265::266::267::269::270::272::273::274::275::276::279::286::288::289::291::292::293::295::296::298::299::300::302::303::305::306::307::309::310::312::313::314::315::316::319::326::328::329::331::332::333::335::336::338::339::340::342::343::345::346::347::349::350::352::353::354::356::357::359::360::361::362::363::366::373::375::376::378::379::380::382::383::385::386::387::389::390::392::393::394::395::396::399::406::408::409::411::412::413::415::416::418::419::420::422::423::425::426::427::429::430::432::433::434::436::437::439::440::441::442::443::446::453::455::456::458::459::460::462::463::465::466::467::469::470::472::473::474::476::477::479::480::481::483::484::486::487::488::490::491::493::494::495::496::497::500::502::503::505::506::507::509::510::512::513::514::516::517::519::520::521::523::524::526::527::528::530::531::533::534::535::537::538::540::541::542::544::545::547::548::549::551::552::554::555::556::558::559::561::562::563::565::566::568::569::570::572::573::575::576::577::579::580::582::583::584::586::587::589::590::591::593::594::596::597::598::600::601::603::604::605::607::608::610::611::612::614::615::617::618::619::621::622::624::625::626::628::629::631::632::633::635::636::638::639::640::642::643::645::646::647::649::650::652::653::654::656::657::659::660::661::663::664::666::667::668::670::671::673::674::675::677::678::680::681::682::684::685::687::688::689::692::693::694::697::698::699::701::702::704::705::706::708::709::711::712::713::715::716::718::719::720::722::723::725::726::727::729::730::732::733::734::736::737::739::740::741::743::744::746::747::748::750::751::753::754::755::757::758::760::761::762::764::765::767::768::769::772::773::774::776::777::779::780::781::783::784::786::787::788::790::791::793::794::795::798::799::800::802::803::805::806::807::809::810::812::813::814::815::817::818::820::821::822::824::825::827::828::829::831::832::834::835::836::838::839::841::842::843::845::846::848::849::850::852::853::855::856::857::859::860::862::863::864::866::867::869::870::871::873::874::876::877::878::880::881::883::884::885::888::889::890::892::893::895::896::897::899::900::902::903::904::906::907::909::910::911::913::914::916::917::918::921::922::923::926::927::928::930::931::933::934::935::937::938::940::941::942::944::945::947::948::949::951::952::954::955::956::958::959::961::962::963::965::966::968::969::970::972::973::975::976::977::979::980::982::983::984::986::987::989::990::991::993::994::996::997::[])
noncomputable def h_heap_39:PySem.Params→PySem.W.Frag:=fun x=>
(2,(@W.boot_o_2 x))::(3,(WT x))::(15,(o51 x))::(22,(zc x))::(23,(o59 x))::(24,(NM x))::(25,(o61 x))::(28,(vm x))::(35,(zc x))::(36,(o75 x))::(37,(o76 x))::(40,(vm x))::(47,(zc x))::(48,(o90 x))::(49,(o91 x))::(52,(vm x))::(59,(zc x))::(60,(N9 x))::(61,(N6 x))::(64,(vm x))::(71,(zc x))::(72,(NY x))::(73,(NX x))::(76,(vm x))::(83,(zc x))::(84,(NW x))::(85,(NV x))::(88,(vm x))::(95,(zc x))::(96,(NU x))::(97,(NT x))::(100,(vm x))::(107,(zc x))::(108,(NS x))::(109,(NR x))::(112,(vm x))::(119,(zc x))::(120,(NQ x))::(121,(NP x))::(124,(vm x))::(131,(zc x))::(132,(NO x))::(133,(NN x))::(136,(vm x))::(143,(zc x))::(144,(NL x))::(145,(NK x))::(148,(zc x))::(150,(NJ x))::(151,(zc x))::(153,(NI x))::(154,(NH x))::(155,(zc x))::(157,(NG x))::(158,(zc x))::(160,(NF x))::(161,(NE x))::(162,(zc x))::(164,(ND x))::(165,(zc x))::(167,(NC x))::(168,(NB x))::(169,(zc x))::(171,(NA x))::(172,(zc x))::(174,(Nz x))::(175,(Ny x))::(176,(zc x))::(178,(Nw x))::(179,(zc x))::(181,(Nv x))::(182,(Nu x))::(183,(zc x))::(185,(Nt x))::(186,(zc x))::(188,(Nr x))::(189,(Nq x))::(197,(zc x))::(199,(Np x))::(200,(zc x))::(202,(No x))::(203,(Nn x))::(204,(zc x))::(206,(Nl x))::(207,(zc x))::(209,(Nk x))::(210,(Nj x))::(211,(zc x))::(213,(Ni x))::(214,(zc x))::(216,(Nh x))::(217,(Ng x))::(218,(zc x))::(220,(Nf x))::(221,(zc x))::(223,(Nd x))::(224,(Nc x))::(225,(zc x))::(227,(Nb x))::(228,(zc x))::(230,(Na x))::(231,(O_ x))::(232,(zc x))::(234,(O9 x))::(235,(zc x))::(237,(O8 x))::(238,(O7 x))::(239,(zc x))::(240,(O6 x))::(241,(PD x))::(242,(O5 x))::(243,(O4 x))::(246,(pX x))::(253,(zc x))::(255,(O3 x))::(256,(zc x))::(258,(O2 x))::(259,(O1 x))::(260,(zc x))::(262,(O0 x))::(263,(zc x))::(265,(OZ x))::(266,(OY x))::(267,(zc x))::(269,(OX x))::(270,(zc x))::(272,(OW x))::(273,(OV x))::(274,(OU x))::(275,(OT x))::(276,(OS x))::(279,(pX x))::(286,(zc x))::(288,(OR x))::(289,(zc x))::(291,(OQ x))::(292,(OP x))::(293,(zc x))::(295,(OO x))::(296,(zc x))::(298,(ON x))::(299,(OM x))::(300,(zc x))::(302,(OL x))::(303,(zc x))::(305,(OK x))::(306,(OJ x))::(307,(zc x))::(309,(OI x))::(310,(zc x))::(312,(OH x))::(313,(OG x))::(314,(OF x))::(315,(OE x))::(316,(OC x))::(319,(pX x))::(326,(zc x))::(328,(OB x))::(329,(zc x))::(331,(OA x))::(332,(Oz x))::(333,(zc x))::(335,(Oy x))::(336,(zc x))::(338,(Ox x))::(339,(Ow x))::(340,(zc x))::(342,(Ov x))::(343,(zc x))::(345,(Ou x))::(346,(Ot x))::(347,(zc x))::(349,(Os x))::(350,(zc x))::(352,(Oq x))::(353,(Oo x))::(354,(zc x))::(356,(On x))::(357,(zc x))::(359,(Om x))::(360,(Ol x))::(361,(Oj x))::(362,(Oi x))::(363,(Oh x))::(366,(pX x))::(373,(zc x))::(375,(Og x))::(376,(zc x))::(378,(Of x))::(379,(Oe x))::(380,(zc x))::(382,(Od x))::(383,(zc x))::(385,(Oc x))::(386,(Ob x))::(387,(zc x))::(389,(Oa x))::(390,(zc x))::(392,(P9 x))::(393,(P8 x))::(394,(P7 x))::(395,(P6 x))::(396,(P5 x))::(399,(pX x))::(406,(zc x))::(408,(P4 x))::(409,(zc x))::(411,(P3 x))::(412,(P0 x))::(413,(zc x))::(415,(PZ x))::(416,(zc x))::(418,(PY x))::(419,(PX x))::(420,(zc x))::(422,(PV x))::(423,(zc x))::(425,(PU x))::(426,(PR x))::(427,(zc x))::(429,(PQ x))::(430,(zc x))::(432,(PP x))::(433,(PN x))::(434,(zc x))::(436,(PM x))::(437,(zc x))::(439,(PL x))::(440,(PK x))::(441,(PJ x))::(442,(PH x))::(443,(PF x))::(446,(pX x))::(453,(zc x))::(455,(PB x))::(456,(zc x))::(458,(Pz x))::(459,(Py x))::(460,(zc x))::(462,(Px x))::(463,(zc x))::(465,(Pw x))::(466,(Pu x))::(467,(zc x))::(469,(Pt x))::(470,(zc x))::(472,(Ps x))::(473,(Pr x))::(474,(zc x))::(476,(Pq x))::(477,(zc x))::(479,(Pp x))::(480,(Po x))::(481,(zc x))::(483,(Pn x))::(484,(zc x))::(486,(Pm x))::(487,(Pl x))::(488,(zc x))::(490,(Pk x))::(491,(zc x))::(493,(Pj x))::(494,(Pi x))::(495,(Ph x))::(496,(Pg x))::(497,(Pf x))::(500,(zc x))::(502,(Pe x))::(503,(zc x))::(505,(Pd x))::(506,(Pc x))::(507,(zc x))::(509,(Pb x))::(510,(zc x))::(512,(Pa x))::(513,(Q_ x))::(514,(zc x))::(516,(Q9 x))::(517,(zc x))::(519,(Q8 x))::(520,(Q7 x))::(521,(zc x))::(523,(Q6 x))::(524,(zc x))::(526,(Q5 x))::(527,(Q4 x))::(528,(zc x))::(530,(Q3 x))::(531,(zc x))::(533,(Q2 x))::(534,(Q1 x))::(535,(zc x))::(537,(Q0 x))::(538,(zc x))::(540,(QZ x))::(541,(QY x))::(542,(zc x))::(544,(QX x))::(545,(zc x))::(547,(QW x))::(548,(QV x))::(549,(zc x))::(551,(QU x))::(552,(zc x))::(554,(QT x))::(555,(QS x))::(556,(zc x))::(558,(QR x))::(559,(zc x))::(561,(QQ x))::(562,(QP x))::(563,(zc x))::(565,(QO x))::(566,(zc x))::(568,(QN x))::(569,(QM x))::(570,(zc x))::(572,(QL x))::(573,(zc x))::(575,(QK x))::(576,(QJ x))::(577,(zc x))::(579,(QI x))::(580,(zc x))::(582,(QH x))::(583,(QG x))::(584,(zc x))::(586,(QF x))::(587,(zc x))::(589,(QE x))::(590,(QD x))::(591,(zc x))::(593,(QC x))::(594,(zc x))::(596,(QB x))::(597,(QA x))::(598,(zc x))::(600,(Qz x))::(601,(zc x))::(603,(Qy x))::(604,(Qx x))::(605,(zc x))::(607,(Qw x))::(608,(zc x))::(610,(Qv x))::(611,(Qu x))::(612,(zc x))::(614,(Qt x))::(615,(zc x))::(617,(Qs x))::(618,(Qr x))::(619,(zc x))::(621,(Qq x))::(622,(zc x))::(624,(Qp x))::(625,(Qo x))::(626,(zc x))::(628,(Qn x))::(629,(zc x))::(631,(Qm x))::(632,(Ql x))::(633,(zc x))::(635,(Qk x))::(636,(zc x))::(638,(Qj x))::(639,(Qi x))::(640,(zc x))::(642,(Qh x))::(643,(zc x))::(645,(Qg x))::(646,(Qf x))::(647,(zc x))::(649,(Qe x))::(650,(zc x))::(652,(Qc x))::(653,(Qb x))::(654,(zc x))::(656,(Qa x))::(657,(zc x))::(659,(R_ x))::(660,(R9 x))::(661,(zc x))::(663,(R8 x))::(664,(zc x))::(666,(R7 x))::(667,(R6 x))::(668,(zc x))::(670,(R5 x))::(671,(zc x))::(673,(R4 x))::(674,(R3 x))::(675,(zc x))::(677,(R1 x))::(678,(zc x))::(680,(R0 x))::(681,(RZ x))::(682,(zc x))::(684,(RY x))::(685,(zc x))::(687,(RX x))::(688,(RW x))::(689,(zc x))::(692,(RV x))::(693,(RU x))::(694,(zc x))::(697,(RT x))::(698,(RS x))::(699,(zc x))::(701,(RQ x))::(702,(zc x))::(704,(RP x))::(705,(RO x))::(706,(zc x))::(708,(RN x))::(709,(zc x))::(711,(RM x))::(712,(RL x))::(713,(zc x))::(715,(RK x))::(716,(zc x))::(718,(RJ x))::(719,(RI x))::(720,(zc x))::(722,(RH x))::(723,(zc x))::(725,(RG x))::(726,(RF x))::(727,(zc x))::(729,(RE x))::(730,(zc x))::(732,(RD x))::(733,(RC x))::(734,(zc x))::(736,(RB x))::(737,(zc x))::(739,(RA x))::(740,(Rz x))::(741,(zc x))::(743,(Ry x))::(744,(zc x))::(746,(Rx x))::(747,(Rw x))::(748,(zc x))::(750,(Rv x))::(751,(zc x))::(753,(Ru x))::(754,(Rt x))::(755,(zc x))::(757,(Rs x))::(758,(zc x))::(760,(Rr x))::(761,(Rq x))::(762,(zc x))::(764,(Rp x))::(765,(zc x))::(767,(Ro x))::(768,(Rn x))::(769,(zc x))::(772,(Rm x))::(773,(Rk x))::(774,(zc x))::(776,(Rj x))::(777,(zc x))::(779,(Ri x))::(780,(Rh x))::(781,(zc x))::(783,(Rg x))::(784,(zc x))::(786,(Rf x))::(787,(Re x))::(788,(zc x))::(790,(Rc x))::(791,(zc x))::(793,(Rb x))::(794,(Ra x))::(795,(zc x))::(798,(S9 x))::(799,(S8 x))::(800,(zc x))::(802,(S7 x))::(803,(zc x))::(805,(S6 x))::(806,(S5 x))::(807,(zc x))::(809,(S4 x))::(810,(zc x))::(812,(S3 x))::(813,(S2 x))::(814,(S1 x))::(815,(zc x))::(817,(S0 x))::(818,(zc x))::(820,(SZ x))::(821,(SY x))::(822,(zc x))::(824,(SW x))::(825,(zc x))::(827,(SV x))::(828,(SU x))::(829,(zc x))::(831,(ST x))::(832,(zc x))::(834,(SS x))::(835,(SR x))::(836,(zc x))::(838,(SQ x))::(839,(zc x))::(841,(SO x))::(842,(SN x))::(843,(zc x))::(845,(SM x))::(846,(zc x))::(848,(SL x))::(849,(SK x))::(850,(zc x))::(852,(SJ x))::(853,(zc x))::(855,(SI x))::(856,(SH x))::(857,(zc x))::(859,(SG x))::(860,(zc x))::(862,(SF x))::(863,(SE x))::(864,(zc x))::(866,(SD x))::(867,(zc x))::(869,(SB x))::(870,(SA x))::(871,(zc x))::(873,(Sz x))::(874,(zc x))::(876,(Sy x))::(877,(Sx x))::(878,(zc x))::(880,(Sw x))::(881,(zc x))::(883,(Sv x))::(884,(Su x))::(885,(zc x))::(888,(Ss x))::(889,(Sr x))::(890,(zc x))::(892,(Sq x))::(893,(zc x))::(895,(So x))::(896,(Sn x))::(897,(zc x))::(899,(Vm x))::(900,(zc x))::(902,(Vl x))::(903,(Vk x))::(904,(zc x))::(906,(Vj x))::(907,(zc x))::(909,(Vi x))::(910,(Vh x))::(911,(zc x))::(913,(Vg x))::(914,(zc x))::(916,(Vf x))::(917,(Ve x))::(918,(zc x))::(921,(Vd x))::(922,(Vc x))::(923,(zc x))::(926,(Vb x))::(927,(Va x))::(928,(zc x))::(930,(W_ x))::(931,(zc x))::(933,(W9 x))::(934,(W8 x))::(935,(zc x))::(937,(W7 x))::(938,(zc x))::(940,(W6 x))::(941,(W5 x))::(942,(zc x))::(944,(WZ x))::(945,(zc x))::(947,(WY x))::(948,(WX x))::(949,(zc x))::(951,(WW x))::(952,(zc x))::(954,(WV x))::(955,(WU x))::(956,(zc x))::(958,(WS x))::(959,(zc x))::(961,(WR x))::(962,(WQ x))::(963,(zc x))::(965,(WP x))::(966,(zc x))::(968,(WO x))::(969,(WN x))::(970,(zc x))::(972,(WM x))::(973,(zc x))::(975,(WL x))::(976,(WK x))::(977,(zc x))::(979,(WJ x))::(980,(zc x))::(982,(WI x))::(983,(WH x))::(984,(zc x))::(986,(WG x))::(987,(zc x))::(989,(WF x))::(990,(WE x))::(991,(zc x))::(993,(WD x))::(994,(zc x))::(996,(WC x))::(997,(WB x))::[]
end
def h_view_39:PySem.Program:={ PySem.Challenge.pw_oddbases_k59_rows_answered with main:={ PySem.Challenge.pw_oddbases_k59_rows_answered.main with body:=(My.T_ 1 11++My.T_ 13 5++My.T_ 19 8++My.T_ 28 2++My.T_ 31 7++My.T_ 39 2++My.T_ 43 8++My.T_ 52 2++My.T_ 55 2++My.T_ 58 4++My.T_ 63 10++My.T_ 74 11++My.T_ 86 7++My.T_ 94 21) } }
noncomputable def b0_:List (Params→Obj):=W.boot_o_0::W.boot_o_1::W.boot_o_2::WT::W.boot_o_4::W.boot_o_5::W.boot_o_6::W.boot_o_7::W.boot_o_8::W.boot_o_9::W.boot_o_10::zc::N7::o45::o46::o51::ur::o53::zc::zu::o56::o57::zc::o59::NM::o61::o62::o63::vm::ur::o69::zc::zu::o72::o73::zc::o75::o76::o77::o78::vm::ur::o84::zc::zu::o87::o88::zc::o90::o91::o92::o93::vm::ur::o99::zc::zu::Hc::Hb::zc::N9::N6::Ha::I_::vm::ur::I9::zc::zu::I8::I0::zc::NY::NX::IZ::IX::vm::ur::IW::zc::zu::IV::IU::zc::NW::NV::IT::IS::vm::ur::IQ::zc::zu::IO::IN::zc::NU::NT::IM::IL::vm::ur::IK::zc::zu::IJ::II::zc::NS::NR::IH::IG::vm::ur::IF::zc::zu::IE::ID::zc::NQ::NP::IC::IB::vm::ur::IA::zc::zu::Iz::Iy::zc::NO::NN::Ix::Iw::vm::ur::Iv::zc::zu::Iu::Ir::zc::NL::NK::Iq::Ip::zc::zu::NJ::zc::Io::NI::NH::zc::zu::NG::zc::Im::NF::NE::zc::zu::ND::zc::Il::NC::NB::zc::zu::NA::zc::Ik::Nz::Ny::zc::zu::Nw::zc::Ij::Nv::Nu::zc::zu::Nt::zc::Ii::Nr::Nq::zc::ur::Ih::zc::Ig::Ie::Id::zc::zu::Np::zc::Ic::No::Nn::zc::zu::Nl::zc::Ib::Nk::Nj::zc::zu::Ni::zc::Ia::Nh::Ng::zc::zu::Nf::zc::J_::Nd::Nc::zc::zu::Nb::zc::J9::Na::O_::zc::zu::O9::zc::J8::O8::O7::zc::O6::PD::O5::O4::J7::J0::pX::ur::JZ::zc::JY::JX::JW::zc::zu::O3::zc::JV::O2::O1::zc::zu::O0::zc::JU::OZ::OY::zc::zu::OX::zc::JT::OW::OV::OU::OT::OS::JS::JR::pX::ur::JN::zc::JM::JL::JK::zc::zu::OR::zc::JJ::OQ::OP::zc::zu::OO::zc::JI::ON::OM::zc::zu::OL::zc::JH::OK::OJ::zc::zu::OI::zc::JG::OH::OG::OF::OE::OC::JF::JE::pX::ur::JD::zc::JC::JB::JA::zc::zu::OB::zc::Jz::OA::Oz::zc::zu::Oy::zc::Jy::Ox::Ow::zc::zu::Ov::zc::Jx::Ou::Ot::zc::zu::Os::zc::Jw::Oq::Oo::zc::zu::On::zc::Jv::Om::Ol::Oj::Oi::Oh::Ju::Jt::pX::ur::Js::zc::Jr::Jq::Jp::zc::zu::Og::zc::Jo::Of::Oe::zc::zu::Od::zc::Jn::Oc::Ob::zc::zu::Oa::zc::Jm::P9::P8::P7::P6::P5::Jl::Jk::pX::ur::Jj::zc::Ji::Jh::Jg::zc::zu::P4::zc::Jf::P3::P0::zc::zu::PZ::zc::Je::PY::PX::zc::zu::PV::zc::Jd::PU::PR::zc::zu::PQ::zc::Jc::PP::PN::zc::zu::PM::zc::Jb::PL::PK::PJ::PH::PF::Ja::K_::pX::ur::K9::zc::K8::K7::K6::zc::zu::PB::zc::K5::Pz::Py::zc::zu::Px::zc::K4::Pw::Pu::zc::zu::Pt::zc::K3::Ps::Pr::zc::zu::Pq::zc::K2::Pp::Po::zc::zu::Pn::zc::K1::Pm::Pl::zc::zu::Pk::zc::K0::Pj::Pi::Ph::Pg::Pf::KZ::KY::zc::zu::Pe::zc::KW::Pd::Pc::zc::zu::Pb::zc::KU::Pa::Q_::zc::zu::Q9::zc::KT::Q8::Q7::zc::zu::Q6::zc::KS::Q5::Q4::zc::zu::Q3::zc::KR::Q2::Q1::zc::zu::Q0::zc::KQ::QZ::QY::zc::zu::QX::zc::KP::QW::QV::zc::zu::QU::zc::KO::QT::QS::zc::zu::QR::zc::KN::QQ::QP::zc::zu::QO::zc::KM::QN::QM::zc::zu::QL::zc::KL::QK::QJ::zc::zu::QI::zc::KK::QH::QG::zc::zu::QF::zc::KJ::QE::QD::zc::zu::QC::zc::KI::QB::QA::zc::zu::Qz::zc::KH::Qy::Qx::zc::zu::Qw::zc::KG::Qv::Qu::zc::zu::Qt::zc::KF::Qs::Qr::zc::zu::Qq::zc::KE::Qp::Qo::zc::zu::Qn::zc::KD::Qm::Ql::zc::zu::Qk::zc::KC::Qj::Qi::zc::zu::Qh::zc::KB::Qg::Qf::zc::zu::Qe::zc::KA::Qc::Qb::zc::zu::Qa::zc::Kz::R_::R9::zc::zu::R8::zc::Ky::R7::R6::zc::zu::R5::zc::Kx::R4::R3::zc::zu::R1::zc::Kw::R0::RZ::zc::zu::RY::zc::Kv::RX::RW::zc::zu::Ku::RV::RU::zc::zu::Kt::RT::RS::zc::zu::RQ::zc::Ks::RP::RO::zc::zu::RN::zc::Kr::RM::RL::zc::zu::RK::zc::Kq::RJ::RI::zc::zu::RH::zc::Kp::RG::RF::zc::zu::RE::zc::Ko::RD::RC::zc::zu::RB::zc::Kl::RA::Rz::zc::zu::Ry::zc::Kk::Rx::Rw::zc::zu::Rv::zc::Kj::Ru::Rt::zc::zu::Rs::zc::Kh::Rr::Rq::zc::zu::Rp::zc::Kg::Ro::Rn::zc::zu::Kf::Rm::Rk::zc::zu::Rj::zc::Ke::Ri::Rh::zc::zu::Rg::zc::Kc::Rf::Re::zc::zu::Rc::zc::Kb::Rb::Ra::zc::zu::Ka::S9::S8::zc::zu::S7::zc::L9::S6::S5::zc::zu::S4::zc::L8::S3::S2::S1::zc::zu::S0::zc::L5::SZ::SY::zc::zu::SW::zc::L4::SV::SU::zc::zu::ST::zc::L3::SS::SR::zc::zu::SQ::zc::L1::SO::SN::zc::zu::SM::zc::L0::SL::SK::zc::zu::SJ::zc::LZ::SI::SH::zc::zu::SG::zc::LY::SF::SE::zc::zu::SD::zc::LX::SB::SA::zc::zu::Sz::zc::LW::Sy::Sx::zc::zu::Sw::zc::LV::Sv::Su::zc::zu::LU::Ss::Sr::zc::zu::Sq::zc::LT::So::Sn::zc::zu::Vm::zc::Mh::Vl::Vk::zc::zu::Vj::zc::Mg::Vi::Vh::zc::zu::Vg::zc::Mf::Vf::Ve::zc::zu::Me::Vd::Vc::zc::zu::Md::Vb::Va::zc::zu::W_::zc::Mc::W9::W8::zc::zu::W7::zc::Mb::W6::W5::zc::zu::WZ::zc::Ma::WY::WX::zc::zu::WW::zc::N8::WV::WU::zc::zu::WS::zc::N5::WR::WQ::zc::zu::WP::zc::N4::WO::WN::zc::zu::WM::zc::N3::WL::WK::zc::zu::WJ::zc::N2::WI::WH::zc::zu::WG::zc::N1::WF::WE::zc::zu::WD::zc::NZ::WC::WB::[]
noncomputable def s0_(l:List (Params→Obj)):List (Nat×(Params→Obj))→List (Params→Obj)
 | []=>l
 | p::r=>s0_ (l.set p.1 p.2) r
noncomputable def e0_:List (Params→Obj)→List (Params→Obj)
 | []=>[]
 | [a]=>[a]
 | a::_::l=>a::e0_ l
noncomputable def tr_:Nat→List (Params→Obj)→Params→W.BT
 | n+1,a::l,x=>.node (a x) (tr_ n (e0_ l) x) (tr_ n (e0_ l.tail) x)
 | _,_,_=>.nil
def xM:((x:@Params)→@Heap):=(fun x=>(@Heap.mk (@Array.mk @Obj (q_ x b0_)) (@Life.mk [] [] [] 0 (@List.nil (@Prod @Nat @Nat)) [] @Bool.false #[] [] 0 @Bool.false @Bool.false @Bool.false (0:Int) [(2000:Int),(10:Int),(10:Int)] @Bool.false 0 @Bool.true [] [] 0 @Bool.false)))
def yQ:@Env:=(@Env.mk (@Module.scope (@Program.main ((@W.OpenRow.toRowW (@W.OpenLaw.row @Challenge.rw_oddbases_k59_rows_answered))).1)) @mainNs @mainNs (@List.nil (@Prod @Str @Addr)) @Str.empty (@Option.none @Addr) (r_ 13) (@some @Addr (@OfNat.ofNat @Addr 14 (@instOfNatNat 14))) (@OfNat.ofNat @Addr 0 (@instOfNatNat 0)))
def iM:Params→W.BT:=tr_ 12 (b0_)
def tH:(@List @Stmt):=(My.T_ 96 19)
def yO:Params→W.BT:=tr_ 12 (s0_ (b0_.take 871) [(3,L7),(12,L6)])
def qK:(@List @Stmt):=(My.T_ 86 10)
def yP:Params→W.BT:=tr_ 12 (s0_ (b0_.take 814) [(3,Kn),(12,Km)])
def qL:(@List @Stmt):=(My.T_ 23 63)
def eM:Params→W.BT:=tr_ 12 (s0_ (b0_.take 319) [(3,JQ),(12,JP),(241,JO)])
def iN:(@List @Stmt):=(My.T_ 0 23)
def bO:=N_ W.boot_o_0 (N_ W.boot_o_1 (N_ W.boot_o_3 (L_ W.boot_o_7) (L_ zc)) (N_ W.boot_o_5 (L_ W.boot_o_9) (L_ o45))) (N_ W.boot_o_2 (N_ W.boot_o_4 (L_ W.boot_o_8) (L_ zu)) (N_ W.boot_o_6 (L_ W.boot_o_10) (L_ o46)))
def bP:((x:@Params)→@Heap):=(fun x=>(@Heap.mk (@Array.mk @Obj [(@W.boot_o_0 x),(@W.boot_o_1 x),(@W.boot_o_2 x),(@W.boot_o_3 x),(@W.boot_o_4 x),(@W.boot_o_5 x),(@W.boot_o_6 x),(@W.boot_o_7 x),(@W.boot_o_8 x),(@W.boot_o_9 x),(@W.boot_o_10 x),(zc x),(zu x),(o45 x),(o46 x)]) (@Life.mk [] [] [] 0 (@List.nil (@Prod @Nat @Nat)) [] @Bool.false #[] [] 0 @Bool.false @Bool.false @Bool.false (0:Int) [(2000:Int),(10:Int),(10:Int)] @Bool.false 0 @Bool.true [] [] 0 @Bool.false)))
abbrev k2:=(@Life.mk [] [] [] 0 (@List.nil (@Prod @Nat @Nat)) [] @Bool.false #[] [] 0 @Bool.false @Bool.false @Bool.false (0:Int) [(2000:Int),(10:Int),(10:Int)] @Bool.false 0 @Bool.true [] [] 0 @Bool.false)
abbrev S_(t:Params→W.BT)(n k:Nat)(w:World)(o:OsState):W.SharedT:=W.SharedT.mk (t w.params) n k2 g_ d_ k o
abbrev k0(x0:World)(x1:OsState):=(@Shared.mk (@xM x0.params) g_ d_ 1560 x1)
abbrev k1:=(@W.OpenRow.toRowW (@W.OpenLaw.row @Challenge.rw_oddbases_k59_rows_answered))
abbrev k3:=(@Prod (@Prod (@List (@Option @FnShape)) @Bool) (@Prod (@List (@Option @PyProof.Rows.PlainShape)) (@Prod (@List (@Option (@Prod @PyProof.Rows.PlainShape @Bool))) (@Prod (@Prod (@List (@Option @FnShape)) @Bool) (@List (@Prod (@Option (@Prod (@List (@Option @FnShape)) @Bool)) (@Option (@Prod @PyProof.Rows.PlainShape @Bool))))))))
abbrev k4:=(@W.looseW @h_view_39 [(.ofString "has_figures_alone_writings"),(.ofString "has_figures_alone_texts"),(.ofString "COUNTS")])
abbrev k5:=(@Bool.true,((@pinGoodD (@PyProof.Rows.drecsOf @h_view_39)),((@PyProof.Rows.plainGoodE @h_view_39 k4),((@PyProof.Rows.plainGoodD @h_view_39 [(.ofString "has_figures_alone_writings"),(.ofString "has_figures_alone_texts"),(.ofString "COUNTS")]),((@W.wideGood @h_view_39),(@W.clsGoodW @h_view_39 [(.ofString "has_figures_alone_writings"),(.ofString "has_figures_alone_texts"),(.ofString "COUNTS")]))))))
abbrev k6(x0:World)(x1:OsState):=(@W.clsSeenW @h_view_39 [(.ofString "has_figures_alone_writings"),(.ofString "has_figures_alone_texts"),(.ofString "COUNTS")] (k0 x0 x1))
abbrev k7(x0:World)(x1:OsState):=(@PyProof.Rows.plainSeenD @h_view_39 [(.ofString "has_figures_alone_writings"),(.ofString "has_figures_alone_texts"),(.ofString "COUNTS")] (k0 x0 x1))
abbrev k8:=(@Code.body (@W.behindTheImports (k1).1) @yQ)
abbrev k9(x0:World)(x1:OsState):=(@ite @Bool (@Eq @Bool @Bool.true @Bool.true) (@instDecidableEqBool @Bool.true @Bool.true) (@BEq.beq @Nat (@instBEqOfDecidableEq @Nat @instDecidableEqNat) (@Array.size @GenState (@Shared.gens (k0 x0 x1))) 0) (@Bool.not (@leftWithCleanup (@Shared.gens (k0 x0 x1)))))
abbrev k10:=(@W.clsGoodW @h_view_39 [(.ofString "has_figures_alone_writings"),(.ofString "has_figures_alone_texts"),(.ofString "COUNTS")])
abbrev k11:=(@List (@Prod (@Option (@Prod (@List (@Option @FnShape)) @Bool)) (@Option (@Prod @PyProof.Rows.PlainShape @Bool))))
abbrev k12:=(@PyProof.Rows.plainGoodD @h_view_39 [(.ofString "has_figures_alone_writings"),(.ofString "has_figures_alone_texts"),(.ofString "COUNTS")])
abbrev k13(x0:World)(x1:OsState):=(@Bool.and (@Bool.and (@Bool.and (@W.staticsOk (@importedModules (@Module.body (@Program.main (k1).1))) (@W.boot_heap x0.params) (@xM x0.params)) (@W.namesBound (k1).1 (@xM x0.params))) (@W.gensDone (k0 x0 x1))) (@W.laidKept (@W.boot_heap x0.params) (@xM x0.params)))
abbrev k14:=(@Prod (@Prod (@Option @Str) (@List (@Prod @Str @Value))) (@Prod @Bool (@Prod @Bool k3)))
abbrev k15:=(@Prod @Flow (@Prod @W.SharedT (@Prod @Code @Pos)))
abbrev k16:=(@Eq.refl (@List @Addr) My.myAs)
abbrev k17:=(@importedModules (@Module.body (@Program.main (k1).1)))
abbrev k18:=(@W.openGood @h_view_39 [(.ofString "has_figures_alone_writings"),(.ofString "has_figures_alone_texts"),(.ofString "COUNTS")])
abbrev k19(x0:World)(x1:OsState):=(@pinSeenD @h_view_39 (@PyProof.Rows.drecsOf @h_view_39) (k0 x0 x1))
abbrev k20:=(@W.piecesOf @qK @yQ k8 (P_ 483 0 483 8) [(@W.topFrame (P_ 0 0 0 0))])
abbrev k21(x0:World)(x1:OsState):=(@PyProof.Rows.plainSeenE @h_view_39 k4 (k0 x0 x1))
abbrev k22:=(@Prod (@List (@Option @FnShape)) @Bool)
abbrev k23:=(@List.nil (@Prod @Str @W.WData))
abbrev k24(x0:World)(x1:OsState):=(@W.wideSeen @h_view_39 (k0 x0 x1))
abbrev k25:=(@Prod @Flow (@Prod @Shared (@Prod @Code @Pos)))
abbrev k26:=(@Nat.add 12 (@Nat.add 1 (@Nat.add 3577 (@Nat.add 3030 (@Nat.add 388 (@Nat.add 607 2))))))
abbrev k27:=(@List (@Option (@Prod @PyProof.Rows.PlainShape @Bool)))
abbrev k28:=(@HAppend.hAppend (@List @Stmt) (@List @Stmt) (@List @Stmt) (@instHAppendOfAppend (@List @Stmt) (@List.instAppend @Stmt)) @qK (@HAppend.hAppend (@List @Stmt) (@List @Stmt) (@List @Stmt) (@instHAppendOfAppend (@List @Stmt) (@List.instAppend @Stmt)) @tH []))
abbrev k29(x0:World)(x1:OsState):=(S_ eM 319 585 x0 x1)
abbrev k30(x0:World)(x1:OsState):=(S_ bO 15 187 x0 x1)
abbrev k31(x0:World)(x1:OsState):=(@Shared.mk (@bP x0.params) g_ d_ 187 x1)
abbrev k32(x0:World)(x1:OsState):=(@PyProof.Rows.tablesOk @h_view_39 (@Shared.heap (k0 x0 x1)))
abbrev k33(x0:World)(x1:OsState):=(@PyProof.Rows.tabsOk @h_view_39 (k0 x0 x1))
abbrev k34(x0:World)(x1:OsState):=(@Heap.accountedOkI (@Shared.heap (k0 x0 x1)) k17)
abbrev k35(x0:World)(x1:OsState):=(S_ iM 998 1560 x0 x1)
abbrev k36(x0:World)(x1:OsState):=(S_ yP 814 1268 x0 x1)
abbrev k37(x0:World)(x1:OsState):=(S_ yO 871 1367 x0 x1)
abbrev k38(x0:World)(x1:OsState):=(@Heap.isNs (@Shared.heap (k0 x0 x1)) @mainGlobals)
abbrev k39(x0:World)(x1:OsState):=(@Heap.isNs (@Shared.heap (k0 x0 x1)) @builtinsNs)
abbrev k40:=(@PyProof.Rows.plainGoodE @h_view_39 k4)
abbrev k41(x0:World)(x1:OsState):=(@Shared.mk (@W.boot_heap x0.params) g_ @W.boot_drawn @W.boot_toks x1)
abbrev k42:=(@PyProof.Rows.clssOf @h_view_39 k4)
abbrev k43:=(@Thread.mk (@denote @treeTable k8) k8 (P_ 0 0 0 0) [(@W.topFrame (P_ 0 0 0 0))])
abbrev kh0:=(@W.kHook @h_heap_39 My.myAs (fun x0=>(@id (@Eq (@List @Addr) My.myAs (@List.map (@Prod @Addr @Obj) @Addr (fun(x1:(@Prod @Addr @Obj))=>(@Prod.fst @Addr @Obj x1)) (@h_heap_39 x0))) k16)))
def pf_1137:((x0:World)→(@Eq ((x1:OsState)→(@W.Hook.α kh0)) (fun x1=>(@W.Hook.obs kh0 (k0 x0 x1))) (fun x1=>(@W.Hook.val kh0 x0)))):=by intros;kernel_rfl
def pf_1127:((x0:World)→(@Eq ((x1:OsState)→k11) (fun x1=>(k6 x0 x1)) (fun x1=>k10))):=by intros;kernel_rfl
def pf_1125:((x0:World)→(@Eq ((x1:OsState)→k22) (fun x1=>(k24 x0 x1)) (fun x1=>(@W.wideGood @h_view_39)))):=by intros;kernel_rfl
def pf_1128:((x0:World)→((x1:OsState)→(@Eq (@Prod k22 k11) ((k24 x0 x1),(k6 x0 x1)) ((@W.wideGood @h_view_39),k10)))):=(fun x0=>(fun x1=>(@W.looks_pair k22 k11 (k24 x0 x1) (@W.wideGood @h_view_39) (k6 x0 x1) k10 ((fun x2=>(fun x3=>(congrFun (My.pf_1125 x2) x3))) x0 x1) ((fun x2=>(fun x3=>(congrFun (My.pf_1127 x2) x3))) x0 x1))))
def pf_1123:((x0:World)→(@Eq ((x1:OsState)→k27) (fun x1=>(k7 x0 x1)) (fun x1=>k12))):=by intros;kernel_rfl
def pf_1129:((x0:World)→((x1:OsState)→(@Eq (@Prod k27 (@Prod k22 k11)) ((k7 x0 x1),((k24 x0 x1),(k6 x0 x1))) (k12,((@W.wideGood @h_view_39),k10))))):=(fun x0=>(fun x1=>(@W.looks_pair k27 (@Prod k22 k11) (k7 x0 x1) k12 ((k24 x0 x1),(k6 x0 x1)) ((@W.wideGood @h_view_39),k10) ((fun x2=>(fun x3=>(congrFun (My.pf_1123 x2) x3))) x0 x1) (@My.pf_1128 x0 x1))))
def pf_1121:((x0:World)→(@Eq ((x1:OsState)→(@List (@Option @PyProof.Rows.PlainShape))) (fun x1=>(k21 x0 x1)) (fun x1=>k40))):=by intros;kernel_rfl
def pf_1130:((x0:World)→((x1:OsState)→(@Eq (@Prod (@List (@Option @PyProof.Rows.PlainShape)) (@Prod k27 (@Prod k22 k11))) ((k21 x0 x1),((k7 x0 x1),((k24 x0 x1),(k6 x0 x1)))) (k40,(k12,((@W.wideGood @h_view_39),k10)))))):=(fun x0=>(fun x1=>(@W.looks_pair (@List (@Option @PyProof.Rows.PlainShape)) (@Prod k27 (@Prod k22 k11)) (k21 x0 x1) k40 ((k7 x0 x1),((k24 x0 x1),(k6 x0 x1))) (k12,((@W.wideGood @h_view_39),k10)) ((fun x2=>(fun x3=>(congrFun (My.pf_1121 x2) x3))) x0 x1) (@My.pf_1129 x0 x1))))
def pf_1119:((x0:World)→(@Eq ((x1:OsState)→k22) (fun x1=>(k19 x0 x1)) (fun x1=>(@pinGoodD (@PyProof.Rows.drecsOf @h_view_39))))):=by intros;kernel_rfl
def pf_1131:((x0:World)→((x1:OsState)→(@Eq k3 ((k19 x0 x1),((k21 x0 x1),((k7 x0 x1),((k24 x0 x1),(k6 x0 x1))))) ((@pinGoodD (@PyProof.Rows.drecsOf @h_view_39)),(k40,(k12,((@W.wideGood @h_view_39),k10))))))):=(fun x0=>(fun x1=>(@W.looks_pair k22 (@Prod (@List (@Option @PyProof.Rows.PlainShape)) (@Prod k27 (@Prod k22 k11))) (k19 x0 x1) (@pinGoodD (@PyProof.Rows.drecsOf @h_view_39)) ((k21 x0 x1),((k7 x0 x1),((k24 x0 x1),(k6 x0 x1)))) (k40,(k12,((@W.wideGood @h_view_39),k10))) ((fun x2=>(fun x3=>(congrFun (My.pf_1119 x2) x3))) x0 x1) (@My.pf_1130 x0 x1))))
def pf_1117:((x0:World)→(@Eq ((x1:OsState)→@Bool) (fun x1=>(k33 x0 x1)) (fun x1=>@Bool.true))):=by intros;kernel_rfl
def pf_1132:((x0:World)→((x1:OsState)→(@Eq (@Prod @Bool k3) ((k33 x0 x1),((k19 x0 x1),((k21 x0 x1),((k7 x0 x1),((k24 x0 x1),(k6 x0 x1)))))) k5))):=(fun x0=>(fun x1=>(@W.looks_pair @Bool k3 (k33 x0 x1) @Bool.true ((k19 x0 x1),((k21 x0 x1),((k7 x0 x1),((k24 x0 x1),(k6 x0 x1))))) ((@pinGoodD (@PyProof.Rows.drecsOf @h_view_39)),(k40,(k12,((@W.wideGood @h_view_39),k10)))) ((fun x2=>(fun x3=>(congrFun (My.pf_1117 x2) x3))) x0 x1) (@My.pf_1131 x0 x1))))
def pf_1115:((x0:World)→(@Eq ((x1:OsState)→@Bool) (fun x1=>(@Bool.and (@Bool.and (@Bool.and (@Bool.and (@Bool.and (@Bool.and (@Heap.keysOk (@Shared.heap (k0 x0 x1)) k4 (@List.map @DefRec @Str (fun(x2:@DefRec)=>(@DefRec.name x2)) (@PyProof.Rows.recsOf @h_view_39)) (@List.map (@Prod @Str @PyData) @Str (fun(x2:(@Prod @Str @PyData))=>(@Prod.fst @Str @PyData x2)) (@PyProof.Rows.litsOf @h_view_39)) (@List.map @ClsRec @Str (fun(x2:@ClsRec)=>(@ClsRec.name x2)) k42)) (k34 x0 x1)) (k38 x0 x1)) (k39 x0 x1)) (k32 x0 x1)) ((fun(x2:@Shared)=>(@Bool.and (@W.xlAt @h_view_39 k23 x2) (@W.recOk (@W.RowW.records k1) x2))) (k0 x0 x1))) (k9 x0 x1))) (fun x1=>@Bool.true))):=by intros;kernel_rfl
def pf_1133:((x0:World)→((x1:OsState)→(@Eq (@Prod @Bool (@Prod @Bool k3)) ((@Bool.and (@Bool.and (@Bool.and (@Bool.and (@Bool.and (@Bool.and (@Heap.keysOk (@Shared.heap (k0 x0 x1)) k4 (@List.map @DefRec @Str (fun(x2:@DefRec)=>(@DefRec.name x2)) (@PyProof.Rows.recsOf @h_view_39)) (@List.map (@Prod @Str @PyData) @Str (fun(x2:(@Prod @Str @PyData))=>(@Prod.fst @Str @PyData x2)) (@PyProof.Rows.litsOf @h_view_39)) (@List.map @ClsRec @Str (fun(x2:@ClsRec)=>(@ClsRec.name x2)) k42)) (k34 x0 x1)) (k38 x0 x1)) (k39 x0 x1)) (k32 x0 x1)) ((fun(x2:@Shared)=>(@Bool.and (@W.xlAt @h_view_39 k23 x2) (@W.recOk (@W.RowW.records k1) x2))) (k0 x0 x1))) (k9 x0 x1)),((k33 x0 x1),((k19 x0 x1),((k21 x0 x1),((k7 x0 x1),((k24 x0 x1),(k6 x0 x1))))))) (@Bool.true,k5)))):=(fun x0=>(fun x1=>(@W.looks_pair @Bool (@Prod @Bool k3) (@Bool.and (@Bool.and (@Bool.and (@Bool.and (@Bool.and (@Bool.and (@Heap.keysOk (@Shared.heap (k0 x0 x1)) k4 (@List.map @DefRec @Str (fun(x2:@DefRec)=>(@DefRec.name x2)) (@PyProof.Rows.recsOf @h_view_39)) (@List.map (@Prod @Str @PyData) @Str (fun(x2:(@Prod @Str @PyData))=>(@Prod.fst @Str @PyData x2)) (@PyProof.Rows.litsOf @h_view_39)) (@List.map @ClsRec @Str (fun(x2:@ClsRec)=>(@ClsRec.name x2)) k42)) (k34 x0 x1)) (k38 x0 x1)) (k39 x0 x1)) (k32 x0 x1)) ((fun(x2:@Shared)=>(@Bool.and (@W.xlAt @h_view_39 k23 x2) (@W.recOk (@W.RowW.records k1) x2))) (k0 x0 x1))) (k9 x0 x1)) @Bool.true ((k33 x0 x1),((k19 x0 x1),((k21 x0 x1),((k7 x0 x1),((k24 x0 x1),(k6 x0 x1)))))) k5 ((fun x2=>(fun x3=>(congrFun (My.pf_1115 x2) x3))) x0 x1) (@My.pf_1132 x0 x1))))
def pf_1113:((x0:World)→(@Eq ((x1:OsState)→(@Prod (@Option @Str) (@List (@Prod @Str @Value)))) (fun x1=>(@Heap.bltView (@Shared.heap (k0 x0 x1)))) (fun x1=>@bltViewBooted))):=by intros;kernel_rfl
def pf_1134:((x0:World)→((x1:OsState)→(@Eq k14 ((@Heap.bltView (@Shared.heap (k0 x0 x1))),((@Bool.and (@Bool.and (@Bool.and (@Bool.and (@Bool.and (@Bool.and (@Heap.keysOk (@Shared.heap (k0 x0 x1)) k4 (@List.map @DefRec @Str (fun(x2:@DefRec)=>(@DefRec.name x2)) (@PyProof.Rows.recsOf @h_view_39)) (@List.map (@Prod @Str @PyData) @Str (fun(x2:(@Prod @Str @PyData))=>(@Prod.fst @Str @PyData x2)) (@PyProof.Rows.litsOf @h_view_39)) (@List.map @ClsRec @Str (fun(x2:@ClsRec)=>(@ClsRec.name x2)) k42)) (k34 x0 x1)) (k38 x0 x1)) (k39 x0 x1)) (k32 x0 x1)) ((fun(x2:@Shared)=>(@Bool.and (@W.xlAt @h_view_39 k23 x2) (@W.recOk (@W.RowW.records k1) x2))) (k0 x0 x1))) (k9 x0 x1)),((k33 x0 x1),((k19 x0 x1),((k21 x0 x1),((k7 x0 x1),((k24 x0 x1),(k6 x0 x1)))))))) (@bltViewBooted,(@Bool.true,k5))))):=(fun x0=>(fun x1=>(@W.looks_pair (@Prod (@Option @Str) (@List (@Prod @Str @Value))) (@Prod @Bool (@Prod @Bool k3)) (@Heap.bltView (@Shared.heap (k0 x0 x1))) @bltViewBooted ((@Bool.and (@Bool.and (@Bool.and (@Bool.and (@Bool.and (@Bool.and (@Heap.keysOk (@Shared.heap (k0 x0 x1)) k4 (@List.map @DefRec @Str (fun(x2:@DefRec)=>(@DefRec.name x2)) (@PyProof.Rows.recsOf @h_view_39)) (@List.map (@Prod @Str @PyData) @Str (fun(x2:(@Prod @Str @PyData))=>(@Prod.fst @Str @PyData x2)) (@PyProof.Rows.litsOf @h_view_39)) (@List.map @ClsRec @Str (fun(x2:@ClsRec)=>(@ClsRec.name x2)) k42)) (k34 x0 x1)) (k38 x0 x1)) (k39 x0 x1)) (k32 x0 x1)) ((fun(x2:@Shared)=>(@Bool.and (@W.xlAt @h_view_39 k23 x2) (@W.recOk (@W.RowW.records k1) x2))) (k0 x0 x1))) (k9 x0 x1)),((k33 x0 x1),((k19 x0 x1),((k21 x0 x1),((k7 x0 x1),((k24 x0 x1),(k6 x0 x1))))))) (@Bool.true,k5) ((fun x2=>(fun x3=>(congrFun (My.pf_1113 x2) x3))) x0 x1) (@My.pf_1133 x0 x1))))
def pf_1111:((x0:World)→(@Eq ((x1:OsState)→@PyProof.Rows.Seen) (fun x1=>(@PyProof.Rows.seen (@List.map @DefRec @Str (fun(x2:@DefRec)=>(@DefRec.name x2)) (@PyProof.Rows.recsOf @h_view_39)) (@PyProof.Rows.ownsOf @h_view_39) [] (@Shared.mk (@Shared.heap (k0 x0 x1)) #[] (@Shared.drawn (k0 x0 x1)) (@Shared.toks (k0 x0 x1)) (@Shared.os (k0 x0 x1))))) (fun x1=>(@PyProof.Rows.expectedOf @h_view_39)))):=by intros;kernel_rfl
def pf_1135:((x0:World)→((x1:OsState)→(@Eq (@Prod @PyProof.Rows.Seen k14) (@W.openSeen @h_view_39 [(.ofString "has_figures_alone_writings"),(.ofString "has_figures_alone_texts"),(.ofString "COUNTS")] k17 (fun(x2:@Shared)=>(@Bool.and (@W.xlAt @h_view_39 k23 x2) (@W.recOk (@W.RowW.records k1) x2))) @Bool.true (k0 x0 x1)) k18))):=(fun x0=>(fun x1=>(@W.looks_pair @PyProof.Rows.Seen k14 (@PyProof.Rows.seen (@List.map @DefRec @Str (fun(x2:@DefRec)=>(@DefRec.name x2)) (@PyProof.Rows.recsOf @h_view_39)) (@PyProof.Rows.ownsOf @h_view_39) [] (@Shared.mk (@Shared.heap (k0 x0 x1)) #[] (@Shared.drawn (k0 x0 x1)) (@Shared.toks (k0 x0 x1)) (@Shared.os (k0 x0 x1)))) (@PyProof.Rows.expectedOf @h_view_39) ((@Heap.bltView (@Shared.heap (k0 x0 x1))),((@Bool.and (@Bool.and (@Bool.and (@Bool.and (@Bool.and (@Bool.and (@Heap.keysOk (@Shared.heap (k0 x0 x1)) k4 (@List.map @DefRec @Str (fun(x2:@DefRec)=>(@DefRec.name x2)) (@PyProof.Rows.recsOf @h_view_39)) (@List.map (@Prod @Str @PyData) @Str (fun(x2:(@Prod @Str @PyData))=>(@Prod.fst @Str @PyData x2)) (@PyProof.Rows.litsOf @h_view_39)) (@List.map @ClsRec @Str (fun(x2:@ClsRec)=>(@ClsRec.name x2)) k42)) (k34 x0 x1)) (k38 x0 x1)) (k39 x0 x1)) (k32 x0 x1)) ((fun(x2:@Shared)=>(@Bool.and (@W.xlAt @h_view_39 k23 x2) (@W.recOk (@W.RowW.records k1) x2))) (k0 x0 x1))) (k9 x0 x1)),((k33 x0 x1),((k19 x0 x1),((k21 x0 x1),((k7 x0 x1),((k24 x0 x1),(k6 x0 x1)))))))) (@bltViewBooted,(@Bool.true,k5)) ((fun x2=>(fun x3=>(congrFun (My.pf_1111 x2) x3))) x0 x1) (@My.pf_1134 x0 x1))))
def pf_1138:((x0:World)→((x1:OsState)→(@Eq (@Prod (@Prod @PyProof.Rows.Seen k14) (@W.Hook.α kh0)) ((@W.openSeen @h_view_39 [(.ofString "has_figures_alone_writings"),(.ofString "has_figures_alone_texts"),(.ofString "COUNTS")] k17 (fun(x2:@Shared)=>(@Bool.and (@W.xlAt @h_view_39 k23 x2) (@W.recOk (@W.RowW.records k1) x2))) @Bool.true (k0 x0 x1)),(@W.Hook.obs kh0 (k0 x0 x1))) (k18,(@W.Hook.val kh0 x0))))):=(fun x0=>(fun x1=>(@W.looks_pair (@Prod @PyProof.Rows.Seen k14) (@W.Hook.α kh0) (@W.openSeen @h_view_39 [(.ofString "has_figures_alone_writings"),(.ofString "has_figures_alone_texts"),(.ofString "COUNTS")] k17 (fun(x2:@Shared)=>(@Bool.and (@W.xlAt @h_view_39 k23 x2) (@W.recOk (@W.RowW.records k1) x2))) @Bool.true (k0 x0 x1)) k18 (@W.Hook.obs kh0 (k0 x0 x1)) (@W.Hook.val kh0 x0) (@My.pf_1135 x0 x1) ((fun x2=>(fun x3=>(congrFun (My.pf_1137 x2) x3))) x0 x1))))
def pf_1109:((x0:World)→(@Eq ((x1:OsState)→@Bool) (fun x1=>(k13 x0 x1)) (fun x1=>@Bool.true))):=by intros;kernel_rfl
def pf_1139:((x0:World)→((x1:OsState)→(@Eq (@Prod @Bool (@Prod (@Prod @PyProof.Rows.Seen k14) (@W.Hook.α kh0))) ((k13 x0 x1),((@W.openSeen @h_view_39 [(.ofString "has_figures_alone_writings"),(.ofString "has_figures_alone_texts"),(.ofString "COUNTS")] k17 (fun(x2:@Shared)=>(@Bool.and (@W.xlAt @h_view_39 k23 x2) (@W.recOk (@W.RowW.records k1) x2))) @Bool.true (k0 x0 x1)),(@W.Hook.obs kh0 (k0 x0 x1)))) (@Bool.true,(k18,(@W.Hook.val kh0 x0)))))):=(fun x0=>(fun x1=>(@W.looks_pair @Bool (@Prod (@Prod @PyProof.Rows.Seen k14) (@W.Hook.α kh0)) (k13 x0 x1) @Bool.true ((@W.openSeen @h_view_39 [(.ofString "has_figures_alone_writings"),(.ofString "has_figures_alone_texts"),(.ofString "COUNTS")] k17 (fun(x2:@Shared)=>(@Bool.and (@W.xlAt @h_view_39 k23 x2) (@W.recOk (@W.RowW.records k1) x2))) @Bool.true (k0 x0 x1)),(@W.Hook.obs kh0 (k0 x0 x1))) (k18,(@W.Hook.val kh0 x0)) ((fun x2=>(fun x3=>(congrFun (My.pf_1109 x2) x3))) x0 x1) (@My.pf_1138 x0 x1))))
def pf_1104:((x0:World)→(@Eq ((x1:OsState)→(@Option @Shared)) (fun x1=>(@W.topRun @treeTable (k1).1 x0 11 v_ 2 (@W.SharedT.abs (k35 x0 x1)) (@Thread.mk (@W.doneF @Flow.next) k8 (P_ 695 0 699 15) [(@W.topFrame (P_ 0 0 0 0))]))) (fun x1=>(@some @Shared (k0 x0 x1))))):=by intros;kernel_rfl
def pf_971:((x0:World)→(@Eq ((x1:OsState)→(@Option k15)) (fun x1=>(@W.segRunT @treeTable (k1).1 (@World.withFollow x0 "special-get-raises" @Bool.true) 11 v_ 1 388 (@W.SharedT.mk (@yP (@World.params (@World.withFollow x0 "special-get-raises" @Bool.true))) 814 k2 g_ d_ 1268 x1) k20)) (fun x1=>(@some k15 (@Flow.next,((@W.SharedT.mk (@yO (@World.params (@World.withFollow x0 "special-get-raises" @Bool.true))) 871 k2 g_ d_ 1367 x1),(k8,(P_ 533 0 536 12)))))))):=by intros;kernel_rfl
def pf_969:((x0:World)→(@Eq ((x1:OsState)→(@Option k15)) (fun x1=>(@W.segRunT @treeTable (k1).1 (@World.withFollow x0 "special-get-raises" @Bool.false) 11 v_ 1 388 (@W.SharedT.mk (@yP (@World.params (@World.withFollow x0 "special-get-raises" @Bool.false))) 814 k2 g_ d_ 1268 x1) k20)) (fun x1=>(@some k15 (@Flow.next,((@W.SharedT.mk (@yO (@World.params (@World.withFollow x0 "special-get-raises" @Bool.false))) 871 k2 g_ d_ 1367 x1),(k8,(P_ 533 0 536 12)))))))):=by intros;kernel_rfl
def pf_49:((x0:World)→(@Eq ((x1:OsState)→(@Option k25)) (fun x1=>(@W.segRun @treeTable (k1).1 x0 11 v_ 1 1 (k31 x0 x1) (@W.blockOf (@W.behindTheImports (k1).1) @yQ k8 (P_ 0 0 0 0) [(@W.topFrame (P_ 0 0 0 0))]))) (fun x1=>(@some k25 (@Flow.next,((@W.SharedT.abs (k30 x0 x1)),(k8,(P_ 0 0 0 0)))))))):=by intros;kernel_rfl
def pf_47:((x0:World)→(@Eq ((x1:OsState)→(@Option (@Prod @Shared @Thread))) (fun x1=>(@W.topGo @treeTable (k1).1 x0 11 v_ 12 (k41 x0 x1) (@W.topStub (k1).1))) (fun x1=>(@some (@Prod @Shared @Thread) ((k31 x0 x1),k43))))):=by intros;kernel_rfl
def pf_395:((x0:World)→(@Eq ((x1:OsState)→(@Option k15)) (fun x1=>(@W.segRunT @treeTable (k1).1 x0 11 v_ 1 3577 (k30 x0 x1) (@W.piecesOf @iN @yQ k8 (P_ 0 0 0 0) [(@W.topFrame (P_ 0 0 0 0))]))) (fun x1=>(@some k15 (@Flow.next,((k29 x0 x1),(k8,(P_ 87 0 99 31)))))))):=by intros;kernel_rfl
def pf_910:((x0:World)→(@Eq ((x1:OsState)→(@Option k15)) (fun x1=>(@W.segRunT @treeTable (k1).1 x0 11 v_ 1 3030 (k29 x0 x1) (@W.piecesOf @qL @yQ k8 (P_ 87 0 99 31) [(@W.topFrame (P_ 0 0 0 0))]))) (fun x1=>(@some k15 (@Flow.next,((k36 x0 x1),(k8,(P_ 483 0 483 8)))))))):=by intros;kernel_rfl
def pf_1102:((x0:World)→(@Eq ((x1:OsState)→(@Option k15)) (fun x1=>(@W.segRunT @treeTable (k1).1 x0 11 v_ 1 607 (k37 x0 x1) (@W.piecesOf @tH @yQ k8 (P_ 533 0 536 12) [(@W.topFrame (P_ 0 0 0 0))]))) (fun x1=>(@some k15 (@Flow.next,((k35 x0 x1),(k8,(P_ 695 0 699 15)))))))):=by intros;kernel_rfl
def pf_1105:((x0:World)→((x1:OsState)→(@Eq (@Option @Shared) (@W.topRun @treeTable (k1).1 x0 11 v_ k26 (k41 x0 x1) (@W.topStub (k1).1)) (@some @Shared (k0 x0 x1))))):=(fun x0=>(fun x1=>(@W.go_top @treeTable (k1).1 x0 11 v_ 12 (@Nat.add 1 (@Nat.add 3577 (@Nat.add 3030 (@Nat.add 388 (@Nat.add 607 2))))) (k41 x0 x1) (k31 x0 x1) (k0 x0 x1) (@W.topStub (k1).1) k43 (congrFun (My.pf_47 x0) x1) (@W.piece_block @treeTable (k1).1 x0 11 v_ @yQ (P_ 0 0 0 0) 1 (@Nat.add 3577 (@Nat.add 3030 (@Nat.add 388 (@Nat.add 607 2)))) (k31 x0 x1) (@W.SharedT.abs (k30 x0 x1)) (k0 x0 x1) (@W.behindTheImports (k1).1) k8 (P_ 0 0 0 0) (P_ 0 0 0 0) (congrFun (My.pf_49 x0) x1) (@W.piece_app @treeTable (k1).1 x0 11 v_ @yQ (P_ 0 0 0 0) 3577 (@Nat.add 3030 (@Nat.add 388 (@Nat.add 607 2))) (@W.SharedT.abs (k30 x0 x1)) (@W.SharedT.abs (k29 x0 x1)) (k0 x0 x1) @iN (@HAppend.hAppend (@List @Stmt) (@List @Stmt) (@List @Stmt) (@instHAppendOfAppend (@List @Stmt) (@List.instAppend @Stmt)) @qL k28) k8 (P_ 0 0 0 0) (P_ 87 0 99 31) (My.sg_ (congrFun (My.pf_395 x0) x1)) (@W.piece_app @treeTable (k1).1 x0 11 v_ @yQ (P_ 0 0 0 0) 3030 (@Nat.add 388 (@Nat.add 607 2)) (@W.SharedT.abs (k29 x0 x1)) (@W.SharedT.abs (k36 x0 x1)) (k0 x0 x1) @qL k28 k8 (P_ 87 0 99 31) (P_ 483 0 483 8) (My.sg_ (congrFun (My.pf_910 x0) x1)) (@W.piece_app @treeTable (k1).1 x0 11 v_ @yQ (P_ 0 0 0 0) 388 (@Nat.add 607 2) (@W.SharedT.abs (k36 x0 x1)) (@W.SharedT.abs (k37 x0 x1)) (k0 x0 x1) @qK (@HAppend.hAppend (@List @Stmt) (@List @Stmt) (@List @Stmt) (@instHAppendOfAppend (@List @Stmt) (@List.instAppend @Stmt)) @tH []) k8 (P_ 483 0 483 8) (P_ 533 0 536 12) (@congrFun @OsState (fun x2=>(@Option k25)) (fun x2=>(@W.segRun @treeTable (k1).1 x0 11 v_ 1 388 (@W.SharedT.abs (S_ yP 814 1268 x0 x2)) k20)) (fun x2=>(@some k25 (@Flow.next,((@W.SharedT.abs (S_ yO 871 1367 x0 x2)),(k8,(P_ 533 0 536 12)))))) ((fun x2=>(@funext @OsState (fun x3=>(@Option k25)) (fun x3=>(@W.segRun @treeTable (k1).1 x2 11 v_ 1 388 (@W.SharedT.abs (@W.SharedT.mk (@yP (@World.params x2)) 814 k2 g_ d_ 1268 x3)) k20)) (fun x3=>(@some k25 (@Flow.next,((@W.SharedT.abs (@W.SharedT.mk (@yO (@World.params x2)) 871 k2 g_ d_ 1367 x3)),(k8,(P_ 533 0 536 12)))))) (fun x3=>(@W.segRun_of @treeTable (k1).1 x2 11 v_ 1 388 (@W.SharedT.mk (@yP (@World.params x2)) 814 k2 g_ d_ 1268 x3) (@W.SharedT.mk (@yO (@World.params x2)) 871 k2 g_ d_ 1367 x3) k20 @Flow.next k8 (P_ 533 0 536 12) (@congrFun @OsState (fun x4=>(@Option k15)) (fun x4=>(@W.segRunT @treeTable (k1).1 x2 11 v_ 1 388 (@W.SharedT.mk (@yP (@World.params x2)) 814 k2 g_ d_ 1268 x4) k20)) (fun x4=>(@some k15 (@Flow.next,((@W.SharedT.mk (@yO (@World.params x2)) 871 k2 g_ d_ 1367 x4),(k8,(P_ 533 0 536 12)))))) (@W.byRow2 "special-get-raises" (fun x4=>(@Eq ((x5:@OsState)→(@Option k15)) (fun x5=>(@W.segRunT @treeTable (k1).1 x4 11 v_ 1 388 (@W.SharedT.mk (@yP (@World.params x4)) 814 k2 g_ d_ 1268 x5) k20)) (fun x5=>(@some k15 (@Flow.next,((@W.SharedT.mk (@yO (@World.params x4)) 871 k2 g_ d_ 1367 x5),(k8,(P_ 533 0 536 12)))))))) @My.pf_969 @My.pf_971 x2) x3))))) x0) x1) (@W.piece_app @treeTable (k1).1 x0 11 v_ @yQ (P_ 0 0 0 0) 607 2 (@W.SharedT.abs (k37 x0 x1)) (@W.SharedT.abs (k35 x0 x1)) (k0 x0 x1) @tH [] k8 (P_ 533 0 536 12) (P_ 695 0 699 15) (My.sg_ (congrFun (My.pf_1102 x0) x1)) (congrFun (My.pf_1104 x0) x1)))))))))
def pf_1107:((x0:World)→(@Eq (@Prod @Bool (@Prod @Nat (@Option @Value))) ((@Bool.and (@Heap.isNs (@W.boot_heap x0.params) @mainGlobals) (@BEq.beq @Nat (@instBEqOfDecidableEq @Nat @instDecidableEqNat) (@Array.size @GenState g_) 0)),((@Array.size @Obj (@Heap.objs (@W.boot_heap x0.params))),(@Heap.nsMap (@W.boot_heap x0.params) @mainGlobals (.ofString "__annotations__")))) (@Bool.true,(11,v_)))):=by intros;kernel_rfl
def pf_43:((x0:@Shared)→(@Eq (@Option @Shared) (@fenceModules? (k1).1 x0) (@some @Shared x0))):=by intros;kernel_rfl
def pf_42:(@Eq @Program (@W.opening (k1).1) (@W.plainProg (@Scope.names (@Module.scope (@Program.main (k1).1))))):=by intros;kernel_rfl
def left:(@W.LeftO (k1).1 @h_view_39 [(.ofString "has_figures_alone_writings"),(.ofString "has_figures_alone_texts"),(.ofString "COUNTS")] (fun(x0:@Shared)=>(@Bool.and (@W.xlAt @h_view_39 k23 x0) (@W.recOk (@W.RowW.records k1) x0))) (@W.Hook.α kh0) (@W.Hook.obs kh0) (@W.Hook.val kh0) 15278 @Bool.true):=(@W.LeftO.of_pieces (k1).1 @h_view_39 [(.ofString "has_figures_alone_writings"),(.ofString "has_figures_alone_texts"),(.ofString "COUNTS")] (fun(x0:@Shared)=>(@Bool.and (@W.xlAt @h_view_39 k23 x0) (@W.recOk (@W.RowW.records k1) x0))) (@W.Hook.α kh0) (@W.Hook.obs kh0) (@W.Hook.val kh0) 15278 @Bool.true @W.boot_heap @xM g_ g_ @W.boot_drawn d_ @W.boot_toks 1560 11 v_ k26 (@W.boot_open (k1).1 15278 @My.pf_42 (@of_decide_eq_true (@Eq @Bool (@Nat.ble 600 15278) @Bool.true) (@instDecidableEqBool (@Nat.ble 600 15278) @Bool.true) (@id (@Eq @Bool (@Decidable.decide (@Eq @Bool (@Nat.ble 600 15278) @Bool.true) (@instDecidableEqBool (@Nat.ble 600 15278) @Bool.true)) @Bool.true) (@Eq.refl @Bool @Bool.true))) @My.pf_43) @My.pf_1107 @My.pf_1105 (@of_decide_eq_true (@Eq @Bool (@Nat.ble k26 15278) @Bool.true) (@instDecidableEqBool (@Nat.ble k26 15278) @Bool.true) (@id (@Eq @Bool (@Decidable.decide (@Eq @Bool (@Nat.ble k26 15278) @Bool.true) (@instDecidableEqBool (@Nat.ble k26 15278) @Bool.true)) @Bool.true) (@Eq.refl @Bool @Bool.true))) (fun x0=>(@funext @OsState (fun x1=>(@Prod @Bool (@Prod (@Prod @PyProof.Rows.Seen k14) (@W.Hook.α kh0)))) (fun x1=>((k13 x0 x1),((@W.openSeen @h_view_39 [(.ofString "has_figures_alone_writings"),(.ofString "has_figures_alone_texts"),(.ofString "COUNTS")] k17 (fun(x2:@Shared)=>(@Bool.and (@W.xlAt @h_view_39 k23 x2) (@W.recOk (@W.RowW.records k1) x2))) @Bool.true (k0 x0 x1)),(@W.Hook.obs kh0 (k0 x0 x1))))) (fun x1=>(@Bool.true,(k18,(@W.Hook.val kh0 x0)))) (fun x1=>(@My.pf_1139 x0 x1)))))
end My
end
def My.myE:∀P,My.myAs=(My.h_heap_39 P).map (·.1):=fun _=>by kernel_rfl
set_option maxRecDepth 100000
set_option maxHeartbeats 4000000
namespace OD
open PySem PySem.Spec PyProof.Rows L2
abbrev St:=L2.St
noncomputable def Zx(X:Cx):Hp:=if X.stack.length=X.outer.length∨X.fn ""=false then(fun _=>none) else X.H₀
def VP{CX:CXT}{P:Program}{w:World}{K:Bq}{mg:be}{base:Heap}{N:List Str}{qual:Str}{scope:Scope}{f:Addr}{cd:Value}{A:Around}{outer:List Env}{s:Shared}{H:Hp}{E:XK}:Zx (ub CX P w K mg base N qual scope f cd A outer s H E)=H:=if_neg (fun z=>z.elim (C0 _) (fun z=>Bool.noConfusion z))
def gO{X:Cx}(h:X.stack.length≠X.outer.length)(hf:X.fn ""=true:=by rfl):Zx X=X.H₀:=if_neg (fun z=>z.elim h (fun z=>by rw[hf]at z;cases z))
structure DtP where
 is:Hp→V→Prop
 mono:∀{g g':Hp}{v:V},(∀a o,g a=some o→g' a=some o)→is g v→is g' v
 ref:∀{g:Hp}{v:V},is g v→∃a,v=.ref a
inductive Dt where
 | non|bl (b:Bool)|int (i:Int)|str (x:Str)|tup (ds:List Dt)|lst (ds:List Dt)|scr (ns:List Int)|way (C:Addr) (f:Str) (n:Int)|exc (C:Addr)|opq (φ:DtP)
def Vx(a C:Addr):Heap→Prop:=fun h=>∃o,h.get? a=some o∧o.cls=.ref C
mutual
def Is(K:Bq)(H:Hp):Dt→V→Prop
 | .non,v=>v=.non
 | .bl b,v=>v=.bl b
 | .int i,v=>v=.int i
 | .str x,v=>v=.str x
 | .tup ds,v=>∃a xs,v=.ref a∧H a=some (.tup xs)∧AllIs K H ds xs
 | .lst ds,v=>∃a xs,v=.ref a∧H a=some (.lst xs)∧AllIs K H ds xs
 | .scr ns,v=>∃a,v=.ref a∧SqL K H a (ns.map V.int)
 | .way C f n,v=>∃a dx,v=.ref a∧H a=some (.ins C dx [(f,.int n)])
 | .exc C,v=>∃a,v=.ref a∧H a=some (.ext (Vx a C))
 | .opq φ,v=>φ.is H v
def AllIs(K:Bq)(H:Hp):List Dt→List V→Prop
 | [],xs=>xs=[]
 | d::ds,xs=>∃x r,xs=x::r∧Is K H d x∧AllIs K H ds r
end
variable{K:Bq}{H H':Hp}
def is_non{v:V}:Is K H .non v↔v=.non:=by unfold Is;exact Iff.rfl
def is_bl{b:Bool}{v:V}:Is K H (.bl b) v↔v=.bl b:=by unfold Is;exact Iff.rfl
def is_int{i:Int}{v:V}:Is K H (.int i) v↔v=.int i:=by unfold Is;exact Iff.rfl
def is_str{x:Str}{v:V}:Is K H (.str x) v↔v=.str x:=by unfold Is;exact Iff.rfl
def is_tup{ds:List Dt}{v:V}:Is K H (.tup ds) v↔∃a xs,v=.ref a∧H a=some (.tup xs)∧AllIs K H ds xs:=by
 constructor
 ·intro h;unfold Is at h;exact h
 ·intro h;unfold Is;exact h
def is_lst{ds:List Dt}{v:V}:Is K H (.lst ds) v↔∃a xs,v=.ref a∧H a=some (.lst xs)∧AllIs K H ds xs:=by
 constructor
 ·intro h;unfold Is at h;exact h
 ·intro h;unfold Is;exact h
def is_scr{ns:List Int}{v:V}:Is K H (.scr ns) v↔∃a,v=.ref a∧SqL K H a (ns.map V.int):=by
 constructor
 ·intro h;unfold Is at h;exact h
 ·intro h;unfold Is;exact h
def is_way{C:Addr}{f:Str}{n:Int}{v:V}:Is K H (.way C f n) v↔∃a dx,v=.ref a∧H a=some (.ins C dx [(f,.int n)]):=by
 constructor
 ·intro h;unfold Is at h;exact h
 ·intro h;unfold Is;exact h
def is_exc{C:Addr}{v:V}:Is K H (.exc C) v↔∃a,v=.ref a∧H a=some (.ext (Vx a C)):=by
 constructor
 ·intro h;unfold Is at h;exact h
 ·intro h;unfold Is;exact h
def is_opq{φ:DtP}{v:V}:Is K H (.opq φ) v↔φ.is H v:=by
 constructor
 ·intro h;unfold Is at h;exact h
 ·intro h;unfold Is;exact h
def allIs_nil{xs:List V}:AllIs K H [] xs↔xs=[]:=by unfold AllIs;exact Iff.rfl
def allIs_cons{d:Dt}{ds:List Dt}{xs:List V}:AllIs K H (d::ds) xs↔∃x r,xs=x::r∧Is K H d x∧AllIs K H ds r:=by
 constructor
 ·intro h;unfold AllIs at h;exact h
 ·intro h;unfold AllIs;exact h
mutual
theorem Is.mono0(s:Same H H'):∀{d:Dt}{v:V},Is K H d v→Is K H' d v
 | .non,_,h=>is_non.mpr (is_non.mp h)
 | .bl _,_,h=>is_bl.mpr (is_bl.mp h)
 | .int _,_,h=>is_int.mpr (is_int.mp h)
 | .str _,_,h=>is_str.mpr (is_str.mp h)
 | .tup ds,_,h=>by
  obtain⟨a,xs,e,h1,h2⟩:=is_tup.mp h
  exact is_tup.mpr ⟨a,xs,e,s _ _ h1,AllIs.mono0 s h2⟩
 | .lst ds,_,h=>by
  obtain⟨a,xs,e,h1,h2⟩:=is_lst.mp h
  exact is_lst.mpr ⟨a,xs,e,s _ _ h1,AllIs.mono0 s h2⟩
 | .scr ns,_,h=>by
  obtain⟨a,e,h1⟩:=is_scr.mp h
  exact is_scr.mpr ⟨a,e,s.seq h1⟩
 | .way C f n,_,h=>by
  obtain⟨a,dx,e,h1⟩:=is_way.mp h
  exact is_way.mpr ⟨a,dx,e,s _ _ h1⟩
 | .exc C,_,h=>by
  obtain⟨a,e,h1⟩:=is_exc.mp h
  exact is_exc.mpr ⟨a,e,s _ _ h1⟩
 | .opq φ,_,h=>is_opq.mpr (φ.mono (fun a o q=>s a o q) (is_opq.mp h))
theorem AllIs.mono0(s:Same H H'):∀{ds:List Dt}{xs:List V},AllIs K H ds xs→AllIs K H' ds xs
 | [],_,h=>allIs_nil.mpr (allIs_nil.mp h)
 | d::ds,_,h=>by
  obtain⟨x,r,e,h1,h2⟩:=allIs_cons.mp h
  exact allIs_cons.mpr ⟨x,r,e,Is.mono0 s h1,AllIs.mono0 s h2⟩
end
theorem AllIs.length:∀{ds:List Dt}{xs:List V},AllIs K H ds xs→ds.length=xs.length
 | [],_,h=>by rw[allIs_nil.mp h];rfl
 | d::ds,_,h=>by
  obtain⟨x,r,rfl,_,h2⟩:=allIs_cons.mp h
  rw[BM,BM,AllIs.length h2]
theorem AllIs.get:∀{ds:List Dt}{xs:List V}{i:Nat}{d:Dt},AllIs K H ds xs→ds[i]? = some d→∃v,xs[i]? = some v∧Is K H d v
 | [],_,_,_,_,e=>by simp at e
 | d::ds,_,0,d',h,e=>by
  obtain⟨x,r,rfl,h1,h2⟩:=allIs_cons.mp h
  simp at e;subst e
  exact⟨x,rfl,h1⟩
 | d::ds,_,i+1,d',h,e=>by
  obtain⟨x,r,rfl,h1,h2⟩:=allIs_cons.mp h
  obtain⟨v,e1,e2⟩:=AllIs.get (i:=i) h2 (by simpa using e)
  exact⟨v,by simpa using e1,e2⟩
theorem AllIs.get':∀{ds:List Dt}{xs:List V}{i:Nat}{v:V},AllIs K H ds xs→xs[i]? = some v→∃d,ds[i]? = some d∧Is K H d v
 | [],_,_,_,h,e=>by rw[allIs_nil.mp h]at e;simp at e
 | d::ds,_,0,v,h,e=>by
  obtain⟨x,r,rfl,h1,h2⟩:=allIs_cons.mp h
  simp at e;subst e
  exact⟨d,rfl,h1⟩
 | d::ds,_,i+1,v,h,e=>by
  obtain⟨x,r,rfl,h1,h2⟩:=allIs_cons.mp h
  obtain⟨v,e1,e2⟩:=AllIs.get' (i:=i) h2 (by simpa using e)
  exact⟨v,by simpa using e1,e2⟩
theorem AllIs.append:∀{ds es:List Dt}{xs ys:List V},AllIs K H ds xs→AllIs K H es ys→AllIs K H (ds++es) (xs++ys)
 | [],_,_,_,h,h'=>by rw[allIs_nil.mp h];exact h'
 | d::ds,_,_,_,h,h'=>by
  obtain⟨x,r,rfl,h1,h2⟩:=allIs_cons.mp h
  exact allIs_cons.mpr ⟨x,_,rfl,h1,AllIs.append h2 h'⟩
theorem AllIs.drop:∀{ds:List Dt}{xs:List V}(n:Nat),AllIs K H ds xs→AllIs K H (ds.drop n) (xs.drop n)
 | _,_,0,h=>h
 | [],_,n+1,h=>by rw[allIs_nil.mp h];exact allIs_nil.mpr rfl
 | d::ds,_,n+1,h=>by
  obtain⟨x,r,rfl,h1,h2⟩:=allIs_cons.mp h
  exact AllIs.drop n h2
theorem AllIs.take:∀{ds:List Dt}{xs:List V}(n:Nat),AllIs K H ds xs→AllIs K H (ds.take n) (xs.take n)
 | _,_,0,_=>allIs_nil.mpr rfl
 | [],_,n+1,h=>by rw[allIs_nil.mp h];exact allIs_nil.mpr rfl
 | d::ds,_,n+1,h=>by
  obtain⟨x,r,rfl,h1,h2⟩:=allIs_cons.mp h
  exact allIs_cons.mpr ⟨x,_,rfl,h1,AllIs.take n h2⟩
theorem AllIs.ints:∀{ns:List Int},AllIs K H (ns.map Dt.int) (ns.map V.int)
 | []=>allIs_nil.mpr rfl
 | n::ns=>allIs_cons.mpr ⟨.int n,_,rfl,is_int.mpr rfl,AllIs.ints⟩
def AllIs.atI{ds:List Dt}{xs:List V}{i:Int}{d:Dt}(h:AllIs K H ds xs)(e:L2.atI ds i=some d):∃v,L2.atI xs i=some v∧Is K H d v:=by
 unfold L2.atI at e ⊢
 rw[←h.length]
 cases q:ixN ds.length i with
 | none=>rw[q]at e;cases e
 | some j=>
  rw[q]at e
  exact h.get e
def AllIs.one{d:Dt}{xs:List V}(h:AllIs K H [d] xs):∃v,xs=[v]∧Is K H d v:=by
 obtain⟨x,r,rfl,h1,h2⟩:=allIs_cons.mp h
 rw[allIs_nil.mp h2]
 exact⟨x,rfl,h1⟩
def AllIs.two{d e:Dt}{xs:List V}(h:AllIs K H [d,e] xs):∃v u,xs=[v,u]∧Is K H d v∧Is K H e u:=by
 obtain⟨x,r,rfl,h1,h2⟩:=allIs_cons.mp h
 obtain⟨u,rfl,h3⟩:=h2.one
 exact⟨x,u,rfl,h1,h3⟩
def ya{p:Addr}(h:H p=none)(o:HO):Same H (upd H p o):=fun b u q=>by rw[zC (yr q h)];exact q
structure Vw where
 g:Hp
 h:Hp
 sub:Same g h
structure Le(W W':Vw):Prop where
 g:Same W.g W'.g
 h:Same W.h W'.h
 n:∀a,W.h a≠none→W.g a=none→W'.g a=none
def Le.refl(W:Vw):Le W W:=⟨Same.refl _,Same.refl _,fun _ _ h=>h⟩
def Le.trans{W W1 W2:Vw}(a:Le W W1)(b:Le W1 W2):Le W W2:=
 ⟨a.g.trans b.g,a.h.trans b.h,fun c h1 h2=>b.n c (fun z=>h1 (a.h.free z)) (a.n c h1 h2)⟩
def Is.mono{W W':Vw}{d:Dt}{v:V}(h:Is K W.g d v)(s:Le W W'):Is K W'.g d v:=Is.mono0 s.g h
def AllIs.mono{W W':Vw}{d:List Dt}{v:List V}(h:AllIs K W.g d v)(s:Le W W'):AllIs K W'.g d v:=AllIs.mono0 s.g h
def Vw.new(W:Vw)(p:Addr)(o:HO):Vw:=⟨upd W.g p o,upd W.h p o,fun b u q=>by
 by_cases e:b=p
 ·subst e;rw[zB]at q ⊢; exact q
 ·rw[zC e]at q ⊢; exact W.sub _ _ q⟩
def sO{W:Vw}{p:Addr}(hp:W.h p=none)(o:HO):Le W (W.new p o):=
 ⟨ya (W.sub.free hp) o,ya hp o,fun a h1 h2=>by
  have:a≠p:=fun e=>h1 (e ▸ hp)
  show upd W.g p o a=none
  rw[zC this];exact h2⟩
def Vw.mine(W:Vw)(p:Addr)(o:HO)(hp:W.g p=none):Vw:=⟨W.g,upd W.h p o,fun b u q=>by
 have:b≠p:=fun e=>by rw[e,hp]at q;cases q
 rw[zC this];exact W.sub _ _ q⟩
def tF{W:Vw}{p:Addr}(hp:W.h p=none)(o:HO):Le W (W.mine p o (W.sub.free hp)):=
 ⟨Same.refl _,ya hp o,fun _ _ h=>h⟩
def Vw.frz(W:Vw)(p:Addr)(o:HO)(hp:W.h p=some o):Vw:=⟨upd W.g p o,W.h,fun b u q=>by
 by_cases e:b=p
 ·subst e;rw[zB]at q;rw[hp];exact q
 ·rw[zC e]at q;exact W.sub _ _ q⟩
structure ObP where
 is:Hp→Addr→HO→Prop
 mono:∀{g g':Hp}{a:Addr}{o:HO},Same g g'→is g a o→is g' a o
inductive Sl where|none|some (d:Dt)|own (ds:List Dt)|arg (a:Addr) (ds:List Dt)|obj (φ:ObP)
abbrev DS:=List Sl
def Obs(F:Hp)(W:Vw)(ρ:DS)(σ:St):Prop:=∀(i:Nat)(φ:ObP),ρ[i]? = some (.obj φ)→
 (∃a o,σ[i]? = some (some (.ref a))∧W.h a=some o∧(∀xs,o≠.lst xs)∧W.g a=none∧F a=none∧φ.is W.g a o)∧∀(j:Nat)(ψ:ObP),ρ[j]? = some (.obj ψ)→j=i
structure Rl(K:Bq)(Z F:Hp)(W:Vw)(ρ:DS)(σ:St):Prop where
 len:ρ.length=σ.length
 at_:∀(i:Nat)(d:Dt),ρ[i]? = some (.some d)→∃v,σ[i]? = some (some v)∧Is K W.g d v
 ow:∀(i:Nat)(ds:List Dt),ρ[i]? = some (.own ds)→∃a xs,σ[i]? = some (some (.ref a))∧W.h a=some (.lst xs)∧W.g a=none∧F a=none∧AllIs K W.g ds xs
 ne:∀(i j:Nat)(ds es:List Dt),i≠j→ρ[i]? = some (.own ds)→ρ[j]? = some (.own es)→σ[i]?≠σ[j]?
 fr:Same F W.h
 z:Same Z F
 ar:∀(i:Nat)(a:Addr)(ds:List Dt),ρ[i]? = some (.arg a ds)→(∃xs,σ[i]? = some (some (.ref a))∧W.h a=some (.lst xs)∧W.g a=none∧F a=none∧AllIs K W.g ds xs)∧(∀(j:Nat)(es:List Dt),ρ[j]? = some (.own es)→σ[j]?≠some (some (.ref a)))∧∀(j:Nat)(b:Addr)(es:List Dt),ρ[j]? = some (.arg b es)→j=i
 ob:Obs F W ρ σ
variable{F:Hp}{W W':Vw}
def zA{α:Type}{l:List α}{i j:Nat}{x y:α}(q:(l.set i x)[j]? = some y):(i=j∧i<l.length∧x=y)∨(i≠j∧l[j]? = some y):=by
 by_cases hij:i=j
 ·subst hij
  by_cases hl:i<l.length
  ·rw[B0 hl]at q
   exact .inl ⟨rfl,hl,Option.some.inj q⟩
  ·rw[BG (by rw[B_];omega)]at q
   cases q
 ·rw[BK hij]at q
  exact .inr ⟨hij,q⟩
def Obs.mono{ρ:DS}{σ:St}(r:Obs F W ρ σ)(s:Le W W'):Obs F W' ρ σ:=fun i φ e=>
 let⟨⟨a,o,h1,h2,h3,h4,h5,h6⟩,k⟩:=r i φ e; ⟨⟨a,o,h1,s.h _ _ h2,h3,s.n a (by rw[h2];intro z;cases z) h4,h5,φ.mono s.g h6⟩,k⟩
def Obs.set{ρ:DS}{σ:St}(r:Obs F W ρ σ)(i:Nat){y:Sl}(v:Option V)(hy:∀φ,y≠.obj φ):Obs F W (ρ.set i y) (σ.set i v):=fun j φ q=>by
 rcases zA q with ⟨_,_,e1⟩|⟨hij,q⟩
 ·exact absurd e1 (hy φ)
 obtain⟨⟨a,o,h1,h2⟩,k⟩:=r j φ q
 refine⟨⟨a,o,by rw[BK hij];exact h1,h2⟩,fun l ψ q'=>?_⟩
 rcases zA q' with ⟨_,_,e1⟩|⟨_,q'⟩
 ·exact absurd e1 (hy ψ)
 ·exact k l ψ q'
def Obs.slot{ρ:DS}{σ:St}(r:Obs F W ρ σ)(i:Nat){y:Sl}(hy:∀φ,y≠.obj φ):Obs F W (ρ.set i y) σ:=fun j φ q=>by
 rcases zA q with ⟨_,_,e1⟩|⟨hij,q⟩
 ·exact absurd e1 (hy φ)
 obtain⟨h,k⟩:=r j φ q
 refine⟨h,fun l ψ q'=>?_⟩
 rcases zA q' with ⟨_,_,e1⟩|⟨_,q'⟩
 ·exact absurd e1 (hy ψ)
 ·exact k l ψ q'
def Obs.mine{ρ:DS}{σ:St}(r:Obs F W ρ σ){a:Addr}{xs ys:List V}(ha:W.h a=some (.lst xs))(hg:W.g a=none):Obs F (W.mine a (.lst ys) hg) ρ σ:=fun j φ q=>
 let⟨⟨b,o,h1,h2,h3,h4⟩,k⟩:=r j φ q
 ⟨⟨b,o,h1,(zC (fun z=>h3 xs (by rw[z,ha]at h2;exact(Option.some.inj h2).symm))).trans h2,h3,h4⟩,k⟩
def Obs.frz{ρ:DS}{σ:St}(r:Obs F W ρ σ){a:Addr}{xs:List V}(ha:W.h a=some (.lst xs))(hg:W.g a=none):Obs F (W.frz a _ ha) ρ σ:=fun j φ q=>
 let⟨⟨b,o,h1,h2,h3,h4,h5,h6⟩,k⟩:=r j φ q
 ⟨⟨b,o,h1,h2,h3,(zC (fun z=>h3 xs (by rw[z,ha]at h2;exact(Option.some.inj h2).symm))).trans h4,h5,φ.mono (ya hg _) h6⟩,k⟩
def Rl.mono{ρ:DS}{σ:St}(r:Rl K Z F W ρ σ)(s:Le W W'):Rl K Z F W' ρ σ:=
 ⟨r.len,fun i d e=>let⟨v,h1,h2⟩:=r.at_ i d e; ⟨v,h1,h2.mono s⟩,
  fun i ds e=>let⟨a,xs,h1,h2,h3,h4,h5⟩:=r.ow i ds e; ⟨a,xs,h1,s.h _ _ h2,s.n a (by rw[h2];intro z;cases z) h3,h4,h5.mono s⟩,r.ne,r.fr.trans s.h,r.z,
  fun i a ds e=>let⟨⟨xs,h1,h2,h3,h4,h5⟩,k1,k2⟩:=r.ar i a ds e; ⟨⟨xs,h1,s.h _ _ h2,s.n a (by rw[h2];intro z;cases z) h3,h4,h5.mono s⟩,k1,k2⟩,r.ob.mono s⟩
def Rl.set{ρ:DS}{σ:St}(r:Rl K Z F W ρ σ){d:Dt}{v:V}(i:Nat)(h:Is K W.g d v):Rl K Z F W (ρ.set i (.some d)) (σ.set i (some v)):=by
 refine⟨by rw[B_,B_];exact r.len,fun j e q=>?_,fun j ds q=>?_,fun j k ds es hjk q1 q2=>?_,r.fr,r.z,fun j a ds q=>?_,r.ob.set i _ (fun φ z=>by cases z)⟩
 ·rcases zA q with ⟨rfl,hl,e1⟩|⟨hij,q⟩
  ·cases e1
   exact⟨v,by rw[B0 (by rw[←r.len];exact hl)],h⟩
  ·rw[BK hij]
   exact r.at_ j e q
 ·rcases zA q with ⟨_,_,e1⟩|⟨hij,q⟩
  ·cases e1
  ·rw[BK hij]
   exact r.ow j ds q
 ·rcases zA q1 with ⟨_,_,e1⟩|⟨hij,q1⟩
  ·cases e1
  rcases zA q2 with ⟨_,_,e1⟩|⟨hik,q2⟩
  ·cases e1
  rw[BK hij,BK hik]
  exact r.ne j k ds es hjk q1 q2
 ·rcases zA q with ⟨_,_,e1⟩|⟨hij,q⟩
  ·cases e1
  obtain⟨⟨xs,h1,h2⟩,k1,k2⟩:=r.ar j a ds q
  refine⟨⟨xs,by rw[BK hij];exact h1,h2⟩,fun k es q'=>?_,fun k c es q'=>?_⟩
  ·rcases zA q' with ⟨_,_,e1⟩|⟨hik,q'⟩
   ·cases e1
   rw[BK hik]
   exact k1 k es q'
  ·rcases zA q' with ⟨_,_,e1⟩|⟨hik,q'⟩
   ·cases e1
   exact k2 k c es q'
theorem Rl.own{ρ:DS}{σ:St}(r:Rl K Z F W ρ σ)(s:Le W W'){p:Addr}{xs:List V}{ds:List Dt}(i:Nat)(h0:W.h p=none)(h1:W'.h p=some (.lst xs))(h2:W'.g p=none)(h3:AllIs K W'.g ds xs):
  Rl K Z F W' (ρ.set i (.own ds)) (σ.set i (some (.ref p))):=by
 have r':=r.mono s
 have nep:∀(j:Nat)(es:List Dt),ρ[j]? = some (Sl.own es)→σ[j]?≠some (some (V.ref p)):=fun j es q z=>by
  obtain⟨a,ys,e1,e2,_⟩:=r.ow j es q
  rw[z]at e1
  cases e1
  rw[h0]at e2
  cases e2
 refine⟨by rw[B_,B_];exact r.len,fun j e q=>?_,fun j es q=>?_,fun j k es es' hjk q1 q2=>?_,r'.fr,r.z,fun j a fs q=>?_,r'.ob.set i _ (fun φ z=>by cases z)⟩
 ·rcases zA q with ⟨_,_,e1⟩|⟨hij,q⟩
  ·cases e1
  ·rw[BK hij]
   exact r'.at_ j e q
 ·rcases zA q with ⟨rfl,hl,e1⟩|⟨hij,q⟩
  ·cases e1
   exact⟨p,xs,by rw[B0 (by rw[←r.len];exact hl)],h1,h2,r.fr.free h0,h3⟩
  ·rw[BK hij]
   exact r'.ow j es q
 ·rcases zA q1 with ⟨rfl,hl,e1⟩|⟨hij,q1⟩
  ·rcases zA q2 with ⟨rfl,_,_⟩|⟨hik,q2⟩
   ·exact absurd rfl hjk
   ·rw[B0 (by rw[←r.len];exact hl),BK hik]
    exact fun z=>nep k es' q2 z.symm
  ·rcases zA q2 with ⟨rfl,hl,_⟩|⟨hik,q2⟩
   ·rw[B0 (by rw[←r.len];exact hl),BK hij]
    exact nep j es q1
   ·rw[BK hij,BK hik]
    exact r.ne j k es es' hjk q1 q2
 ·rcases zA q with ⟨_,_,e1⟩|⟨hij,q⟩
  ·cases e1
  obtain⟨⟨ys,g1,g2⟩,k1,k2⟩:=r'.ar j a fs q
  obtain⟨⟨_,_,g3,_⟩,_,_⟩:=r.ar j a fs q
  refine⟨⟨ys,by rw[BK hij];exact g1,g2⟩,fun k es q'=>?_,fun k c es q'=>?_⟩
  ·rcases zA q' with ⟨rfl,hl,e1⟩|⟨hik,q'⟩
   ·rw[B0 (by rw[←r.len];exact hl)]
    intro z
    cases z
    rw[h0]at g3
    cases g3
   ·rw[BK hik]
    exact k1 k es q'
  ·rcases zA q' with ⟨_,_,e1⟩|⟨hik,q'⟩
   ·cases e1
   exact k2 k c es q'
theorem Rl.put{ρ:DS}{σ:St}(r:Rl K Z F W ρ σ){i:Nat}{ds es:List Dt}{a:Addr}{ys:List V}(hi:ρ[i]? = some (.own ds))(ha:σ[i]? = some (some (.ref a)))(hg:W.g a=none)(hF:F a=none)(h3:AllIs K W.g es ys):
  Rl K Z F (W.mine a (.lst ys) hg) (ρ.set i (.own es)) σ:=by
 have hl:i<ρ.length:=by
  rcases Ca i ρ.length with h|h
  ·exact h
  ·rw[BG h]at hi;cases hi
 have other:∀j fs,j≠i→ρ[j]? = some (.own fs)→σ[j]?≠some (some (.ref a)):=fun j fs hj q z=>r.ne j i fs ds hj q hi (z.trans ha.symm)
 refine⟨by rw[B_];exact r.len,fun j e q=>?_,fun j fs q=>?_,fun j k fs fs' hjk q1 q2=>?_,fun p o q=>?_,r.z,fun j c fs q=>?_,?_⟩
 ·rcases zA q with ⟨_,_,e1⟩|⟨hij,q⟩
  ·cases e1
  ·exact r.at_ j e q
 ·rcases zA q with ⟨rfl,_,e1⟩|⟨hij,q⟩
  ·cases e1
   exact⟨a,ys,ha,zB,hg,hF,h3⟩
  ·obtain⟨b,xs,e1,e2,e3,e4,e5⟩:=r.ow j fs q
   have hb:b≠a:=fun z=>other j fs (fun z=>hij z.symm) q (z ▸ e1)
   exact⟨b,xs,e1,(zC hb).trans e2,e3,e4,e5⟩
 ·have k1:∃gs,ρ[j]? = some (.own gs):=by
   rcases zA q1 with ⟨rfl,_,_⟩|⟨_,q⟩
   ·exact⟨_,hi⟩
   ·exact⟨_,q⟩
  have k2:∃gs,ρ[k]? = some (.own gs):=by
   rcases zA q2 with ⟨rfl,_,_⟩|⟨_,q⟩
   ·exact⟨_,hi⟩
   ·exact⟨_,q⟩
  obtain⟨_,k1⟩:=k1
  obtain⟨_,k2⟩:=k2
  exact r.ne j k _ _ hjk k1 k2
 ·have e:p≠a:=fun e=>by rw[e,hF]at q;cases q
  exact(zC (H:=W.h) (o:=.lst ys) e).trans (r.fr p o q)
 ·rcases zA q with ⟨_,_,e1⟩|⟨hij,q⟩
  ·cases e1
  obtain⟨⟨ys',g1,g2,g3,g4,g5⟩,k1,k2⟩:=r.ar j c fs q
  have hc:c≠a:=fun z=>k1 i ds hi (by rw[z];exact ha)
  refine⟨⟨ys',g1,(zC hc).trans g2,g3,g4,g5⟩,fun k es' q'=>?_,fun k c' es' q'=>?_⟩
  ·rcases zA q' with ⟨rfl,_,_⟩|⟨_,q'⟩
   ·exact k1 i ds hi
   ·exact k1 k es' q'
  ·rcases zA q' with ⟨_,_,e1⟩|⟨hik,q'⟩
   ·cases e1
   exact k2 k c' es' q'
 ·obtain⟨a',xs,e1,e2,_⟩:=r.ow i ds hi
  rw[ha]at e1
  cases e1
  exact(r.ob.mine e2 hg).slot i (fun φ z=>by cases z)
theorem Rl.frz{ρ:DS}{σ:St}(r:Rl K Z F W ρ σ){i:Nat}{ds:List Dt}{a:Addr}{xs:List V}(hi:ρ[i]? = some (.own ds))(ha:σ[i]? = some (some (.ref a)))(hh:W.h a=some (.lst xs))(hg:W.g a=none)(h3:AllIs K W.g ds xs):
  Rl K Z F (W.frz a _ hh) (ρ.set i (.some (.lst ds))) σ:=by
 have sg:Same W.g (upd W.g a (.lst xs)):=ya hg _
 have other:∀j fs,j≠i→ρ[j]? = some (.own fs)→σ[j]?≠some (some (.ref a)):=fun j fs hj q z=>r.ne j i fs ds hj q hi (z.trans ha.symm)
 refine⟨by rw[B_];exact r.len,fun j e q=>?_,fun j fs q=>?_,fun j k fs fs' hjk q1 q2=>?_,r.fr,r.z,fun j c fs q=>?_,(r.ob.frz hh hg).slot i (fun φ z=>by cases z)⟩
 ·rcases zA q with ⟨rfl,_,e1⟩|⟨hij,q⟩
  ·cases e1
   exact⟨_,ha,is_lst.mpr ⟨a,xs,rfl,zB,AllIs.mono0 sg h3⟩⟩
  ·obtain⟨v,e1,e2⟩:=r.at_ j e q
   exact⟨v,e1,Is.mono0 sg e2⟩
 ·rcases zA q with ⟨_,_,e1⟩|⟨hij,q⟩
  ·cases e1
  ·obtain⟨b,ys,e1,e2,e3,e4,e5⟩:=r.ow j fs q
   have hb:b≠a:=fun z=>other j fs (fun z=>hij z.symm) q (z ▸ e1)
   exact⟨b,ys,e1,e2,(zC hb).trans e3,e4,AllIs.mono0 sg e5⟩
 ·rcases zA q1 with ⟨_,_,e1⟩|⟨_,q1⟩
  ·cases e1
  rcases zA q2 with ⟨_,_,e1⟩|⟨_,q2⟩
  ·cases e1
  exact r.ne j k _ _ hjk q1 q2
 ·rcases zA q with ⟨_,_,e1⟩|⟨hij,q⟩
  ·cases e1
  obtain⟨⟨ys',g1,g2,g3,g4,g5⟩,k1,k2⟩:=r.ar j c fs q
  have hc:c≠a:=fun z=>k1 i ds hi (by rw[z];exact ha)
  refine⟨⟨ys',g1,g2,(zC hc).trans g3,g4,AllIs.mono0 sg g5⟩,fun k es' q'=>?_,fun k c' es' q'=>?_⟩
  ·rcases zA q' with ⟨_,_,e1⟩|⟨_,q'⟩
   ·cases e1
   ·exact k1 k es' q'
  ·rcases zA q' with ⟨_,_,e1⟩|⟨hik,q'⟩
   ·cases e1
   exact k2 k c' es' q'
def wH(n:Nat)(ds:List Dt):DS:=ds.map Sl.some++List.replicate (n-ds.length) Sl.none
def Rl.start{N:List Str}{ds:List Dt}{vs:List V}(h:AllIs K W.g ds vs)(hz:Same Z W.h):Rl K Z W.h W (wH N.length ds) (L2.start N vs):=by
 have hl:=h.length
 have cls:∀(i:Nat)(y:Sl),(wH N.length ds)[i]? = some y→(∃d,ds[i]? = some d∧y=.some d)∨y=.none:=fun i y e=>by
  unfold wH at e
  by_cases hi:i<ds.length
  ·rw[B2 (by rw[Bs];exact hi),Bx]at e
   cases q:ds[i]? with
   | none=>rw[q]at e;cases e
   | some d'=>
    rw[q]at e
    exact .inl ⟨d',rfl,(Option.some.inj e).symm⟩
  ·rw[B1 (by rw[Bs];omega),CP]at e
   split at e
   ·exact .inr (Option.some.inj e).symm
   ·cases e
 refine⟨by unfold L2.start wH;rw[List.length_append,List.length_append,List.length_map,List.length_map,List.length_replicate,List.length_replicate,hl],fun i d e=>?_,fun i es e=>?_,fun i j es fs _ e _=>?_,Same.refl _,hz,fun i a es e=>?_,fun i φ e=>?_⟩
 ·rcases cls i _ e with ⟨d',q,e1⟩|e1
  ·cases e1
   obtain⟨v,h1,h2⟩:=h.get q
   refine⟨v,?_,h2⟩
   have hi:i<ds.length:=by
    rcases Ca i ds.length with h|h
    ·exact h
    ·rw[BG h]at q;cases q
   unfold L2.start
   rw[B2 (by rw[Bs,←hl];exact hi),Bx,h1]
   rfl
  ·cases e1
 ·rcases cls i _ e with ⟨d',q,e1⟩|e1
  ·cases e1
  ·cases e1
 ·rcases cls i _ e with ⟨d',q,e1⟩|e1
  ·cases e1
  ·cases e1
 ·rcases cls i _ e with ⟨d',q,e1⟩|e1
  ·cases e1
  ·cases e1
 ·rcases cls i _ e with ⟨d',q,e1⟩|e1
  ·cases e1
  ·cases e1
abbrev DTE:=DS→(Dt→Prop)→Prop
abbrev DTT:=DS→(Bool→Prop)→Prop
abbrev DTA:=DS→(List Dt→Prop)→Prop
def LiE(K:Bq)(Z:Hp)(te:TE)(t:DTE):Prop:=
 ∀{F:Hp}(ρ:DS)(σ:St)(H:Vw)(Q:Dt→Prop),Rl K Z F H ρ σ→t ρ Q→∀R:VK,(∀d v H',Le H H'→Is K H'.g d v→Q d→R v H'.h)→te σ H.h R
def LiT(K:Bq)(Z:Hp)(te:TT)(t:DTT):Prop:=
 ∀{F:Hp}(ρ:DS)(σ:St)(H:Vw)(Q:Bool→Prop),Rl K Z F H ρ σ→t ρ Q→∀R:Bool→Hp→Prop,(∀d H',Le H H'→Q d→R d H'.h)→te σ H.h R
def LiA(K:Bq)(Z:Hp)(te:TA)(t:DTA):Prop:=
 ∀{F:Hp}(ρ:DS)(σ:St)(H:Vw)(Q:List Dt→Prop),Rl K Z F H ρ σ→t ρ Q→∀R:List V→Hp→Prop,(∀d v H',Le H H'→AllIs K H'.g d v→Q d→R v H'.h)→te σ H.h R
def DE(X:Cx)(e:Expr)(t:DTE):Prop:=∃te,PE X e te∧LiE X.K (Zx X) te t
def DT(X:Cx)(e:Expr)(t:DTT):Prop:=∃te,PT X e te∧LiT X.K (Zx X) te t
def DW(X:Cx)(e:Expr)(t:DTT):Prop:=∃te,PW X e te∧LiT X.K (Zx X) te t
def DA(X:Cx)(es:List Expr)(t:DTA):Prop:=∃te,PA X es te∧LiA X.K (Zx X) te t
def DW.dt{X:Cx}{e:Expr}{t:DTT}(h:DW X e t):DT X e t:=let⟨te,h1,h2⟩:=h; ⟨te,h1.pt,h2⟩
def X7(i:Nat):DTE:=fun ρ Q=>∃d,ρ[i]? = some (.some d)∧Q d
def dC(d:Dt):DTE:=fun _ Q=>Q d
section
variable{X:Cx}{a b c:Expr}{ta tb tc:DTE}{pos:Pos}
def dv(i:Nat){x:Str}{pos:Pos}(hN:X.N[i]? = some x:=by rfl)(hv:Vis X.env.scope x:=by walk_at "v")(hd:ug x:=by decide)
  (hcd:we x:=by decide):DE X (.Name x pos) (X7 i):=
 ⟨YT i,xa hN hv hd hcd,fun ρ σ H Q r h R k=>by
  obtain⟨d,e,q⟩:=h
  obtain⟨v,h1,h2⟩:=r.at_ i d e
  exact⟨v,h1,k d v H (Le.refl H) h2 q⟩⟩
def lic{v:V}{d:Dt}(h:∀H:Vw,Is K H.g d v):LiE K Z (tC v) (dC d):=fun ρ σ H Q r q R k=>k d v H (Le.refl H) (h H) q
def zd{i j pos}:DE X (.Constant (.int i) j pos) (dC (.int i)):=⟨_,Zi,lic fun _=>is_int.mpr rfl⟩
def wJ{b j pos}:DE X (.Constant (.bool b) j pos) (dC (.bl b)):=⟨_,Sa,lic fun _=>is_bl.mpr rfl⟩
def u8{j pos}:DE X (.Constant .none j pos) (dC .non):=⟨_,Uk,lic fun _=>is_non.mpr rfl⟩
def zt{x j pos}:DE X (.Constant (.str x) j pos) (dC (.str x)):=⟨_,kh,lic fun _=>is_str.mpr rfl⟩
def DOp(X:Cx)(f:Value→Value→Sem Value)(g:Dt→Dt→(Dt→Prop)→Prop):Prop:=
 ∃r,OpR X f r∧∀(H:Vw)(x y:V)(d e:Dt)(Q:Dt→Prop),Is X.K H.g d x→Is X.K H.g e y→g d e Q→∀R:VK,(∀d v H',Le H H'→Is X.K H'.g d v→Q d→R v H'.h)→r x y H.h R
def dOp(g:Dt→Dt→(Dt→Prop)→Prop)(ta tb:DTE):DTE:=fun ρ Q=>ta ρ fun d=>tb ρ fun e=>g d e Q
theorem XC{te tf:TE}{r:R2}{g:Dt→Dt→(Dt→Prop)→Prop}(ha:LiE K Z te ta)(hb:LiE K Z tf tb)
  (hg:∀(H:Vw)(x y:V)(d e:Dt)(Q:Dt→Prop),Is K H.g d x→Is K H.g e y→g d e Q→∀R:VK,(∀d v H',Le H H'→Is K H'.g d v→Q d→R v H'.h)→r x y H.h R):LiE K Z (tOp r te tf) (dOp g ta tb):=
 fun ρ σ H Q rl h R k=>ha ρ σ H _ rl h _ fun d v H1 s1 i1 q1=>hb ρ σ H1 _ (rl.mono s1) q1 _ fun e u H2 s2 i2 q2=>
  hg H2 v u d e Q (i1.mono s2) i2 q2 R fun d' v' H3 s3 i3 q3=>k d' v' H3 ((s1.trans s2).trans s3) i3 q3
def zi{op:Operator}{g:Dt→Dt→(Dt→Prop)→Prop}(ho:DOp X (binaryOp op) g)(ha:DE X a ta)(hb:DE X b tb):DE X (.BinOp a op b pos) (dOp g ta tb):=by
 obtain⟨r,h1,h2⟩:=ho
 obtain⟨te,p1,l1⟩:=ha
 obtain⟨tf,p2,l2⟩:=hb
 exact⟨_,Wx h1 p1 p2,XC l1 l2 h2⟩
def xR{op:CmpOp}{g:Dt→Dt→(Dt→Prop)→Prop}(ho:DOp X (compareOp op) g)(ha:DE X a ta)(hb:DE X b tb)(hm:behindInMarks op b=false):DE X (.Compare a [op] [b] pos) (dOp g ta tb):=by
 obtain⟨r,h1,h2⟩:=ho
 obtain⟨te,p1,l1⟩:=ha
 obtain⟨tf,p2,l2⟩:=hb
 exact⟨_,Xo h1 p1 p2 hm,XC l1 l2 h2⟩
def pd(t:DTE):DTT:=fun ρ Q=>t ρ fun d=>∃k,d=.bl k∧Q k
def kJ{te:TE}{t:DTE}(h:LiE K Z te t):LiT K Z (aB te) (pd t):=fun ρ σ H Q r q R k=>
 h ρ σ H _ r q _ fun d v H1 s1 i1 ⟨b,e,qb⟩=>by
  subst e
  exact⟨b,is_bl.mp i1,k b H1 s1 qb⟩
def zp{op:CmpOp}{g:Dt→Dt→(Dt→Prop)→Prop}(ho:DOp X (compareOp op) g)(ha:DE X a ta)(hb:DE X b tb)(hm:behindInMarks op b=false):DT X (.Compare a [op] [b] pos) (pd (dOp g ta tb)):=by
 obtain⟨r,h1,h2⟩:=ho
 obtain⟨te,p1,l1⟩:=ha
 obtain⟨tf,p2,l2⟩:=hb
 exact⟨_,Xd h1 p1 p2 hm,kJ (XC l1 l2 h2)⟩
def zR{e:Expr}{t:DTE}(h:DE X e t)(he:∀whole,isTrue e X.env whole=(do let v ←whole;standAt e.pos;holding [v] (truthy v)):=by intro _;rfl):DT X e (pd t):=by
 obtain⟨te,p,l⟩:=h
 exact⟨_,Ua p he,kJ l⟩
def Yl(g g':Dt→Dt→(Dt→Prop)→Prop)(ta tb tc:DTE):DTE:=fun ρ Q=>ta ρ fun d=>tb ρ fun e=>g d e fun z=>∃k,z=.bl k∧(if k=true then tc ρ fun w=>g' e w Q else Q (.bl false))
theorem XD{te tf tg:TE}{r r':R2}{g g':Dt→Dt→(Dt→Prop)→Prop}(ha:LiE K Z te ta)(hb:LiE K Z tf tb)(hc:LiE K Z tg tc)
  (hg:∀(H:Vw)(x y:V)(d e:Dt)(Q:Dt→Prop),Is K H.g d x→Is K H.g e y→g d e Q→∀R:VK,(∀d v H',Le H H'→Is K H'.g d v→Q d→R v H'.h)→r x y H.h R)
  (hg':∀(H:Vw)(x y:V)(d e:Dt)(Q:Dt→Prop),Is K H.g d x→Is K H.g e y→g' d e Q→∀R:VK,(∀d v H',Le H H'→Is K H'.g d v→Q d→R v H'.h)→r' x y H.h R):LiE K Z (aD r r' te tf tg) (Yl g g' ta tb tc):=
 fun ρ σ H Q rl h R k=>ha ρ σ H _ rl h _ fun d v H1 s1 i1 q1=>hb ρ σ H1 _ (rl.mono s1) q1 _ fun e u H2 s2 i2 q2=>
  hg H2 v u d e _ (i1.mono s2) i2 q2 _ fun d' v' H3 s3 i3 ⟨z,ez,q3⟩=>by
   subst ez
   refine⟨z,is_bl.mp i3,?_⟩
   cases z with
   | false=>exact k _ _ H3 ((s1.trans s2).trans s3) (is_bl.mpr rfl) q3
   | true=>exact hc ρ σ H3 _ (rl.mono ((s1.trans s2).trans s3)) q3 _ fun w x H4 s4 i4 q4=>hg' H4 u x e w Q (i2.mono (s3.trans s4)) i4 q4 R fun d5 v5 H5 s5 i5 q5=>k d5 v5 H5 (((s1.trans s2).trans (s3.trans s4)).trans s5) i5 q5
theorem nA{op op':CmpOp}{g g':Dt→Dt→(Dt→Prop)→Prop}(ho:DOp X (compareOp op) g)(ho':DOp X (compareOp op') g')(ha:DE X a ta)(hb:DE X b tb)(hc:DE X c tc)
  (hm:lastMarks [op,op'] [b,c]=false:=by with_unfolding_all rfl):DT X (.Compare a [op,op'] [b,c] pos) (pd (Yl g g' ta tb tc)):=by
 obtain⟨r,h1,h2⟩:=ho
 obtain⟨r',h3,h4⟩:=ho'
 obtain⟨te,p1,l1⟩:=ha
 obtain⟨tf,p2,l2⟩:=hb
 obtain⟨tg,p3,l3⟩:=hc
 exact⟨_,aZ h1 h3 p1 p2 p3 hm,kJ (XD l1 l2 l3 h2 h4)⟩
variable{tA tB:DTT}{y_:List Expr}
def Ti(t u:DTT):DTT:=fun ρ Q=>t ρ fun c=>if c=true then u ρ Q else Q false
def dOr(t u:DTT):DTT:=fun ρ Q=>t ρ fun c=>if c=true then Q true else u ρ Q
def HD(t:DTT):DTT:=fun ρ Q=>t ρ fun c=>Q (!c)
def yo(ha:DT X a tA):DW X (.BoolOp .And [a] pos) tA:=let⟨_,p,l⟩:=ha; ⟨_,Xc p,l⟩
def uY(ha:DT X a tA):DW X (.BoolOp .Or [a] pos) tA:=let⟨_,p,l⟩:=ha; ⟨_,V9 p,l⟩
def yk(ha:DT X a tA)(hb:DW X (.BoolOp .And (b::y_) pos) tB):DW X (.BoolOp .And (a::b::y_) pos) (Ti tA tB):=by
 obtain⟨te,p1,l1⟩:=ha
 obtain⟨tf,p2,l2⟩:=hb
 refine⟨_,V_ p1 p2,fun ρ σ H Q r h R k=>l1 ρ σ H _ r h _ fun c H1 s1 q1=>?_⟩
 cases c with
 | true=>exact l2 ρ σ H1 Q (r.mono s1) q1 R fun d H2 s2 q2=>k d H2 (s1.trans s2) q2
 | false=>exact k _ H1 s1 q1
def uZ(ha:DT X a tA)(hb:DW X (.BoolOp .Or (b::y_) pos) tB):DW X (.BoolOp .Or (a::b::y_) pos) (dOr tA tB):=by
 obtain⟨te,p1,l1⟩:=ha
 obtain⟨tf,p2,l2⟩:=hb
 refine⟨_,T3 p1 p2,fun ρ σ H Q r h R k=>l1 ρ σ H _ r h _ fun c H1 s1 q1=>?_⟩
 cases c with
 | false=>exact l2 ρ σ H1 Q (r.mono s1) q1 R fun d H2 s2 q2=>k d H2 (s1.trans s2) q2
 | true=>exact k _ H1 s1 q1
def yV(ha:DT X a tA):DT X (.UnaryOp .Not a pos) (HD tA):=by
 obtain⟨te,p1,l1⟩:=ha
 exact⟨_,Ub p1,fun ρ σ H Q r h R k=>l1 ρ σ H _ r h _ fun c H1 s1 q1=>k _ H1 s1 q1⟩
def Lh(ta tb:DTE):DTE:=fun ρ Q=>ta ρ fun d=>∃c,d=.bl c∧if c=true then tb ρ Q else Q (.bl false)
def HC(ta tb:DTE):DTE:=fun ρ Q=>ta ρ fun d=>∃c,d=.bl c∧if c=true then Q (.bl true) else tb ρ Q
def MI(ta:DTE):DTE:=fun ρ Q=>ta ρ fun d=>∃c,d=.bl c∧Q (.bl (!c))
def sP{op}{t:DTE}(h:DE X a t):DE X (.BoolOp op [a] pos) t:=let⟨_,p,l⟩:=h; ⟨_,Ui p,l⟩
def u9(ha:DE X a ta)(hb:DE X (.BoolOp .And (b::y_) pos) tb):DE X (.BoolOp .And (a::b::y_) pos) (Lh ta tb):=by
 obtain⟨te,p1,l1⟩:=ha
 obtain⟨tf,p2,l2⟩:=hb
 refine⟨_,Uo p1 p2,fun ρ σ H Q r h R k=>l1 ρ σ H _ r h _ fun d v H1 s1 i1 zz=>?_⟩
 obtain⟨c,e,q1⟩:=zz
 subst e
 refine⟨c,is_bl.mp i1,?_⟩
 cases c with
 | true=>exact l2 ρ σ H1 Q (r.mono s1) q1 R fun d v H2 s2 i2 q2=>k d v H2 (s1.trans s2) i2 q2
 | false=>exact k _ _ H1 s1 (is_bl.mpr rfl) q1
def MB(ha:DE X a ta)(hb:DE X (.BoolOp .Or (b::y_) pos) tb):DE X (.BoolOp .Or (a::b::y_) pos) (HC ta tb):=by
 obtain⟨te,p1,l1⟩:=ha
 obtain⟨tf,p2,l2⟩:=hb
 refine⟨_,T8 p1 p2,fun ρ σ H Q r h R k=>l1 ρ σ H _ r h _ fun d v H1 s1 i1 zz=>?_⟩
 obtain⟨c,e,q1⟩:=zz
 subst e
 refine⟨c,is_bl.mp i1,?_⟩
 cases c with
 | false=>exact l2 ρ σ H1 Q (r.mono s1) q1 R fun d v H2 s2 i2 q2=>k d v H2 (s1.trans s2) i2 q2
 | true=>exact k _ _ H1 s1 (is_bl.mpr rfl) q1
def Ye(ha:DE X a ta):DE X (.UnaryOp .Not a pos) (MI ta):=by
 obtain⟨te,p1,l1⟩:=ha
 refine⟨_,Uj p1,fun ρ σ H Q r h R k=>l1 ρ σ H _ r h _ fun d v H1 s1 i1 zz=>?_⟩
 obtain⟨c,e,q1⟩:=zz
 subst e
 exact⟨c,is_bl.mp i1,k _ _ H1 s1 (is_bl.mpr rfl) q1⟩
def dIf(t:DTT)(ta tb:DTE):DTE:=fun ρ Q=>t ρ fun c=>if c=true then ta ρ Q else tb ρ Q
def hW{c:Expr}(hc:DT X c tA)(ha:DE X a ta)(hb:DE X b tb):DE X (.IfExp c a b pos) (dIf tA ta tb):=by
 obtain⟨tt,p0,l0⟩:=hc
 obtain⟨te,p1,l1⟩:=ha
 obtain⟨tf,p2,l2⟩:=hb
 refine⟨_,Zj p0 p1 p2,fun ρ σ H Q r h R k=>l0 ρ σ H _ r h _ fun c H1 s1 q1=>?_⟩
 cases c with
 | true=>exact l1 ρ σ H1 Q (r.mono s1) q1 R fun d v H2 s2 i2 q2=>k d v H2 (s1.trans s2) i2 q2
 | false=>exact l2 ρ σ H1 Q (r.mono s1) q1 R fun d v H2 s2 i2 q2=>k d v H2 (s1.trans s2) i2 q2
end
section
variable{X:Cx}{a b c:Expr}{ta tb:DTE}{pos:Pos}
def gI(g:Int→Int→Dt):Dt→Dt→(Dt→Prop)→Prop:=fun d e Q=>∃i j,d=.int i∧e=.int j∧Q (g i j)
def gIC(C:Int→Int→Prop)(g:Int→Int→Dt):Dt→Dt→(Dt→Prop)→Prop:=fun d e Q=>∃i j,d=.int i∧e=.int j∧C i j∧Q (g i j)
def Z7{f:Value→Value→Sem Value}{g:Int→Int→Int}(h:OpR X f (rI0 fun i j=>.int (g i j))):DOp X f (gI fun i j=>.int (g i j)):=by
 refine⟨_,h,fun H x y d e Q i1 i2 q R k=>?_⟩
 obtain⟨i,j,rfl,rfl,q⟩:=q
 exact⟨i,j,is_int.mp i1,is_int.mp i2,k _ _ H (Le.refl H) (is_int.mpr rfl) q⟩
def jb{f:Value→Value→Sem Value}{g:Int→Int→Bool}(h:OpR X f (rI0 fun i j=>.bl (g i j))):DOp X f (gI fun i j=>.bl (g i j)):=by
 refine⟨_,h,fun H x y d e Q i1 i2 q R k=>?_⟩
 obtain⟨i,j,rfl,rfl,q⟩:=q
 exact⟨i,j,is_int.mp i1,is_int.mp i2,k _ _ H (Le.refl H) (is_bl.mpr rfl) q⟩
def nC{f:Value→Value→Sem Value}{C:Int→Int→Prop}{g:Int→Int→Int}(h:OpR X f (rI C fun i j=>.int (g i j))):DOp X f (gIC C fun i j=>.int (g i j)):=by
 refine⟨_,h,fun H x y d e Q i1 i2 q R k=>?_⟩
 obtain⟨i,j,rfl,rfl,hc,q⟩:=q
 exact⟨i,j,is_int.mp i1,is_int.mp i2,hc,k _ _ H (Le.refl H) (is_int.mpr rfl) q⟩
def Xr:OpR X (binaryOp .Mult) (rI IntMulOk fun i j=>.int (i*j)):=opI fun _ _ _ _ _ _ _ hc q=>mul_int q hc
def zK:DOp X (binaryOp .Add) (gI fun i j=>.int (i+j)):=Z7 Uu
def zN:DOp X (binaryOp .Sub) (gI fun i j=>.int (i-j)):=Z7 Ur
def z5:DOp X (binaryOp .Mult) (gIC IntMulOk fun i j=>.int (i*j)):=nC Xr
def yF:DOp X (binaryOp .FloorDiv) (gIC c8 fun i j=>.int (i.fdiv j)):=nC Zp
def YL(_ j:Int):Prop:=j≠0
def z8:DOp X (binaryOp .Mod) (gIC YL fun i j=>.int (i.fmod j)):=nC (C:=YL) Xs
def rL{c n:Int}(h:(n != 0&&decide (n.natAbs<1073741824))=true):c8 c n:=by
 rw[BL,bne_iff_ne,decide_eq_true_iff]at h
 exact h
def uj{c n:Int}(h:(n != 0)=true):YL c n:=bne_iff_ne.mp h
def ge{c n:Int}(h:(decide (0≤n)&&(decide (n≤1000000)&&decide (c.natAbs<18446744073709551616)))=true):Tp c n:=by
 rw[BL,BL,decide_eq_true_iff,decide_eq_true_iff,decide_eq_true_iff]at h
 exact h
def Mj{c n:Int}(h:decide (n.natAbs<9223372036854775808)=true):IntMulOk c n:=by
 rw[decide_eq_true_iff]at h
 exact .of_right (intBits_le_64 (by omega) (by omega))
def Xz{c n:Int}(h:decide (n.natAbs<9223372036854775808)=true):IntMulOk n c:=by
 rw[decide_eq_true_iff]at h
 exact .of_left (intBits_le_64 (by omega) (by omega))
def qY:DOp X (binaryOp .Pow) (gIC Tp fun i j=>.int (i^j.toNat)):=nC Ut
def uO:DOp X (compareOp .Lt) (gI fun i j=>.bl (decide (i<j))):=jb Se
def Zz:DOp X (compareOp .LtE) (gI fun i j=>.bl (decide (i≤j))):=jb Sf
def rk:DOp X (compareOp .Gt) (gI fun i j=>.bl (decide (j<i))):=jb Sg
def eA:DOp X (compareOp .GtE) (gI fun i j=>.bl (decide (j≤i))):=jb Sh
def Tc(ta:DTE):DTE:=fun ρ Q=>ta ρ fun d=>∃i,d=.int i∧Q (.int (-i))
def z0(ha:DE X a ta):DE X (.UnaryOp .USub a pos) (Tc ta):=by
 obtain⟨te,p1,l1⟩:=ha
 refine⟨_,T7 VT p1,fun ρ σ H Q r h R k=>l1 ρ σ H _ r h _ fun d v H1 s1 i1 zz=>?_⟩
 obtain⟨i,e,q1⟩:=zz
 subst e
 exact⟨i,is_int.mp i1,k _ _ H1 s1 (is_int.mpr rfl) q1⟩
def bZ:DTA:=fun _ Q=>Q []
def M_(te:DTE)(t:DTA):DTA:=fun ρ Q=>te ρ fun d=>t ρ fun ds=>Q (d::ds)
variable{es:List Expr}{t:DTA}
def zg:DA X [] bZ:=⟨_,yh,fun ρ σ H Q r h R k=>k [] [] H (Le.refl H) (allIs_nil.mpr rfl) h⟩
def za(ha:DE X a ta)(hr:DA X es t)(hs:J' X.env a es:=by rfl):DA X (a::es) (M_ ta t):=by
 obtain⟨te,p1,l1⟩:=ha
 obtain⟨tf,p2,l2⟩:=hr
 exact⟨_,zL p1 p2 hs,fun ρ σ H Q r h R k=>l1 ρ σ H _ r h _ fun d v H1 s1 i1 q1=>l2 ρ σ H1 _ (r.mono s1) q1 _ fun ds vs H2 s2 i2 q2=>
  k (d::ds) (v::vs) H2 (s1.trans s2) (allIs_cons.mpr ⟨v,vs,rfl,i1.mono s2,i2⟩) q2⟩
def Ht(t:DTA):DTE:=fun ρ Q=>t ρ fun ds=>Nat.ble ds.length 1000=true∧Q (.tup ds)
def Tf(t:DTA):DTE:=fun ρ Q=>t ρ fun ds=>Nat.ble ds.length 1000=true∧Q (.lst ds)
def zF{x1}(h:DA X es t):DE X (.Tuple es x1 pos) (Ht t):=by
 obtain⟨te,p1,l1⟩:=h
 refine⟨_,fJ p1,fun ρ σ H Q r h R k=>l1 ρ σ H _ r h _ fun ds vs H1 s1 i1 ⟨hl,q1⟩=>⟨?_,fun p hp=>?_⟩⟩
 ·rw[←i1.length];exact BS (CK hl) (by decide)
 ·have s:=sO hp (.tup vs)
  exact k _ _ _ (s1.trans s) (is_tup.mpr ⟨p,vs,rfl,zB,i1.mono s⟩) q1
def z9(h:DA X es t):DE X (.List es pos) (Tf t):=by
 obtain⟨te,p1,l1⟩:=h
 refine⟨_,Zh p1,fun ρ σ H Q r h R k=>l1 ρ σ H _ r h _ fun ds vs H1 s1 i1 ⟨hl,q1⟩=>⟨?_,fun p hp=>?_⟩⟩
 ·rw[←i1.length];exact BS (CK hl) (by decide)
 ·have s:=sO hp (.lst vs)
  exact k _ _ _ (s1.trans s) (is_lst.mpr ⟨p,vs,rfl,zB,i1.mono s⟩) q1
def oK:Dt→Option (List Dt)
 | .tup ds=>some ds
 | .lst ds=>some ds
 | .scr ns=>some (ns.map .int)
 | _=>none
def rX{H:Vw}{d:Dt}{v:V}{ds:List Dt}(h:Is K H.g d v)(e:oK d=some ds):∃a xs,v=.ref a∧(SqL K H.h a xs∨SqT K H.h a xs)∧AllIs K H.g ds xs:=by
 cases d with
 | tup es=>
  obtain rfl:es=ds:=Option.some.inj e
  obtain⟨a,xs,rfl,h1,h2⟩:=is_tup.mp h
  exact⟨a,xs,rfl,.inr (.of (H.sub _ _ h1)),h2⟩
 | lst es=>
  obtain rfl:es=ds:=Option.some.inj e
  obtain⟨a,xs,rfl,h1,h2⟩:=is_lst.mp h
  exact⟨a,xs,rfl,.inl (.of (H.sub _ _ h1)),h2⟩
 | scr ns=>
  obtain rfl:ns.map Dt.int=ds:=Option.some.inj e
  obtain⟨a,rfl,h1⟩:=is_scr.mp h
  exact⟨a,_,rfl,.inl (H.sub.seq h1),AllIs.ints⟩
 | _=>cases e
def dIx(ta tb:DTE):DTE:=fun ρ Q=>ta ρ fun d=>tb ρ fun e=>∃ds i d',oK d=some ds∧e=.int i∧atI ds i=some d'∧Q d'
def zr(ha:DE X a ta)(hb:DE X b tb)(hs:rQ b):DE X (.Subscript a b pos) (dIx ta tb):=by
 obtain⟨te,p1,l1⟩:=ha
 obtain⟨tf,p2,l2⟩:=hb
 refine⟨_,cc ZK p1 p2 hs,fun ρ σ H Q r h R k=>l1 ρ σ H _ r h _ fun d v H1 s1 i1 q1=>l2 ρ σ H1 _ (r.mono s1) q1 _ fun e u H2 s2 i2 q2=>?_⟩
 obtain⟨ds,i,d',e1,e2,e3,q⟩:=q2
 subst e2
 obtain⟨p,xs,e4,h1,h2⟩:=rX (i1.mono s2) e1
 obtain⟨w,e5,h3⟩:=h2.atI e3
 rcases h1 with h1|h1
 ·exact .inl ⟨p,xs,i,w,e4,is_int.mp i2,h1,e5,k d' w H2 (s1.trans s2) h3 q⟩
 ·exact .inr (.inl ⟨p,xs,i,w,e4,is_int.mp i2,h1,e5,k d' w H2 (s1.trans s2) h3 q⟩)
def MQ(t:DTE):DTE:=fun ρ Q=>t ρ fun d=>∃ds,oK d=some ds∧Q (.int ds.length)
def yt{p:Pos}(hg:Gl X "len")(hm:X.mg "len"=none)(ha:DE X a ta)(hs:starEach [a] X.env=(false,eval a X.env)::starEach [] X.env:=by rfl)(hpl:K' X.env pos []:=by rfl):
  DE X (.Call (.Name "len" p) [a] [] pos) (MQ ta):=by
 obtain⟨te,p1,l1⟩:=ha
 refine⟨_,xo uc hg hm PySem.boot_len (zL p1 yh hs) (by decide) (by decide) hs hpl,fun ρ σ H Q r h R k=>l1 ρ σ H _ r h _ fun d v H1 s1 i1 zz=>?_⟩
 obtain⟨ds,e,q⟩:=zz
 obtain⟨a,xs,rfl,h1,h2⟩:=rX i1 e
 exact⟨a,xs,rfl,h1,by rw[←h2.length];exact k _ _ H1 s1 (is_int.mpr rfl) q⟩
def Yo(xs:List Dt)(lo hi:Option Int):List Dt:=(xs.drop (HT.sIx xs.length 0 lo)).take (HT.sIx xs.length xs.length hi-HT.sIx xs.length 0 lo)
def AllIs.cut{G:Hp}{ds:List Dt}{xs:List V}(h:AllIs K G ds xs)(lo hi:Option Int):AllIs K G (Yo ds lo hi) (dj xs lo hi):=by
 unfold Yo dj
 rw[←h.length]
 exact(h.drop _).take _
abbrev DTO:=DS→(Option Int→Prop)→Prop
def DO(X:Cx)(e:Option Expr)(t:DTO):Prop:=∃te,PO X e te∧∀{F:Hp}(ρ:DS)(σ:St)(H:Vw)(Q:Option Int→Prop),Rl X.K (Zx X) F H ρ σ→t ρ Q→∀R:Option Int→Hp→Prop,(∀o H',Le H H'→Q o→R o H'.h)→te σ H.h R
def X8:DTO:=fun _ Q=>Q none
def MH(t:DTE):DTO:=fun ρ Q=>t ρ fun d=>∃i,d=.int i∧Q (some i)
def rH:DO X none X8:=⟨_,Xi,fun ρ σ H Q r h R k=>k none H (Le.refl H) h⟩
def rG(ha:DE X a ta):DO X (some a) (MH ta):=by
 obtain⟨te,p1,l1⟩:=ha
 refine⟨_,Xh p1,fun ρ σ H Q r h R k=>l1 ρ σ H _ r h _ fun d v H1 s1 i1 zz=>?_⟩
 obtain⟨i,e,q⟩:=zz
 subst e
 exact⟨i,is_int.mp i1,k _ H1 s1 q⟩
def xc:Dt→Option (List Dt)
 | .lst ds=>some ds
 | .scr ns=>some (ns.map .int)
 | _=>none
def kH{H:Vw}{d:Dt}{v:V}{ds:List Dt}(h:Is K H.g d v)(e:xc d=some ds):∃a xs,v=.ref a∧SqL K H.h a xs∧AllIs K H.g ds xs:=by
 cases d with
 | lst es=>
  obtain rfl:es=ds:=Option.some.inj e
  obtain⟨a,xs,rfl,h1,h2⟩:=is_lst.mp h
  exact⟨a,xs,rfl,.of (H.sub _ _ h1),h2⟩
 | scr ns=>
  obtain rfl:ns.map Dt.int=ds:=Option.some.inj e
  obtain⟨a,rfl,h1⟩:=is_scr.mp h
  exact⟨a,_,rfl,H.sub.seq h1,AllIs.ints⟩
 | _=>cases e
def dSl(te:DTE)(tl th:DTO):DTE:=fun ρ Q=>te ρ fun d=>tl ρ fun l=>th ρ fun u=>∃ds,xc d=some ds∧Q (.lst (Yo ds l u))
def Yd{lo hi:Option Expr}{tl th:DTO}{p2:Pos}(ha:DE X a ta)(hl:DO X lo tl)(hu:DO X hi th):DE X (.Subscript a (.Slice lo hi none p2) pos) (dSl ta tl th):=by
 obtain⟨te,p1,l1⟩:=ha
 obtain⟨tf,p2,l2⟩:=hl
 obtain⟨tg,p3,l3⟩:=hu
 refine⟨_,jZ YW p1 p2 p3,fun ρ σ H Q r h R k=>l1 ρ σ H _ r h _ fun d v H1 s1 i1 q1=>l2 ρ σ H1 _ (r.mono s1) q1 _ fun l H2 s2 q2=>l3 ρ σ H2 _ (r.mono (s1.trans s2)) q2 _ fun u H3 s3 zz=>?_⟩
 obtain⟨ds,e,q⟩:=zz
 obtain⟨a,xs,rfl,h1,h2⟩:=kH (i1.mono (s2.trans s3)) e
 refine⟨a,xs,rfl,h1,fun p hp=>?_⟩
 have s:=sO hp (.lst (dj xs l u))
 exact k _ _ _ (((s1.trans s2).trans s3).trans s) (is_lst.mpr ⟨p,_,rfl,zB,(h2.cut l u).mono s⟩) q
end
def LiF(K:Bq)(Z:Hp)(te:TE)(t:DTE):Prop:=
 ∀{F:Hp}(ρ:DS)(σ:St)(H:Vw)(Q:Dt→Prop),Rl K Z F H ρ σ→t ρ Q→∀R:VK,
  (∀es p xs H',Le H H'→H.h p=none→H'.h p=some (.lst xs)→H'.g p=none→AllIs K H'.g es xs→Q (.lst es)→R (.ref p) H'.h)→te σ H.h R
def DF(X:Cx)(e:Expr)(t:DTE):Prop:=∃te,PE X e te∧LiF X.K (Zx X) te t
def qH{H H':Vw}{p:Addr}{o:HO}(s:Le H H')(h0:H.h p=none)(h1:H'.h p=some o)(h2:H'.g p=none):Le H (H'.frz p o h1):=
 ⟨s.g.trans (ya h2 o),s.h,fun a z1 z2=>by
  have:a≠p:=fun e=>z1 (e ▸ h0)
  show upd H'.g p o a=none
  rw[zC this];exact s.n a z1 z2⟩
section
variable{X:Cx}{a b e:Expr}{ta tb:DTE}{t:DTA}{pos p0 p1 p2:Pos}{es:List Expr}
def DF.de{t:DTE}(h:DF X e t):DE X e t:=by
 obtain⟨te,p,l⟩:=h
 exact⟨te,p,fun ρ σ H Q r h R k=>l ρ σ H Q r h R fun es q xs H' s h0 h1 h2 i z=>k (.lst es) (.ref q) (H'.frz q _ h1) (qH s h0 h1 h2) (is_lst.mpr ⟨q,xs,rfl,zB,AllIs.mono0 (ya h2 _) i⟩) z⟩
def xg(h:DA X es t):DF X (.List es pos) (Tf t):=by
 obtain⟨te,p1,l1⟩:=h
 refine⟨_,Zh p1,fun ρ σ H Q r h R k=>l1 ρ σ H _ r h _ fun ds vs H1 s1 i1 ⟨hl,q1⟩=>⟨?_,fun p hp=>?_⟩⟩
 ·rw[←i1.length];exact BS (CK hl) (by decide)
 ·exact k ds p vs (H1.mine p (.lst vs) (H1.sub.free hp)) (s1.trans (tF hp _)) (s1.h.free hp) zB (H1.sub.free hp) i1 q1
theorem AllIs.rep{G:Hp}{ds:List Dt}{xs:List V}(h:AllIs K G ds xs):∀k:Nat,AllIs K G (List.replicate k ds).flatten (List.replicate k xs).flatten
 | 0=>allIs_nil.mpr rfl
 | k+1=>by
  rw[Cq,Cq,Cw,Cw]
  exact h.append (h.rep k)
def Ho:Dt→Dt→(Dt→Prop)→Prop:=fun d e Q=>∃ds k,d=.lst ds∧e=.int k∧-16000000≤k∧k≤16000000∧ds.length*k.toNat≤16000000∧Q (.lst (List.replicate k.toNat ds).flatten)
def UV(ha:DE X a ta)(hb:DE X b tb):DF X (.BinOp a .Mult b pos) (dOp Ho ta tb):=by
 obtain⟨te,p1,l1⟩:=ha
 obtain⟨tf,p2,l2⟩:=hb
 refine⟨_,Wx Us p1 p2,fun ρ σ H Q r h R k=>l1 ρ σ H _ r h _ fun d v H1 s1 i1 q1=>l2 ρ σ H1 _ (r.mono s1) q1 _ fun e u H2 s2 i2 q2=>?_⟩
 obtain⟨ds,n,rfl,rfl,hn1,hn2,hl,q⟩:=q2
 obtain⟨l,xs,rfl,h1,a1⟩:=is_lst.mp (i1.mono s2)
 refine⟨l,n,xs,rfl,is_int.mp i2,H2.sub _ _ h1,by omega,by omega,by rw[←a1.length];exact BS hl (by decide),fun p hp=>?_⟩
 exact k _ p _ (H2.mine p _ (H2.sub.free hp)) ((s1.trans s2).trans (tF hp _)) ((s1.trans s2).h.free hp) zB (H2.sub.free hp) (a1.rep _) q
def MM(ta:DTE):DTE:=fun ρ Q=>ta ρ fun d=>∃ds,oK d=some ds∧Q (.lst ds)
def ou(hg:Gl X "list")(hm:X.mg "list"=none)(ha:DE X a ta)(hs:starEach [a] X.env=(false,eval a X.env)::starEach [] X.env:=by rfl)(hpl:K' X.env pos []:=by rfl):
  DF X (.Call (.Name "list" p0) [a] [] pos) (MM ta):=by
 obtain⟨te,p1,l1⟩:=ha
 refine⟨_,qx jk hg hm PyProof.Rows.boot_list (zL p1 yh hs) (by decide) (by decide) hs hpl,fun ρ σ H Q r h R k=>l1 ρ σ H _ r h _ fun d v H1 s1 i1 zz=>?_⟩
 obtain⟨ds,e,q⟩:=zz
 obtain⟨a,xs,rfl,h1,h2⟩:=rX i1 e
 exact⟨a,xs,rfl,h1,fun p hp=>k _ p _ (H1.mine p _ (H1.sub.free hp)) (s1.trans (tF hp _)) (s1.h.free hp) zB (H1.sub.free hp) h2 q⟩
variable{i:Nat}{x:Str}
def MO(i:Nat):DTE:=fun ρ Q=>∃ds,ρ[i]? = some (.own ds)∧Q (.int ds.length)
def ua(i:Nat)(hg:Gl X "len")(hm:X.mg "len"=none)(hN:X.N[i]? = some x:=by rfl)(hv:Vis X.env.scope x:=by walk_at "v")(hd:ug x:=by decide)
  (hcd:we x:=by decide) (hs:starEach [.Name x p1] X.env=(false,eval (.Name x p1) X.env)::starEach [] X.env:=by rfl) (hpl:K' X.env pos []:=by rfl):
  DE X (.Call (.Name "len" p0) [.Name x p1] [] pos) (MO i):=by
 refine⟨_,xo uc hg hm PySem.boot_len (zL (xa hN hv hd hcd) yh hs) (by decide) (by decide) hs hpl,fun ρ σ H Q r h R k=>?_⟩
 obtain⟨ds,e,q⟩:=h
 obtain⟨a,xs,e1,e2,e3,e4,e5⟩:=r.ow i ds e
 exact⟨.ref a,e1,a,xs,rfl,.inl (.of e2),by rw[←e5.length];exact k _ _ H (Le.refl H) (is_int.mpr rfl) q⟩
def MS(i:Nat)(tb:DTE):DTE:=fun ρ Q=>∃ds,ρ[i]? = some (.own ds)∧tb ρ fun e=>∃k d,e=.int k∧atI ds k=some d∧Q d
def db(i:Nat)(hb:DE X b tb)(hs:rQ b)(hN:X.N[i]? = some x:=by rfl)(hv:Vis X.env.scope x:=by walk_at "v")(hd:ug x:=by decide)
  (hcd:we x:=by decide):DE X (.Subscript (.Name x p1) b pos) (MS i tb):=by
 obtain⟨tf,p2,l2⟩:=hb
 refine⟨_,cc ix_list (xa hN hv hd hcd) p2 hs,fun ρ σ H Q r h R k=>?_⟩
 obtain⟨ds,e,h⟩:=h
 obtain⟨a,xs,e1,e2,e3,e4,e5⟩:=r.ow i ds e
 refine⟨.ref a,e1,l2 ρ σ H _ r h _ fun e u H2 s2 i2 zz=>?_⟩
 obtain⟨n,d,en,ed,q⟩:=zz
 subst en
 obtain⟨v,ev,iv⟩:=e5.atI ed
 exact⟨a,xs,n,v,rfl,is_int.mp i2,.of (s2.h _ _ e2),ev,k d v H2 s2 (iv.mono s2) q⟩
def VC(i:Nat):DTT:=fun ρ Q=>∃ds,ρ[i]? = some (.own ds)∧Q (!ds.isEmpty)
def ph{G:Hp}{ds:List Dt}{xs:List V}(h:AllIs K G ds xs):(!xs.isEmpty)=!ds.isEmpty:=by
 cases ds with
 | nil=>rw[allIs_nil.mp h];rfl
 | cons d ds=>obtain⟨x,r,rfl,_⟩:=allIs_cons.mp h;rfl
def XW(i:Nat)(hN:X.N[i]? = some x:=by rfl)(hv:Vis X.env.scope x:=by walk_at "v")(hd:ug x:=by decide)
  (hcd:we x:=by decide) (he:∀whole,isTrue (.Name x p1) X.env whole=(do let v ←whole;standAt (Expr.Name x p1).pos;holding [v] (truthy v)):=by intro _;rfl):DT X (.Name x p1) (VC i):=by
 refine⟨_,jW (xa hN hv hd hcd) he,fun ρ σ H Q r h R k=>?_⟩
 obtain⟨ds,e,q⟩:=h
 obtain⟨a,xs,e1,e2,e3,e4,e5⟩:=r.ow i ds e
 exact⟨.ref a,e1,!ds.isEmpty,.inl ⟨xs,.of e2,(ph e5).symm⟩,k _ H (Le.refl H) q⟩
def Hu(ta:DTE):DTT:=fun ρ Q=>ta ρ fun d=>∃ds,xc d=some ds∧Q (!ds.isEmpty)
def Z3(ha:DE X a ta)(he:∀whole,isTrue a X.env whole=(do let v ←whole;standAt a.pos;holding [v] (truthy v)):=by intro _;rfl):DT X a (Hu ta):=by
 obtain⟨te,p1,l1⟩:=ha
 refine⟨_,jW p1 he,fun ρ σ H Q r h R k=>l1 ρ σ H _ r h _ fun d v H1 s1 i1 zz=>?_⟩
 obtain⟨ds,e,q⟩:=zz
 obtain⟨a,xs,rfl,h1,h2⟩:=kH i1 e
 exact⟨!ds.isEmpty,.inl ⟨xs,h1,(ph h2).symm⟩,k _ H1 s1 q⟩
def fz:Sl→Sl
 | .own ds=>.some (.lst ds)
 | .arg _ ds=>.some (.lst ds)
 | .obj _=>.none
 | s=>s
open Classical in
def Rl.bor{ρ:DS}{σ:St}(r:Rl K Z F W ρ σ):∃W':Vw,W'.h=W.h∧Same W.g W'.g∧Rl K Z F W' (ρ.map fz) σ∧∀a o,W'.g a=some o→W.g a=some o∨∃xs,o=.lst xs:=by
 let ow:Addr→Prop:=fun a=>∃(i:Nat)(ds:List Dt),(ρ[i]? = some (Sl.own ds)∧σ[i]? = some (some (V.ref a)))∨ρ[i]? = some (Sl.arg a ds)
 have own_at:∀a,ow a→W.g a=none:=fun a ⟨i,ds,h⟩=>by
  rcases h with ⟨e,ea⟩|e
  ·obtain⟨b,xs,e1,_,e3,_⟩:=r.ow i ds e
   rw[ea]at e1
   cases e1
   exact e3
  ·exact(r.ar i a ds e).1.choose_spec.2.2.1
 let g:Hp:=fun a=>if ow a then W.h a else W.g a
 have gs:Same W.g g:=fun b o q=>by
  show(if ow b then W.h b else W.g b)=some o
  by_cases hb:ow b
  ·rw[own_at b hb]at q;cases q
  ·rw[if_neg hb];exact q
 have sub:Same g W.h:=fun b o q=>by
  have q':(if ow b then W.h b else W.g b)=some o:=q
  by_cases hb:ow b
  ·rw[if_pos hb]at q';exact q'
  ·rw[if_neg hb]at q';exact W.sub _ _ q'
 have cls:∀(i:Nat)(y:Sl),(ρ.map fz)[i]? = some y→(∃d,ρ[i]? = some (.some d)∧y=.some d)∨(∃ds,(ρ[i]? = some (.own ds)∨∃a,ρ[i]? = some (.arg a ds))∧y=.some (.lst ds))∨y=.none:=fun i y e=>by
  rw[Bx]at e
  cases q:ρ[i]? with
  | none=>rw[q]at e;cases e
  | some z=>
   rw[q]at e
   have e':=(Option.some.inj e).symm
   cases z with
   | none=>exact .inr (.inr e')
   | some d=>exact .inl ⟨d,rfl,e'⟩
   | own ds=>exact .inr (.inl ⟨ds,.inl rfl,e'⟩)
   | arg a ds=>exact .inr (.inl ⟨ds,.inr ⟨a,rfl⟩,e'⟩)
   | obj φ=>exact .inr (.inr e')
 have gl:∀a o,g a=some o→W.g a=some o∨∃xs,o=HO.lst xs:=fun a o q=>by
  have q':(if ow a then W.h a else W.g a)=some o:=q
  by_cases hb:ow a
  ·rw[if_pos hb]at q'
   obtain⟨i,ds,h⟩:=hb
   rcases h with ⟨e,ea⟩|e
   ·obtain⟨b,xs,e1,e2,_⟩:=r.ow i ds e
    rw[ea]at e1
    cases e1
    rw[e2]at q'
    exact .inr ⟨xs,(Option.some.inj q').symm⟩
   ·obtain⟨⟨xs,_,e2,_⟩,_,_⟩:=r.ar i a ds e
    rw[e2]at q'
    exact .inr ⟨xs,(Option.some.inj q').symm⟩
  ·rw[if_neg hb]at q'
   exact .inl q'
 refine⟨⟨g,W.h,sub⟩,rfl,gs,⟨by rw[Bs];exact r.len,fun i d e=>?_,fun i ds e=>?_,fun i j ds es _ e _=>?_,r.fr,r.z,fun i a ds e=>?_,fun i φ e=>?_⟩,gl⟩
 ·rcases cls i _ e with ⟨d',q,e1⟩|⟨ds,q,e1⟩|e1
  ·cases e1
   obtain⟨v,h1,h2⟩:=r.at_ i d q
   exact⟨v,h1,Is.mono0 gs h2⟩
  ·cases e1
   rcases q with q|⟨b,q⟩
   ·obtain⟨b,xs,e1,e2,e3,e4,e5⟩:=r.ow i ds q
    have hb:ow b:=⟨i,ds,.inl ⟨q,e1⟩⟩
    exact⟨_,e1,is_lst.mpr ⟨b,xs,rfl,(if_pos hb).trans e2,AllIs.mono0 gs e5⟩⟩
   ·obtain⟨⟨xs,e1,e2,e3,e4,e5⟩,_,_⟩:=r.ar i b ds q
    have hb:ow b:=⟨i,ds,.inr q⟩
    exact⟨_,e1,is_lst.mpr ⟨b,xs,rfl,(if_pos hb).trans e2,AllIs.mono0 gs e5⟩⟩
  ·cases e1
 ·rcases cls i _ e with ⟨d',q,e1⟩|⟨ds,q,e1⟩|e1<;>cases e1
 ·rcases cls i _ e with ⟨d',q,e1⟩|⟨ds,q,e1⟩|e1<;>cases e1
 ·rcases cls i _ e with ⟨d',q,e1⟩|⟨ds,q,e1⟩|e1<;>cases e1
 ·rcases cls i _ e with ⟨d',q,e1⟩|⟨ds,q,e1⟩|e1<;>cases e1
def nJ{H W' H1:Vw}(e:W'.h=H.h)(s1:Le W' H1)(sg:Same H.g W'.g):∃H2:Vw,H2.h=H1.h∧H2.g=H.g∧Le H H2:=
 ⟨⟨H.g,H1.h,(sg.trans s1.g).trans H1.sub⟩,rfl,rfl,Same.refl _,e ▸ s1.h,fun _ _ h=>h⟩
def VF(t:DTT):DTT:=fun ρ Q=>t (ρ.map fz) Q
def eW{t:DTT}(h:DT X e t):DT X e (VF t):=by
 obtain⟨te,p,l⟩:=h
 refine⟨te,p,fun ρ σ H Q r hq R k=>?_⟩
 obtain⟨W',e,sg,r',_⟩:=r.bor
 have:=l (ρ.map fz) σ W' Q r' hq R fun b H1 s1 q1=>by
  obtain⟨H2,e2,_,s2⟩:=nJ e s1 sg
  rw[←e2]
  exact k b H2 s2 q1
 rw[e]at this
 exact this
def mM:Dt→Bool
 | .non=>true|.bl _=>true|.int _=>true|.str _=>true|_=>false
def lS{G G':Hp}{d:Dt}{v:V}(h:mM d=true)(i:Is K G d v):Is K G' d v:=by
 cases d with
 | non=>exact is_non.mpr (is_non.mp i)
 | bl b=>exact is_bl.mpr (is_bl.mp i)
 | int b=>exact is_int.mpr (is_int.mp i)
 | str b=>exact is_str.mpr (is_str.mp i)
 | _=>cases h
def HM(t:DTE):DTE:=fun ρ Q=>t (ρ.map fz) fun d=>mM d=true∧Q d
def UW{t:DTE}(h:DE X e t):DE X e (HM t):=by
 obtain⟨te,p,l⟩:=h
 refine⟨te,p,fun ρ σ H Q r hq R k=>?_⟩
 obtain⟨W',e,sg,r',_⟩:=r.bor
 have:=l (ρ.map fz) σ W' _ r' hq R fun d v H1 s1 i1 ⟨hs,q1⟩=>by
  obtain⟨H2,e2,_,s2⟩:=nJ e s1 sg
  rw[←e2]
  exact k d v H2 s2 (lS hs i1) q1
 rw[e]at this
 exact this
end
abbrev DSp:=List Dt→(Dt→Prop)→Prop
def zw(K:Bq)(S:DSp):Sp:=fun vs H Q _=>∃(W:Vw)(ds:List Dt)(Qd:Dt→Prop),W.h=H∧AllIs K W.g ds vs∧S ds Qd∧∀d v W',Le W W'→Is K W'.g d v→Qd d→Q v W'.h
def zZ(K:Bq)(S:DSp):Sp:=fun vs H Q _=>∃(W:Vw)(ds:List Dt)(Qd:Dt→Prop),W.h=H∧AllIs K W.g ds vs∧S ds Qd∧
 ∀es p xs W',Le W W'→W.h p=none→W'.h p=some (.lst xs)→W'.g p=none→AllIs K W'.g es xs→Qd (.lst es)→Q (.ref p) W'.h
structure DOk(P:Program)(w:World)(K:Bq)(mg:be)(base:Heap)(n:Nat)(x:Str)(S:DSp):Prop where
 ex:∃f fd ps,mg x=some (.ref f)∧PySem.W.keepIn K (.ref f)=true∧Binds K fd ps []∧FnOk P w K mg base CX0 n f fd ps (zw K S)
structure FOk(P:Program)(w:World)(K:Bq)(mg:be)(base:Heap)(n:Nat)(x:Str)(S:DSp):Prop where
 ex:∃f fd ps,mg x=some (.ref f)∧PySem.W.keepIn K (.ref f)=true∧Binds K fd ps []∧FnOk P w K mg base CX0 n f fd ps (zZ K S)
structure MOk(P:Program)(w:World)(K:Bq)(mg:be)(base:Heap)(n:Nat)(C:Addr)(m:Str)(S:DSp):Prop where
 cl:Cls K C
 ex:∃f fd ps,Wi K C m f∧Binds K fd ps []∧FnOk P w K mg base CX0 n f fd ps (zw K S)
structure FMOk(P:Program)(w:World)(K:Bq)(mg:be)(base:Heap)(n:Nat)(C:Addr)(m:Str)(S:DSp):Prop where
 cl:Cls K C
 ex:∃f fd ps,Wi K C m f∧Binds K fd ps []∧FnOk P w K mg base CX0 n f fd ps (zZ K S)
section
variable{X:Cx}{a b c e o:Expr}{ta tb:DTE}{pos p apos:Pos}{es:List Expr}{t:DTA}{n:Nat}{x m:Str}{S:DSp}
def Ym(S:DSp)(t:DTA):DTE:=fun ρ Q=>t ρ fun ds=>S ds Q
def zh(G:DOk X.prog X.w X.K X.mg X.base n x S)(hr:Room n X.A)(hg:Gl X x)(ha:DA X (e::es) t)(hdb:ug x:=by decide)
  (he:J' X.env e es:=by rfl) (hpl:K' X.env pos es:=by rfl):DE X (.Call (.Name x p) (e::es) [] pos) (Ym S t):=by
 obtain⟨f,fd,ps,hm,hk,hb,F⟩:=G.ex
 obtain⟨te,p1,l1⟩:=ha
 refine⟨_,oi F hr hg hm hk hb .nil oX p1 hdb he hpl,fun ρ σ H Q r h R k=>l1 ρ σ H _ r h _ fun ds vs H1 s1 i1 q1=>?_⟩
 rw[Cm]
 exact⟨H1,ds,Q,rfl,i1,q1,fun d v H2 s2 i2 q2=>k d v H2 (s1.trans s2) i2 q2⟩
def zM(G:FOk X.prog X.w X.K X.mg X.base n x S)(hr:Room n X.A)(hg:Gl X x)(ha:DA X (e::es) t)(hdb:ug x:=by decide)
  (he:J' X.env e es:=by rfl) (hpl:K' X.env pos es:=by rfl):DF X (.Call (.Name x p) (e::es) [] pos) (Ym S t):=by
 obtain⟨f,fd,ps,hm,hk,hb,F⟩:=G.ex
 obtain⟨te,p1,l1⟩:=ha
 refine⟨_,oi F hr hg hm hk hb .nil oX p1 hdb he hpl,fun ρ σ H Q r h R k=>l1 ρ σ H _ r h _ fun ds vs H1 s1 i1 q1=>?_⟩
 rw[Cm]
 exact⟨H1,ds,Q,rfl,i1,q1,fun es p xs H2 s2 h0 h1 h2 i2 q2=>k es p xs H2 (s1.trans s2) (s1.h.free h0) h1 h2 i2 q2⟩
def aC(X:Cx)(n:Nat)(m:Str)(ta:TE)(t:TA):TE:=fun σ H Q=>ta σ H fun x H1=>∃a dx fs C f fd ps sp,x=.ref a∧H1 a=some (.ins C dx fs)∧fs.lookup m=none∧Cls X.K C∧Wi X.K C m f∧Binds X.K fd ps []∧
 FnOk X.prog X.w X.K X.mg X.base CX0 n f fd ps sp∧t σ H1 fun vs H2=>sp (x::vs) H2 Q E0
theorem j0{pl:Sem Bool}{te:TE}{tt:TA}(he:PE X o te)(hr:Room n X.A)(ha:PA X (e::es) tt)
  (hst:J' X.env e es:=by rfl) (hpl:K' X.env pos es:=by rfl)
  (ht:eval (.Call (.Attribute o m apos) (e::es) [] pos) X.env=(do
   let ov ←eval o X.env
   standAt apos.atName
   let(f,first) ←holding [ov] (getMethod ov m pl)
   callWith pos f first (backTo pos (starEach (e::es) X.env)) (backToKw pos (keywordEach [] X.env))):=by rfl):
  PE X (.Call (.Attribute o m apos) (e::es) [] pos) (aC X n m te tt):=by
 intro f' s σ H Q I h
 refine PySem.W.methodCall_KW (pl:=pl) (thn (he f' s σ H _ I h) fun u s1 zz=>?_) ht
 obtain⟨x,H1,I1,rx,a,dx,fs,C,f,fd,ps,sp,ex,ea,l,c,hm,hb,F,q⟩:=zz
 subst ex
 obtain rfl:u=Value.ref a:=rx
 refine nu I1 ea c hm l ?_
 refine PySem.W.callWith_K (first:=[.ref a]) (h₀:=X.base) I.ok.mod.kin hm.kp (thn (ha pos f' s1 σ H1 _ I1 q) fun us s2 ⟨vs,H2,I2,r,q2⟩=>⟨I2.kIn,?_⟩) hst hpl
 exact fE (us:=.ref a::us) (vs:=.ref a::vs) (dvs:=[]) (E:=E0) F hr hb .nil oX I2 (.cons rfl r) (by rw[Cm];exact q2)
theorem bz{pl:Sem Bool}{te:TE}(he:PE X o te)(hr:Room n X.A)
  (ht:eval (.Call (.Attribute o m apos) [] [] pos) X.env=(do
   let ov ←eval o X.env
   standAt apos.atName
   let(f,first) ←holding [ov] (getMethod ov m pl)
   callWith pos f first (backTo pos (starEach [] X.env)) (backToKw pos (keywordEach [] X.env))):=by rfl):
  PE X (.Call (.Attribute o m apos) [] [] pos) (aC X n m te TC):=by
 intro f' s σ H Q I h
 refine PySem.W.methodCall_KW (pl:=pl) (thn (he f' s σ H _ I h) fun u s1 zz=>?_) ht
 obtain⟨x,H1,I1,rx,a,dx,fs,C,f,fd,ps,sp,ex,ea,l,c,hm,hb,F,q⟩:=zz
 subst ex
 obtain rfl:u=Value.ref a:=rx
 refine nu I1 ea c hm l ?_
 exact PySem.W.callWith_K0 (first:=[.ref a]) I1.kIn hm.kp (fE (us:=[.ref a]) (vs:=[.ref a]) (dvs:=[]) (E:=E0) F hr hb .nil oX I1 (.cons rfl .nil) q)
def MK(X:Cx)(n:Nat)(m:Str)(ta:DTE)(t:DTA):DTE:=fun ρ Q=>ta ρ fun d=>∃C f k S,d=.way C f k∧(m==f)=false∧MOk X.prog X.w X.K X.mg X.base n C m S∧t ρ fun ds=>S (d::ds) Q
theorem xu{pl:Sem Bool}(hr:Room n X.A)(he:DE X o ta)(ha:DA X (e::es) t)
  (hst:J' X.env e es:=by rfl) (hpl:K' X.env pos es:=by rfl)
  (ht:eval (.Call (.Attribute o m apos) (e::es) [] pos) X.env=(do
   let ov ←eval o X.env
   standAt apos.atName
   let(f,first) ←holding [ov] (getMethod ov m pl)
   callWith pos f first (backTo pos (starEach (e::es) X.env)) (backToKw pos (keywordEach [] X.env))):=by rfl):
  DE X (.Call (.Attribute o m apos) (e::es) [] pos) (MK X n m ta t):=by
 obtain⟨te,p0,l0⟩:=he
 obtain⟨tt,p1,l1⟩:=ha
 refine⟨_,j0 (pl:=pl) p0 hr p1 hst hpl ht,fun ρ σ H Q r h R k=>l0 ρ σ H _ r h _ fun d v H1 s1 i1 zz=>?_⟩
 obtain⟨C,f,z,S,ed,hne,M,q1⟩:=zz
 subst ed
 obtain⟨a,dx,rfl,ha⟩:=is_way.mp i1
 obtain⟨g,fd,ps,hm,hb,F⟩:=M.ex
 refine⟨a,dx,_,C,g,fd,ps,_,rfl,H1.sub _ _ ha,by simp[List.lookup,hne],M.cl,hm,hb,F,l1 ρ σ H1 _ (r.mono s1) q1 _ fun ds vs H2 s2 i2 q2=>?_⟩
 exact⟨H2,_,Q,rfl,allIs_cons.mpr ⟨_,_,rfl,i1.mono s2,i2⟩,q2,fun d v H3 s3 i3 q3=>k d v H3 ((s1.trans s2).trans s3) i3 q3⟩
def Te(X:Cx)(n:Nat)(m:Str)(ta:DTE):DTE:=fun ρ Q=>ta ρ fun d=>∃C f k S,d=.way C f k∧(m==f)=false∧MOk X.prog X.w X.K X.mg X.base n C m S∧S [d] Q
theorem rJ{pl:Sem Bool}(hr:Room n X.A)(he:DE X o ta)
  (ht:eval (.Call (.Attribute o m apos) [] [] pos) X.env=(do
   let ov ←eval o X.env
   standAt apos.atName
   let(f,first) ←holding [ov] (getMethod ov m pl)
   callWith pos f first (backTo pos (starEach [] X.env)) (backToKw pos (keywordEach [] X.env))):=by rfl):
  DE X (.Call (.Attribute o m apos) [] [] pos) (Te X n m ta):=by
 obtain⟨te,p0,l0⟩:=he
 refine⟨_,bz (pl:=pl) p0 hr ht,fun ρ σ H Q r h R k=>l0 ρ σ H _ r h _ fun d v H1 s1 i1 zz=>?_⟩
 obtain⟨C,f,z,S,ed,hne,M,q1⟩:=zz
 subst ed
 obtain⟨a,dx,rfl,ha⟩:=is_way.mp i1
 obtain⟨g,fd,ps,hm,hb,F⟩:=M.ex
 refine⟨a,dx,_,C,g,fd,ps,_,rfl,H1.sub _ _ ha,by simp[List.lookup,hne],M.cl,hm,hb,F,?_⟩
 exact⟨H1,_,Q,rfl,allIs_cons.mpr ⟨_,_,rfl,i1,allIs_nil.mpr rfl⟩,q1,fun d v H3 s3 i3 q3=>k d v H3 (s1.trans s3) i3 q3⟩
def Td(X:Cx)(n:Nat)(m:Str)(ta:DTE)(t:DTA):DTE:=fun ρ Q=>ta ρ fun d=>∃C f k S,d=.way C f k∧(m==f)=false∧FMOk X.prog X.w X.K X.mg X.base n C m S∧t ρ fun ds=>S (d::ds) Q
theorem cC{pl:Sem Bool}(hr:Room n X.A)(he:DE X o ta)(ha:DA X (e::es) t)
  (hst:J' X.env e es:=by rfl) (hpl:K' X.env pos es:=by rfl)
  (ht:eval (.Call (.Attribute o m apos) (e::es) [] pos) X.env=(do
   let ov ←eval o X.env
   standAt apos.atName
   let(f,first) ←holding [ov] (getMethod ov m pl)
   callWith pos f first (backTo pos (starEach (e::es) X.env)) (backToKw pos (keywordEach [] X.env))):=by rfl):
  DF X (.Call (.Attribute o m apos) (e::es) [] pos) (Td X n m ta t):=by
 obtain⟨te,p0,l0⟩:=he
 obtain⟨tt,p1,l1⟩:=ha
 refine⟨_,j0 (pl:=pl) p0 hr p1 hst hpl ht,fun ρ σ H Q r h R k=>l0 ρ σ H _ r h _ fun d v H1 s1 i1 zz=>?_⟩
 obtain⟨C,f,z,S,ed,hne,M,q1⟩:=zz
 subst ed
 obtain⟨a,dx,rfl,ha⟩:=is_way.mp i1
 obtain⟨g,fd,ps,hm,hb,F⟩:=M.ex
 refine⟨a,dx,_,C,g,fd,ps,_,rfl,H1.sub _ _ ha,by simp[List.lookup,hne],M.cl,hm,hb,F,l1 ρ σ H1 _ (r.mono s1) q1 _ fun ds vs H2 s2 i2 q2=>?_⟩
 have s:=s1.trans s2
 exact⟨H2,_,Q,rfl,allIs_cons.mpr ⟨_,_,rfl,i1.mono s2,i2⟩,q2,fun es p xs H3 s3 h0 h1 h2 i3 q3=>k es p xs H3 (s.trans s3) (s.h.free h0) h1 h2 i3 q3⟩
def HK(K:Bq)(f:Str)(ta:DTE):DTE:=fun ρ Q=>ta ρ fun d=>∃C g k,d=.way C g k∧(f==g)=true∧Cls K C∧NoAttr K C f∧Q (.int k)
def z4{f:Str}(ha:DE X a ta)(hb:attributeBase a f X.env (eval a X.env)=eval a X.env:=by rfl):DE X (.Attribute a f pos) (HK X.K f ta):=by
 obtain⟨te,p1,l1⟩:=ha
 refine⟨_,Ul p1 hb,fun ρ σ H Q r h R k=>l1 ρ σ H _ r h _ fun d v H1 s1 i1 zz=>?_⟩
 obtain⟨C,g,z,ed,hfg,hc,hn,q1⟩:=zz
 subst ed
 obtain⟨p,dx,rfl,hp⟩:=is_way.mp i1
 exact⟨p,C,dx,_,.int z,rfl,H1.sub _ _ hp,hc,hn,by simp[List.lookup,hfg],k _ _ H1 s1 (is_int.mpr rfl) q1⟩
def wR(C:Addr)(f:Str)(ok:Int→Prop):Sp:=fun vs H Q _=>∃p dx i,vs=[.ref p,.int i]∧H p=some (.ins C dx [])∧ok i∧∀H':Hp,H' p=some (.ins C dx [(f,.int i)])→(∀b o,H b=some o→b≠p→H' b=some o)→Q .non H'
structure KOk(P:Program)(w:World)(K:Bq)(mg:be)(base:Heap)(n:Nat)(x:Str)(C:Addr)(f:Str)(ok:Int→Prop):Prop where
 ex:∃g fd ps,mg x=some (.ref C)∧Mk K C g∧Binds K fd ps []∧FnOk P w K mg base CX0 n g fd ps (wR C f ok)
def ML(C:Addr)(f:Str)(ok:Int→Prop)(t:DTA):DTE:=fun ρ Q=>t ρ fun ds=>∃i,ds=[.int i]∧ok i∧Q (.way C f i)
def tM{C:Addr}{f:Str}{ok:Int→Prop}(G:KOk X.prog X.w X.K X.mg X.base n x C f ok)(hr:Room (n+1) X.A)(hg:Gl X x)(ha:DA X (e::es) t)(hdb:ug x:=by decide)
  (he:J' X.env e es:=by rfl) (hpl:K' X.env pos es:=by rfl):DE X (.Call (.Name x p) (e::es) [] pos) (ML C f ok t):=by
 obtain⟨g,fd,ps,hm,M,hb,F⟩:=G.ex
 obtain⟨te,p1,l1⟩:=ha
 refine⟨_,Xl M F hr hg hm hb .nil oX p1 hdb he hpl,fun ρ σ H Q r h R k=>l1 ρ σ H _ r h _ fun ds vs H1 s1 i1 ⟨i,ed,hok,q1⟩ y dy ny ndy ne=>?_⟩
 subst ed
 obtain⟨v,rfl,hv⟩:=i1.one
 obtain rfl:=is_int.mp hv
 refine⟨y,dy,i,rfl,zB,hok,fun H' e1 e2=>⟨rfl,?_⟩⟩
 have keep:Same H1.h H':=fun b o hb=>e2 b o (by rw[zC (yr hb ny),zC (yr hb ndy)];exact hb) (yr hb ny)
 have gy:H1.g y=none:=H1.sub.free ny
 exact k _ _ ⟨upd H1.g y (.ins C dy [(f,.int i)]),H',fun b u q=>by
   by_cases e:b=y
   ·subst e;rw[zB]at q;rw[e1];exact q
   ·rw[zC e]at q;exact keep _ _ (H1.sub _ _ q)⟩
  (s1.trans ⟨ya gy _,keep,fun a z1 z2=>by
   have:a≠y:=fun e=>z1 (e ▸ ny)
   show upd H1.g y _ a=none
   rw[zC this];exact z2⟩) (is_way.mpr ⟨y,dy,rfl,zB⟩) q1
structure Wj(K:Bq):Prop where
 ib:PySem.W.kitOne K (.type "int") (.type "bool")=some false
 it:PySem.W.kitOne K (.type "int") (.type "tuple")=some false
 il:PySem.W.kitOne K (.type "int") (.type "list")=some false
 bi:PySem.W.kitOne K (.type "bool") (.type "int")=some true
 bt:PySem.W.kitOne K (.type "bool") (.type "tuple")=some false
 bl:PySem.W.kitOne K (.type "bool") (.type "list")=some false
 ti:PySem.W.kitOne K (.type "tuple") (.type "int")=some false
 tb:PySem.W.kitOne K (.type "tuple") (.type "bool")=some false
 tl:PySem.W.kitOne K (.type "tuple") (.type "list")=some false
 li:PySem.W.kitOne K (.type "list") (.type "int")=some false
 lb:PySem.W.kitOne K (.type "list") (.type "bool")=some false
 lt:PySem.W.kitOne K (.type "list") (.type "tuple")=some false
def uT{K:Bq}{t:Value}:PySem.W.kitOne K t t=some true:=by
 unfold PySem.W.kitOne
 rw[if_pos (beq_self_eq_true t)]
def UE{K:Bq}{t c:String}{b:Bool}(h1:(Value.type t==Value.type c)=false)(h2:PySem.W.kitMeta c=true)(h3:(fastBuiltinMro t).map (·.contains (Value.type c))=some b):PySem.W.kitOne K (.type t) (.type c)=some b:=by
 unfold PySem.W.kitOne PySem.W.kitCls
 rw[if_neg (by rw[h1];decide)]
 show(if PySem.W.kitMeta c=true then PySem.W.subIn K (.type t) (.type c) else none)=some b
 rw[if_pos h2]
 exact h3
def Hf(K:Bq):Wj K:=by
 constructor<;>exact UE (by decide +kernel) (by decide +kernel) (by decide +kernel)
inductive TyN where|int|bool|tuple|list
def TyN.str:TyN→String
 | .int=>"int" | .bool=>"bool" | .tuple=>"tuple" | .list=>"list"
def Mn:Dt→TyN→Option Bool
 | .int _,.int=>some true|.int _,.bool=>some false|.int _,.tuple=>some false|.int _,.list=>some false
 | .bl _,.int=>some true|.bl _,.bool=>some true|.bl _,.tuple=>some false|.bl _,.list=>some false
 | .tup _,.int=>some false|.tup _,.bool=>some false|.tup _,.tuple=>some true|.tup _,.list=>some false
 | .lst _,.int=>some false|.lst _,.bool=>some false|.lst _,.tuple=>some false|.lst _,.list=>some true
 | _,_=>none
def UL{H:Vw}{d:Dt}{v:V}{T:TyN}{b:Bool}(kt:Wj K)(h:Is K H.g d v)(e:Mn d T=some b):∃tv,sT K H.h v tv∧PySem.W.kitOne K tv (.type T.str)=some b:=by
 cases d with
 | int i=>
  obtain rfl:=is_int.mp h
  refine⟨_,.int i,?_⟩
  cases T<;>(obtain rfl:=Option.some.inj e;first|exact uT|exact kt.ib|exact kt.it|exact kt.il)
 | bl i=>
  obtain rfl:=is_bl.mp h
  refine⟨_,.bl i,?_⟩
  cases T<;>(obtain rfl:=Option.some.inj e;first|exact uT|exact kt.bi|exact kt.bt|exact kt.bl)
 | tup ds=>
  obtain⟨a,xs,rfl,h1,_⟩:=is_tup.mp h
  refine⟨_,.tup (H.sub _ _ h1),?_⟩
  cases T<;>(obtain rfl:=Option.some.inj e;first|exact uT|exact kt.ti|exact kt.tb|exact kt.tl)
 | lst ds=>
  obtain⟨a,xs,rfl,h1,_⟩:=is_lst.mp h
  refine⟨_,.lst (H.sub _ _ h1),?_⟩
  cases T<;>(obtain rfl:=Option.some.inj e;first|exact uT|exact kt.li|exact kt.lb|exact kt.lt)
 | _=>cases T<;>cases e
def gi:tu X (.builtin "isinstance") (fun xs H Q=>∃v T tv b,xs=[v,.ty T]∧sT X.K H v tv∧PySem.W.kitOne X.K tv (.type T)=some b∧Q (.bl b) H):=by
 intro f' s σ H xs us Q I r h
 obtain⟨v,T,tv,b,rfl,hty,hk,q⟩:=h
 cases r with
 | cons r1 r2=>
  cases r2 with
  | cons r3 r4=>
   cases r4
   cases r3
   exact mW I r1 hty hk fun tk=>⟨.bl b,H,I.tok _,rfl,q⟩
def HH(T:TyN)(ta:DTE):DTE:=fun ρ Q=>ta ρ fun d=>∃b,Mn d T=some b∧Q (.bl b)
theorem je{T:TyN}{y:Str}{p':Pos}(kt:Wj X.K)(hm:X.mg "isinstance"=none)(hmc:X.mg y=none)(hv:bootBuiltins y=some (.type T.str))(ha:DE X a ta)
  (hg:Gl X "isinstance":=by rfl) (hgc:Gl X y:=by rfl) (hny:y≠"__name__":=by decide) (hdy:ug y:=by decide)
  (hs:starEach [a,.Name y p'] X.env=(false,eval a X.env)::starEach [.Name y p'] X.env:=by rfl) (hs2:starEach [.Name y p'] X.env=(false,eval (.Name y p') X.env)::starEach [] X.env:=by rfl)
  (hpl:K' X.env pos [.Name y p']:=by rfl):
  DE X (.Call (.Name "isinstance" p) [a,.Name y p'] [] pos) (HH T ta):=by
 obtain⟨te,p1,l1⟩:=ha
 have pc:PE X (.Name y p') (tC (.ty T.str)):=ce hgc hmc hv rfl hny hdy
 refine⟨_,xo gi hg hm boot_isinstance (zL p1 (zL pc yh hs2) hs) (by decide) (by decide) hs hpl,fun ρ σ H Q r h R k=>l1 ρ σ H _ r h _ fun d v H1 s1 i1 zz=>?_⟩
 obtain⟨b,e,q⟩:=zz
 obtain⟨tv,h1,h2⟩:=UL kt i1 e
 exact⟨v,T.str,tv,b,rfl,h1,h2,k _ _ H1 s1 (is_bl.mpr rfl) q⟩
end
structure nS where
 nx:DS→Prop
 rt:Dt→Prop
 bk:DS→Prop:=fun _=>False
 ct:DS→Prop:=fun _=>False
abbrev DTS:=nS→DS→Prop
structure At(K:Bq)(Z:Hp)(W0:Vw)(G:Hp)(W:Vw)(ρ:DS)(σ:St):Prop where
 le:Le W0 W
 gs:Same G W.g
 rl:Rl K Z W0.h W ρ σ
inductive Fr where|d|l|t (a b:Bool)
def NewL(K:Bq)(F:Hp)(W:Vw)(d:Dt)(v:V):Prop:=∃es p xs,d=.lst es∧v=.ref p∧F p=none∧W.h p=some (.lst xs)∧W.g p=none∧AllIs K W.g es xs
def Prt(K:Bq)(F:Hp)(W:Vw)(b:Bool)(d:Dt)(v:V):Prop:=match b with
 | false=>Is K W.g d v
 | true=>NewL K F W d v∨mM d=true∧Is K W.g d v
def Tld(K:Bq)(F:Hp)(W:Vw):Fr→Dt→V→Prop
 | .d,d,v=>Is K W.g d v
 | .l,d,v=>NewL K F W d v
 | .t a b,d,v=>∃d1 d2 q u1 u2,d=.tup [d1,d2]∧v=.ref q∧W.g q=some (.tup [u1,u2])∧Prt K F W a d1 u1∧Prt K F W b d2 u2∧(∀es fs,a=true→b=true→d1=.lst es→d2=.lst fs→u1≠u2)
structure Sim(K:Bq)(Z:Hp)(fr:Fr)(W0:Vw)(G:Hp)(D:nS)(D':tT):Prop where
 nx:∀ρ σ W',At K Z W0 G W' ρ σ→D.nx ρ→D'.nx σ W'.h
 tl:∀d v W',Le W0 W'→Tld K W0.h W' fr d v→D.rt d→D'.rt v W'.h
 bk:∀ρ σ W',At K Z W0 G W' ρ σ→D.bk ρ→D'.bk σ W'.h
 ct:∀ρ σ W',At K Z W0 G W' ρ σ→D.ct ρ→D'.ct σ W'.h
def NewL.le{F G:Hp}{W:Vw}{d:Dt}{v:V}(h:NewL K F W d v)(z:∀p,F p=none→G p=none):NewL K G W d v:=
 let⟨es,p,xs,h1,h2,h3,h4⟩:=h; ⟨es,p,xs,h1,h2,z p h3,h4⟩
def Sim.rf{Z:Hp}{fr:Fr}{W0:Vw}{G:Hp}{D:nS}{D':tT}(s:Sim K Z fr W0 G D D')(hf:fr=.d∨fr=.l)(es:List Dt)(p:Addr)(xs:List V)(W':Vw)(le:Le W0 W')(h0:W0.h p=none)(h1:W'.h p=some (.lst xs))(h2:W'.g p=none)(h3:AllIs K W'.g es xs)(q:D.rt (.lst es)):D'.rt (.ref p) W'.h:=by
 rcases hf with rfl|rfl
 ·exact s.tl (.lst es) (.ref p) (W'.frz p _ h1) (qH le h0 h1 h2) (is_lst.mpr ⟨p,xs,rfl,zB,AllIs.mono0 (ya h2 _) h3⟩) q
 ·exact s.tl (.lst es) (.ref p) W' le ⟨es,p,xs,rfl,rfl,h0,h1,h2,h3⟩ q
section
variable{W0:Vw}{G G':Hp}{ρ:DS}{σ:St}
def At.step(a:At K Z W0 G W ρ σ)(s:Le W W'):At K Z W0 G W' ρ σ:=⟨a.le.trans s,a.gs.trans s.g,a.rl.mono s⟩
def At.set(a:At K Z W0 G W ρ σ){d:Dt}{v:V}(i:Nat)(h:Is K W.g d v):At K Z W0 G W (ρ.set i (.some d)) (σ.set i (some v)):=⟨a.le,a.gs,a.rl.set i h⟩
def At.weak(a:At K Z W0 G W ρ σ)(s:Same G' G):At K Z W0 G' W ρ σ:=⟨a.le,s.trans a.gs,a.rl⟩
theorem At.own(a:At K Z W0 G W ρ σ)(s:Le W W'){p:Addr}{xs:List V}{ds:List Dt}(i:Nat)(h0:W.h p=none)(h1:W'.h p=some (.lst xs))(h2:W'.g p=none)(h3:AllIs K W'.g ds xs):
  At K Z W0 G W' (ρ.set i (.own ds)) (σ.set i (some (.ref p))):=⟨a.le.trans s,a.gs.trans s.g,a.rl.own s i h0 h1 h2 h3⟩
theorem At.put(at_:At K Z W0 G W ρ σ){i:Nat}{ds es:List Dt}{a:Addr}{ys:List V}(hi:ρ[i]? = some (.own ds))(ha:σ[i]? = some (some (.ref a)))(hg:W.g a=none)(hF:W0.h a=none)(h3:AllIs K W.g es ys):
  At K Z W0 G (W.mine a (.lst ys) hg) (ρ.set i (.own es)) σ:=
 ⟨⟨at_.le.g,fun b o q=>by
   have:b≠a:=fun e=>by rw[e,hF]at q;cases q
   show upd W.h a _ b=some o
   rw[zC this];exact at_.le.h _ _ q,at_.le.n⟩,at_.gs,at_.rl.put hi ha hg hF h3⟩
theorem At.frz(at_:At K Z W0 G W ρ σ){i:Nat}{ds:List Dt}{a:Addr}{xs:List V}(hi:ρ[i]? = some (.own ds))(ha:σ[i]? = some (some (.ref a)))(hh:W.h a=some (.lst xs))(hg:W.g a=none)(hF:W0.h a=none)(h3:AllIs K W.g ds xs):
  At K Z W0 G (W.frz a _ hh) (ρ.set i (.some (.lst ds))) σ:=
 ⟨qH at_.le hF hh hg,at_.gs.trans (ya hg _),at_.rl.frz hi ha hh hg h3⟩
end
def LiS(K:Bq)(Z:Hp)(fr:Fr)(ts:TS)(t:DTS):Prop:=∀(W0:Vw)(G:Hp)(ρ:DS)(σ:St)(W:Vw)(D:nS)(D':tT),At K Z W0 G W ρ σ→Sim K Z fr W0 G D D'→t D ρ→ts D' σ W.h
def DSt(X:Cx)(fr:Fr)(st:Stmt)(t:DTS):Prop:=∃ts,PS X st ts∧LiS X.K (Zx X) fr ts t
def DSs(X:Cx)(fr:Fr)(sts:List Stmt)(t:DTS):Prop:=∃ts,PSs X sts ts∧LiS X.K (Zx X) fr ts t
def MJ:DTS:=fun D ρ=>D.nx ρ
def Hy(t u:DTS):DTS:=fun D ρ=>t { D with nx:=u D } ρ
def UZ(te:DTE):DTS:=fun D ρ=>te ρ D.rt
def MG(i:Nat):DTS:=fun D ρ=>∃ds,ρ[i]? = some (.own ds)∧D.rt (.lst ds)
def MD(i:Nat)(te:DTE):DTS:=fun D ρ=>te ρ fun d=>D.nx (ρ.set i (.some d))
def cI(i:Nat)(te:DTE):DTS:=fun D ρ=>te ρ fun d=>∃ds,d=.lst ds∧D.nx (ρ.set i (.own ds))
def HI(c:DTT)(t u:DTS):DTS:=fun D ρ=>c ρ fun b=>if b=true then t D ρ else u D ρ
def M9(te:DTE):DTS:=fun D ρ=>te ρ fun _=>D.nx ρ
def Tb:DTS:=fun _ _=>False
def HA(i j:Nat)(ta:DTA):DTS:=fun D ρ=>ta ρ fun ds=>∃a b,ds=[a,b]∧D.nx ((ρ.set i (.some a)).set j (.some b))
def M5(j:Nat)(te:DTE)(tb:DTS):DTS:=fun D ρ=>te ρ fun d=>∃(ds:List Dt)(Pv:Nat→DS→Prop),xc d=some ds∧Pv 0 ρ∧
 (∀i e ρ',ds[i]? = some e→Pv i ρ'→tb { D with nx:=Pv (i+1),ct:=Pv (i+1),bk:=D.nx } (ρ'.set j (.some e)))∧∀ρ',Pv ds.length ρ'→D.nx ρ'
def M4(j:Nat)(te:DTE)(tb:DTS):DTS:=fun D ρ=>te ρ fun d=>∃(n:Int)(Pv:Nat→DS→Prop),d=.int n∧-(2^62)≤n∧n<2^62∧Pv 0 ρ∧
 (∀(i:Nat) ρ',i<n.toNat→Pv i ρ'→tb { D with nx:=Pv (i+1),ct:=Pv (i+1),bk:=D.nx } (ρ'.set j (.some (.int i))))∧∀ρ',Pv n.toNat ρ'→D.nx ρ'
def Tg(j:Nat)(ta:DTA)(tb:DTS):DTS:=fun D ρ=>ta ρ fun ds=>∃(m n:Int)(Pv:Nat→DS→Prop),ds=[.int m,.int n]∧-(2^62)≤m∧m<2^62∧-(2^62)≤n∧n<2^62∧Pv 0 ρ∧
 (∀(i:Nat) ρ',i<(n-m).toNat→Pv i ρ'→tb { D with nx:=Pv (i+1),ct:=Pv (i+1),bk:=D.nx } (ρ'.set j (.some (.int (m+i)))))∧∀ρ',Pv (n-m).toNat ρ'→D.nx ρ'
def df(c:DTT)(tb:DTS):DTS:=fun D ρ=>∃Pv:Nat→DS→Prop,(∃m,Pv m ρ)∧∀m ρ',Pv m ρ'→
 c ρ' fun b=>if b=true then tb { D with nx:=fun ρ2=>∃m',m'<m∧Pv m' ρ2,ct:=fun ρ2=>∃m',m'<m∧Pv m' ρ2,bk:=D.nx } ρ' else D.nx ρ'
section
variable{X:Cx}{fr:Fr}{st:Stmt}{y_:List Stmt}{t u:DTS}{e:Expr}{te:DTE}{pos p0 p1 p2:Pos}
def zm:DSs X fr [] MJ:=⟨_,Xe,fun W0 G ρ σ W D D' a s h=>s.nx ρ σ W a h⟩
def ze(h1:DSt X fr st t)(h2:DSs X fr y_ u):DSs X fr (st::y_) (Hy t u):=by
 obtain⟨ts,p1,l1⟩:=h1
 obtain⟨us,p2,l2⟩:=h2
 exact⟨_,jX p1 p2,fun W0 G ρ σ W D D' a s h=>l1 W0 G ρ σ W { D with nx:=u D } { D' with nx:=us D' } a ⟨fun ρ' σ' W' a' q=>l2 W0 G ρ' σ' W' D D' a' s q,s.tl,s.bk,s.ct⟩ h⟩
def zf(h:DSt X fr st t):DSs X fr [st] t:=let⟨_,p,l⟩:=h; ⟨_,vR p,l⟩
def HJ(i:Nat)(t:DTS):DTS:=fun D ρ=>∃ds,ρ[i]? = some (.own ds)∧t D (ρ.set i (.some (.lst ds)))
def xt(i:Nat)(h:DSs X fr y_ t):DSs X fr y_ (HJ i t):=by
 obtain⟨ts,p,l⟩:=h
 refine⟨ts,p,fun W0 G ρ σ W D D' a s h=>?_⟩
 obtain⟨ds,e,q⟩:=h
 obtain⟨b,xs,e1,e2,e3,e4,e5⟩:=a.rl.ow i ds e
 exact l W0 G _ σ (W.frz b _ e2) D D' (a.frz e e1 e2 e3 e4 e5) s q
def zl(h:DE X e te):DSt X .d (.Return (some e) pos) (UZ te):=by
 obtain⟨tt,p,l⟩:=h
 exact⟨_,oV p,fun W0 G ρ σ W D D' a s h=>l ρ σ W _ a.rl h _ fun d v W1 s1 i1 q1=>s.tl d v W1 (a.le.trans s1) i1 q1⟩
def yx(h:DF X e te)(hf:fr=.d∨fr=.l:=by first|exact .inl rfl|exact .inr rfl):DSt X fr (.Return (some e) pos) (UZ te):=by
 obtain⟨tt,p,l⟩:=h
 exact⟨_,oV p,fun W0 G ρ σ W D D' a s h=>l ρ σ W _ a.rl h _ fun es q xs W1 s1 h0 h1 h2 i1 q1=>s.rf hf es q xs W1 (a.le.trans s1) (a.le.h.free h0) h1 h2 i1 q1⟩
def x8(i:Nat){x:Str}(hN:X.N[i]? = some x:=by rfl)(hv:Vis X.env.scope x:=by walk_at "v")(hd:ug x:=by decide)
  (hcd:we x:=by decide) (hf:fr=.d∨fr=.l:=by first|exact .inl rfl|exact .inr rfl):DSt X fr (.Return (some (.Name x p0)) pos) (MG i):=by
 refine⟨_,oV (xa hN hv hd hcd),fun W0 G ρ σ W D D' a s h=>?_⟩
 obtain⟨ds,e,q⟩:=h
 obtain⟨b,xs,e1,e2,e3,e4,e5⟩:=a.rl.ow i ds e
 exact⟨.ref b,e1,s.rf hf ds b xs W a.le e4 e2 e3 e5 q⟩
def v9(h:DE X e te)(hs:swapsWith e none pos.line X.env=pure false:=by rfl):DSt X fr (.Expr e pos) (M9 te):=by
 obtain⟨tt,p,l⟩:=h
 exact⟨_,vT p hs,fun W0 G ρ σ W D D' a s h=>l ρ σ W _ a.rl h _ fun d v W1 s1 i1 q1=>s.nx ρ σ W1 (a.step s1) q1⟩
def zq{i:Nat}{x:Str}{pos':Pos}(hN:X.N.Nodup)(hi:X.N[i]? = some x)(hx:Loc X.env.scope x)(h:DE X e te)(hs:swapsWith e (some (.Name x pos')) pos.line X.env=pure false:=by rfl)(hf:X.fn x=true∨X.env.scope.names.lookup x=some .local:=by walk_at "f"):
  DSt X fr (.Assign [.Name x pos'] e pos) (MD i te):=by
 obtain⟨tt,p,l⟩:=h
 exact⟨_,Za hN hi hx p hs hf,fun W0 G ρ σ W D D' a s h=>l ρ σ W _ a.rl h _ fun d v W1 s1 i1 q1=>s.nx _ _ W1 ((a.step s1).set i i1) q1⟩
def yc{i:Nat}{x:Str}{pos':Pos}(hN:X.N.Nodup)(hi:X.N[i]? = some x)(hx:Loc X.env.scope x)(h:DF X e te)(hs:swapsWith e (some (.Name x pos')) pos.line X.env=pure false:=by rfl)(hf:X.fn x=true∨X.env.scope.names.lookup x=some .local:=by walk_at "f"):
  DSt X fr (.Assign [.Name x pos'] e pos) (cI i te):=by
 obtain⟨tt,p,l⟩:=h
 refine⟨_,Za hN hi hx p hs hf,fun W0 G ρ σ W D D' a s h=>l ρ σ W _ a.rl h _ fun es q xs W1 s1 h0 h1 h2 i1 zz=>?_⟩
 obtain⟨ds,ed,q1⟩:=zz
 cases ed
 exact s.nx _ _ W1 (a.own s1 i h0 h1 h2 i1) q1
def zx{c:Expr}{a b:List Stmt}{tc:DTT}(hc:DT X c tc)(ha:DSs X fr a t)(hb:DSs X fr b u):DSt X fr (.If c a b pos) (HI tc t u):=by
 obtain⟨t0,p0,l0⟩:=hc
 obtain⟨t1,p1,l1⟩:=ha
 obtain⟨t2,p2,l2⟩:=hb
 refine⟨_,T4 p0 p1 p2,fun W0 G ρ σ W D D' a s h=>l0 ρ σ W _ a.rl h _ fun k W1 s1 q1=>?_⟩
 cases k with
 | true=>exact l1 W0 G ρ σ W1 D D' (a.step s1) s q1
 | false=>exact l2 W0 G ρ σ W1 D D' (a.step s1) s q1
def zP:DSt X fr st Tb:=⟨_,Zb,fun _ _ _ _ _ _ _ _ _ h=>h.elim⟩
theorem eY{i j:Nat}{x y:Str}{a b:Expr}{ta:DTA}{px py pt:Pos}{kt k2 pt2}(hc:X.calm=true)(hN:X.N.Nodup)(hi:X.N[i]? = some x)(hj:X.N[j]? = some y)(hij:i≠j)
  (hx:X.env.scope.names.lookup x=some .local) (hy:X.env.scope.names.lookup y=some .local) (ha:DA X [a,b] ta)
  (hw:swappedStores [.Tuple [.Name x px,.Name y py] kt pt] (.Tuple [a,b] k2 pt2) X.env=pure (some [x,y]))
  (hs:swapsWithSole [.Tuple [.Name x px,.Name y py] kt pt] (.Tuple [a,b] k2 pt2) pos.line X.env=pure false:=by rfl):
  DSt X fr (.Assign [.Tuple [.Name x px,.Name y py] kt pt] (.Tuple [a,b] k2 pt2) pos) (HA i j ta):=by
 obtain⟨tt,p,l⟩:=ha
 refine⟨_,Ud hc hN hi hj hij hx hy p hw hs,fun W0 G ρ σ W D D' at_ s h=>l ρ σ W _ at_.rl h _ fun ds vs W1 s1 i1 zz=>?_⟩
 obtain⟨d1,d2,ed,q1⟩:=zz
 subst ed
 obtain⟨v1,v2,rfl,h1,h2⟩:=i1.two
 exact⟨v1,v2,rfl,s.nx _ _ W1 (((at_.step s1).set i h1).set j h2) q1⟩
def InL(K:Bq)(Z:Hp)(W0 W1:Vw)(Pv:DS→Prop)(σ:St)(H:Hp):Prop:=∃(ρ:DS)(W:Vw),W.h=H∧At K Z W0 W1.g W ρ σ∧Pv ρ
theorem yW{K:Bq}{W0 W1:Vw}{G:Hp}{D:nS}{D':tT}{Pv:DS→Prop}(s:Sim K Z fr W0 G D D')(hg:Same G W1.g):
  Sim K Z fr W0 W1.g { D with nx:=Pv,ct:=Pv,bk:=D.nx } { D' with nx:=InL K Z W0 W1 Pv,ct:=InL K Z W0 W1 Pv,bk:=D'.nx }:=
 ⟨fun ρ3 σ3 W3 a3 q3=>⟨ρ3,W3,rfl,a3,q3⟩,s.tl,fun ρ3 σ3 W3 a3 q3=>s.nx ρ3 σ3 W3 (a3.weak hg) q3,fun ρ3 σ3 W3 a3 q3=>⟨ρ3,W3,rfl,a3,q3⟩⟩
def At.now{K:Bq}{W0:Vw}{G:Hp}{W:Vw}{ρ:DS}{σ:St}(a:At K Z W0 G W ρ σ):At K Z W0 W.g W ρ σ:=⟨a.le,Same.refl _,a.rl⟩
theorem nB{j:Nat}{x:Str}{iter:Expr}{body:List Stmt}{tb:DTS}{px:Pos}(hc:X.calm=true)(hN:X.N.Nodup)(hi:X.N[j]? = some x)(hx:Loc X.env.scope x)(hp:PassesOwn (model X.prog X.w) X.A X.env X.xe)
  (h:DE X iter te) (hb:DSs X fr body tb) (hs:∀x,foldedSetIterable iter X.env x=pure x:=by intro _;rfl)
  (hf:X.fn x=true∨X.env.scope.names.lookup x=some .local:=by walk_at "f"):DSt X fr (.For (.Name x px) iter body [] pos) (M5 j te tb):=by
 obtain⟨tt,p,l⟩:=h
 obtain⟨tbs,p2,l2⟩:=hb
 refine⟨_,vS hp hc (kf p) (yf hN hi hx hf) p2 hs,fun W0 G ρ σ W D D' at_ s h=>l ρ σ W _ at_.rl h _ fun d v W1 s1 i1 zz=>?_⟩
 obtain⟨ds,Pv,el,h0,ht,hd⟩:=zz
 have hg:Same G W1.g:=at_.gs.trans s1.g
 have hq:∃a xs,v=.ref a∧(∀W2:Vw,Same W1.g W2.g→SqL X.K W2.h a xs)∧AllIs X.K W1.g ds xs:=by
  cases d with
  | lst es=>
   obtain rfl:es=ds:=Option.some.inj el
   obtain⟨a,xs,rfl,h1,h2⟩:=is_lst.mp i1
   exact⟨a,xs,rfl,fun W2 s2=>.of (W2.sub _ _ (s2 _ _ h1)),h2⟩
  | scr ns=>
   obtain rfl:ns.map Dt.int=ds:=Option.some.inj el
   obtain⟨a,rfl,h1⟩:=is_scr.mp i1
   exact⟨a,_,rfl,fun W2 s2=>W2.sub.seq (s2.seq h1),AllIs.ints⟩
  | _=>cases el
 obtain⟨a,xs,rfl,hq,ha⟩:=hq
 refine⟨a,rfl,⟨xs,hq W1 (Same.refl _)⟩,iR (K:=X.K) (a:=a) (xs:=xs) (fun i=>InL X.K (Zx X) W0 W1 (Pv i)) ⟨ρ,W1,rfl,(at_.step s1).now,h0⟩ (fun i σ' H' _ ⟨_,W2,e2,a2,_⟩=>e2 ▸ hq W2 a2.gs) ?_ ?_⟩
 ·rintro i x σ' _ hi ⟨ρ',W2,rfl,a2,hp2⟩
  obtain⟨e,he,ie⟩:=ha.get' hi
  exact l2 W0 W1.g _ _ W2 { D with nx:=Pv (i+1),ct:=Pv (i+1),bk:=D.nx } _ (a2.set j (Is.mono0 a2.gs ie)) (yW s hg) (ht i e ρ' he hp2)
 ·rintro σ' _ ⟨ρ',W2,rfl,a2,hp2⟩
  exact s.nx ρ' σ' W2 (a2.weak hg) (hd ρ' (by rw[ha.length];exact hp2))
theorem ja{j:Nat}{x:Str}{a:Expr}{body:List Stmt}{tb:DTS}{px p0 pos1:Pos}(hc:X.calm=true)(hN:X.N.Nodup)(hi:X.N[j]? = some x)(hx:Loc X.env.scope x)(hp:PassesOwn (model X.prog X.w) X.A X.env X.xe)
  (hg:Gl X "range") (hm:X.mg "range"=none) (h:DE X a te) (hb:DSs X fr body tb) (hs:∀x,foldedSetIterable (.Call (.Name "range" p0) [a] [] pos1) X.env x=pure x:=by intro _;rfl)
  (hst:starEach [a] X.env=[(false,eval a X.env)]:=by rfl) (hst2:starEach [a] X.env=(false,eval a X.env)::starEach [] X.env:=by rfl)
  (hf:X.fn x=true∨X.env.scope.names.lookup x=some .local:=by walk_at "f"):DSt X fr (.For (.Name x px) (.Call (.Name "range" p0) [a] [] pos1) body [] pos) (M4 j te tb):=by
 obtain⟨tt,p,l⟩:=h
 obtain⟨tbs,p2,l2⟩:=hb
 refine⟨_,vS hp hc (mO hg hm (zL p yh hst2) hst) (yf hN hi hx hf) p2 hs,fun W0 G ρ σ W D D' at_ s h=>l ρ σ W _ at_.rl h _ fun d v W1 s1 i1 zz=>?_⟩
 obtain⟨n,Pv,ed,n1,n2,h0,ht,hd⟩:=zz
 subst ed
 have hg:Same G W1.g:=at_.gs.trans s1.g
 refine⟨n,by rw[is_int.mp i1],n1,n2,m_ (lo:=0) (n:=n.toNat) (fun i=>InL X.K (Zx X) W0 W1 (Pv i)) ⟨ρ,W1,rfl,(at_.step s1).now,h0⟩ ?_ ?_⟩
 ·rintro i σ' _ hi ⟨ρ',W2,rfl,a2,hp2⟩
  have ez:(0:Int)+(i:Int)=(i:Int):=Int.zero_add _
  rw[ez]
  exact l2 W0 W1.g _ _ W2 { D with nx:=Pv (i+1),ct:=Pv (i+1),bk:=D.nx } _ (a2.set j (is_int.mpr rfl)) (yW s hg) (ht i ρ' hi hp2)
 ·rintro σ' _ ⟨ρ',W2,rfl,a2,hp2⟩
  exact s.nx ρ' σ' W2 (a2.weak hg) (hd ρ' hp2)
def xN{c:Expr}{body:List Stmt}{tc:DTT}{tb:DTS}(hp:PassesOwn (model X.prog X.w) X.A X.env X.xe)(hc:DT X c tc)(hb:DSs X fr body tb):DSt X fr (.While c body [] pos) (df tc tb):=by
 obtain⟨t0,p0,l0⟩:=hc
 obtain⟨tbs,p2,l2⟩:=hb
 refine⟨_,a_ hp p0 p2,fun W0 G ρ σ W D D' at_ s h=>?_⟩
 obtain⟨Pv,⟨m0,h0⟩,ht⟩:=h
 refine⟨fun m=>InL X.K (Zx X) W0 W (Pv m),⟨m0,ρ,W,rfl,at_.now,h0⟩,?_⟩
 rintro m σ' _ ⟨ρ',W2,rfl,a2,hp2⟩
 refine l0 ρ' σ' W2 _ a2.rl (ht m ρ' hp2) _ fun b W3 s3 q3=>?_
 have a3:=a2.step s3
 cases b with
 | true=>
  refine⟨InL X.K (Zx X) W0 W (fun ρ2=>∃m',m'<m∧Pv m' ρ2),fun σ4 H4 ⟨ρ4,W4,e4,a4,m',hm,p4⟩=>⟨m',hm,ρ4,W4,e4,a4,p4⟩,?_⟩
  exact l2 W0 W.g _ _ W3 { D with nx:=fun ρ2=>∃m',m'<m∧Pv m' ρ2,ct:=fun ρ2=>∃m',m'<m∧Pv m' ρ2,bk:=D.nx } _ a3 (yW s at_.gs) q3
 | false=>exact s.nx ρ' σ' W3 (a3.weak at_.gs) q3
variable{i:Nat}{x:Str}
def HN(i:Nat)(te:DTE):DTS:=fun D ρ=>∃ds,ρ[i]? = some (.own ds)∧te ρ fun d=>ds.length≤100000∧D.nx (ρ.set i (.own (ds++[d])))
def xB(i:Nat)(h:DE X e te)(hN:X.N[i]? = some x:=by rfl)(hv:Vis X.env.scope x:=by walk_at "v")(hd:ug x:=by decide)
  (hcd:we x:=by decide) (hst:starEach [e] X.env=(false,eval e X.env)::starEach [] X.env:=by rfl) (hpl:K' X.env p2 []:=by rfl)
  (hfew:((backTo p2 (starEach [e] X.env)).all (fun x=>!x.1)&&(backToKw p2 (keywordEach [] X.env)).all (fun x=>x.1.isSome)
   && decide ([e].length+([]:List Keyword).length+(if([]:List Keyword).isEmpty then 0 else 1)<30))=true:=by rfl)
  (hbase:attributeBase (.Name x p0) "append" X.env (eval (.Name x p0) X.env)=eval (.Name x p0) X.env:=by rfl) (hline:(p1.endLine==p2.line)=true:=by rfl)
  (hs:swapsWith (.Call (.Attribute (.Name x p0) "append" p1) [e] [] p2) none pos.line X.env=pure false:=by rfl):
  DSt X fr (.Expr (.Call (.Attribute (.Name x p0) "append" p1) [e] [] p2) pos) (HN i te):=by
 obtain⟨tt,p,l⟩:=h
 refine⟨_,vT (oW PySem.F.plainAttrs_list PySem.F.slot_list_append PySem.F.type_list_append qF (xa hN hv hd hcd) (zL p yh hst) hbase hfew hline hst hpl) hs,fun W0 G ρ σ W D D' at_ s h=>?_⟩
 obtain⟨ds,ei,h⟩:=h
 obtain⟨b,xs,e1,e2,e3,e4,e5⟩:=at_.rl.ow i ds ei
 refine⟨.ref b,e1,.inl ⟨rfl,xs,.of e2⟩,l ρ σ W _ at_.rl h _ fun d v W1 s1 i1 zz=>?_⟩
 obtain⟨hl,q1⟩:=zz
 have a1:=at_.step s1
 have hg1:W1.g b=none:=s1.n b (by rw[e2];intro z;cases z) e3
 refine⟨b,xs,v,rfl,rfl,s1.h _ _ e2,by rw[←e5.length];exact Cj hl (by decide),?_⟩
 exact s.nx _ _ _ (a1.put ei e1 hg1 e4 ((e5.mono s1).append (allIs_cons.mpr ⟨v,[],rfl,i1,allIs_nil.mpr rfl⟩))) q1
def AllIs.dropLast{G:Hp}{ds:List Dt}{xs:List V}(h:AllIs K G ds xs):AllIs K G ds.dropLast xs.dropLast:=by
 rw[List.dropLast_eq_take,List.dropLast_eq_take,h.length]
 exact h.take _
theorem AllIs.reverse{G:Hp}:∀{ds:List Dt}{xs:List V},AllIs K G ds xs→AllIs K G ds.reverse xs.reverse
 | [],_,h=>by rw[allIs_nil.mp h];exact allIs_nil.mpr rfl
 | d::ds,_,h=>by
  obtain⟨x,r,rfl,h1,h2⟩:=allIs_cons.mp h
  rw[CD,CD]
  exact(AllIs.reverse h2).append (allIs_cons.mpr ⟨x,[],rfl,h1,allIs_nil.mpr rfl⟩)
theorem AllIs.set{G:Hp}:∀{ds:List Dt}{xs:List V}{d:Dt}{v:V}(j:Nat),AllIs K G ds xs→Is K G d v→AllIs K G (ds.set j d) (xs.set j v)
 | [],_,_,_,_,h,_=>by rw[allIs_nil.mp h];exact allIs_nil.mpr rfl
 | d::ds,_,_,_,0,h,i=>by
  obtain⟨x,r,rfl,h1,h2⟩:=allIs_cons.mp h
  exact allIs_cons.mpr ⟨_,_,rfl,i,h2⟩
 | d::ds,_,_,_,j+1,h,i=>by
  obtain⟨x,r,rfl,h1,h2⟩:=allIs_cons.mp h
  exact allIs_cons.mpr ⟨_,_,rfl,h1,AllIs.set j h2 i⟩
def U_(i:Nat):DTS:=fun D ρ=>∃ds,ρ[i]? = some (.own ds)∧ds.isEmpty=false∧D.nx (ρ.set i (.own ds.dropLast))
def Z5(i:Nat)(hN:X.N[i]? = some x:=by rfl)(hv:Vis X.env.scope x:=by walk_at "v")(hd:ug x:=by decide)
  (hcd:we x:=by decide)
  (hbase:attributeBase (.Name x p0) "pop" X.env (eval (.Name x p0) X.env)=eval (.Name x p0) X.env:=by rfl) (hline:(p1.endLine==p2.line)=true:=by rfl)
  (hs:swapsWith (.Call (.Attribute (.Name x p0) "pop" p1) [] [] p2) none pos.line X.env=pure false:=by rfl):
  DSt X fr (.Expr (.Call (.Attribute (.Name x p0) "pop" p1) [] [] p2) pos) (U_ i):=by
 refine⟨_,vT (fK PySem.F.plainAttrs_list PySem.F.slot_list_pop PySem.F.type_list_pop UC (xa hN hv hd hcd) hbase hline) hs,fun W0 G ρ σ W D D' at_ s h=>?_⟩
 obtain⟨ds,ei,hne,q1⟩:=h
 obtain⟨b,xs,e1,e2,e3,e4,e5⟩:=at_.rl.ow i ds ei
 have hx:xs≠[]:=fun z=>by
  have:=e5.length
  rw[z]at this
  rw[B8.mp this]at hne
  cases hne
 have hlt:xs.length-1<xs.length:=by
  have:=List.length_pos_iff.mpr hx
  omega
 exact⟨.ref b,e1,.inl ⟨rfl,xs,.of e2⟩,b,xs,xs[xs.length-1],rfl,rfl,e2,Bu hlt,s.nx _ _ _ (at_.put ei e1 e3 e4 e5.dropLast) q1⟩
def Hz(i:Nat):DTS:=fun D ρ=>∃ds,ρ[i]? = some (.own ds)∧D.nx (ρ.set i (.own ds.reverse))
def qP(i:Nat)(hN:X.N[i]? = some x:=by rfl)(hv:Vis X.env.scope x:=by walk_at "v")(hd:ug x:=by decide)
  (hcd:we x:=by decide)
  (hbase:attributeBase (.Name x p0) "reverse" X.env (eval (.Name x p0) X.env)=eval (.Name x p0) X.env:=by rfl) (hline:(p1.endLine==p2.line)=true:=by rfl)
  (hs:swapsWith (.Call (.Attribute (.Name x p0) "reverse" p1) [] [] p2) none pos.line X.env=pure false:=by rfl):
  DSt X fr (.Expr (.Call (.Attribute (.Name x p0) "reverse" p1) [] [] p2) pos) (Hz i):=by
 refine⟨_,vT (fK PySem.F.plainAttrs_list PySem.F.slot_list_reverse PySem.F.type_list_reverse eD (xa hN hv hd hcd) hbase hline) hs,fun W0 G ρ σ W D D' at_ s h=>?_⟩
 obtain⟨ds,ei,q1⟩:=h
 obtain⟨b,xs,e1,e2,e3,e4,e5⟩:=at_.rl.ow i ds ei
 exact⟨.ref b,e1,.inl ⟨rfl,xs,.of e2⟩,b,xs,rfl,rfl,e2,s.nx _ _ _ (at_.put ei e1 e3 e4 e5.reverse) q1⟩
end
section
variable{P:Program}{w:World}{K:Bq}{mg:be}{base:Heap}
def nK{W:Vw}{N:List Str}{ds:List Dt}{vs:List V}(ia:AllIs K W.g ds vs)(hz:Z=W.h):At K Z W W.g W (wH N.length ds) (start N vs):=⟨Le.refl W,Same.refl _,Rl.start ia (hz ▸ Same.refl _)⟩
theorem okD{x qual:Str}{st:Stmt}{f:Addr}{fd:FuncData}{N ps:List Str}{k:Nat}{S:DSp}(F:Fun K x qual st f fd)(sc:zk N ps (defScope st))(len:∀ds Q,S ds Q→ds.length=ps.length)
  (hbody:∀(cdv:Value)(A:Around)(outer:List Env)(s:Shared)(H:Hp)(E:XK),Room k (A.deeper (envOfC qual (defScope st) s.heap.objs.size f cdv))→∀(ds:List Dt)(Q:Dt→Prop),S ds Q→
   ∃t,DSs (ub CX0 P w K mg base N qual (defScope st) f cdv A outer s H E).nox .d (defBody st) t∧t { nx:=fun _=>Q .non,rt:=Q } (wH N.length ds)):FnOk P w K mg base CX0 (k+1) f fd ps (zw K S):=by
 refine F.ok sc (fun vs H Q E h=>?_) (fun cdv A outer s H vs Q E hr h=>?_)
 ·obtain⟨W,ds,Qd,_,ia,hS,_⟩:=h
  rw[←ia.length]
  exact len ds Qd hS
 obtain⟨W,ds,Qd,rfl,ia,hS,kk⟩:=h
 obtain⟨t,⟨ts,p,l⟩,ht⟩:=hbody cdv A outer s W.h E hr ds Qd hS
 refine⟨ts,p,l W W.g (wH N.length ds) (start N vs) W { nx:=fun _=>Qd .non,rt:=Qd } _ (nK ia (gO (C0 _))) ⟨fun ρ σ W' a q=>kk .non .non W' a.le (is_non.mpr rfl) q,fun d v W' s' i' q=>kk d v W' s' i' q,fun _ _ _ _ q=>q.elim,fun _ _ _ _ q=>q.elim⟩ ht⟩
theorem okF{x qual:Str}{st:Stmt}{f:Addr}{fd:FuncData}{N ps:List Str}{k:Nat}{S:DSp}(F:Fun K x qual st f fd)(sc:zk N ps (defScope st))(len:∀ds Q,S ds Q→ds.length=ps.length)
  (hbody:∀(cdv:Value)(A:Around)(outer:List Env)(s:Shared)(H:Hp)(E:XK),Room k (A.deeper (envOfC qual (defScope st) s.heap.objs.size f cdv))→∀(ds:List Dt)(Q:Dt→Prop),S ds Q→
   ∃t,DSs (ub CX0 P w K mg base N qual (defScope st) f cdv A outer s H E).nox .l (defBody st) t∧t { nx:=fun _=>False,rt:=Q } (wH N.length ds)):FnOk P w K mg base CX0 (k+1) f fd ps (zZ K S):=by
 refine F.ok sc (fun vs H Q E h=>?_) (fun cdv A outer s H vs Q E hr h=>?_)
 ·obtain⟨W,ds,Qd,_,ia,hS,_⟩:=h
  rw[←ia.length]
  exact len ds Qd hS
 obtain⟨W,ds,Qd,rfl,ia,hS,kk⟩:=h
 obtain⟨t,⟨ts,p,l⟩,ht⟩:=hbody cdv A outer s W.h E hr ds Qd hS
 exact⟨ts,p,l W W.g (wH N.length ds) (start N vs) W { nx:=fun _=>False,rt:=Qd } _ (nK ia (gO (C0 _))) ⟨fun ρ σ W' a q=>q.elim,fun d v W' s' ⟨es,p,xs,e1,e2,e3,e4,e5,e6⟩ q=>by subst e1;subst e2;exact kk es p xs W' s' e3 e4 e5 e6 q,fun _ _ _ _ q=>q.elim,fun _ _ _ _ q=>q.elim⟩ ht⟩
def DOk.mk'{x qual:Str}{st:Stmt}{f:Addr}{fd:FuncData}{ps:List Str}{n:Nat}{S:DSp}(F:Fun K x qual st f fd)(hm:mg x=some (.ref f))(hb:Binds K fd ps [])(h:FnOk P w K mg base CX0 n f fd ps (zw K S)):DOk P w K mg base n x S:=
 ⟨f,fd,ps,hm,F.kp,hb,h⟩
def FOk.mk'{x qual:Str}{st:Stmt}{f:Addr}{fd:FuncData}{ps:List Str}{n:Nat}{S:DSp}(F:Fun K x qual st f fd)(hm:mg x=some (.ref f))(hb:Binds K fd ps [])(h:FnOk P w K mg base CX0 n f fd ps (zZ K S)):FOk P w K mg base n x S:=
 ⟨f,fd,ps,hm,F.kp,hb,h⟩
def MOk.mono{C:Addr}{x:Str}{m n:Nat}{S:DSp}(h:MOk P w K mg base m C x S)(hl:m≤n):MOk P w K mg base n C x S:=
 ⟨h.cl,let⟨f,fd,ps,h1,h3,h4⟩:=h.ex; ⟨f,fd,ps,h1,h3,h4.mono hl⟩⟩
def FMOk.mono{C:Addr}{x:Str}{m n:Nat}{S:DSp}(h:FMOk P w K mg base m C x S)(hl:m≤n):FMOk P w K mg base n C x S:=
 ⟨h.cl,let⟨f,fd,ps,h1,h3,h4⟩:=h.ex; ⟨f,fd,ps,h1,h3,h4.mono hl⟩⟩
def MOk.imp{C:Addr}{x:Str}{n:Nat}{S S':DSp}(h:MOk P w K mg base n C x S)(hi:∀ds Q,S' ds Q→S ds Q):MOk P w K mg base n C x S':=
 ⟨h.cl,let⟨f,fd,ps,h1,h3,h4⟩:=h.ex; ⟨f,fd,ps,h1,h3,h4.imp fun vs H Q E ⟨W,ds,Qd,a,b,c,d⟩=>⟨W,ds,Qd,a,b,hi _ _ c,d⟩⟩⟩
def FMOk.imp{C:Addr}{x:Str}{n:Nat}{S S':DSp}(h:FMOk P w K mg base n C x S)(hi:∀ds Q,S' ds Q→S ds Q):FMOk P w K mg base n C x S':=
 ⟨h.cl,let⟨f,fd,ps,h1,h3,h4⟩:=h.ex; ⟨f,fd,ps,h1,h3,h4.imp fun vs H Q E ⟨W,ds,Qd,a,b,c,d⟩=>⟨W,ds,Qd,a,b,hi _ _ c,d⟩⟩⟩
theorem tG{qual:Str}{st:Stmt}{g C:Addr}{fd:FuncData}{y f:Str}{k:Nat}{ok:Int→Prop}(F:Fun K "__init__" qual st g fd)(sc:zk ["self",y] ["self",y] (defScope st))(cl:Cls K C)(na:NoAttr K C f)
  (hbody:∀(cdv:Value)(A:Around)(outer:List Env)(s:Shared)(H:Hp)(E:XK),Room k (A.deeper (envOfC qual (defScope st) s.heap.objs.size g cdv))→
   ∃te t,PSs (ub CX0 P w K mg base ["self",y] qual (defScope st) g cdv A outer s H E).nox (defBody st) (TV K (YT 0) te f)∧LiE K (Zx (ub CX0 P w K mg base ["self",y] qual (defScope st) g cdv A outer s H E)) te t∧∀i,ok i→t [.none,.some (.int i)] fun d=>d=.int i):
  FnOk P w K mg base CX0 (k+1) g fd ["self",y] (wR C f ok):=by
 refine F.ok sc (fun vs H Q E h=>?_) (fun cdv A outer s H vs Q E hr h=>?_)
 ·obtain⟨p,dx,i,rfl,_⟩:=h
  rfl
 obtain⟨p,dx,i,rfl,hp,hok,q⟩:=h
 obtain⟨te,t,ps,l,ht⟩:=hbody cdv A outer s H E hr
 rw[VP]at l
 refine⟨_,ps,l (F:=H) [.none,.some (.int i)] _ ⟨H,H,Same.refl H⟩ _ ⟨rfl,fun j d e=>?_,fun j ds e=>?_,fun j j' ds es _ e _=>?_,Same.refl H,Same.refl H,fun j a ds e=>?_,fun j φ e=>?_⟩ (ht i hok) _ fun d v W1 s1 i1 ed=>?_⟩
 ·match j,e with
  | 0,e=>cases e
  | 1,e=>
   have e':Dt.int i=d:=by cases e;rfl
   subst e'
   exact⟨.int i,rfl,is_int.mpr rfl⟩
  | j+2,e=>cases e
 ·match j,e with
  | 0,e=>cases e
  | 1,e=>cases e
  | j+2,e=>cases e
 ·match j,e with
  | 0,e=>cases e
  | 1,e=>cases e
  | j+2,e=>cases e
 ·match j,e with
  | 0,e=>cases e
  | 1,e=>cases e
  | j+2,e=>cases e
 ·match j,e with
  | 0,e=>cases e
  | 1,e=>cases e
  | j+2,e=>cases e
 ·subst ed
  obtain rfl:=is_int.mp i1
  refine⟨.ref p,rfl,p,C,dx,[],rfl,s1.h _ _ hp,cl,na,(by show 0<1000;decide),?_⟩
  refine q _ zB fun b o hb hbp=>?_
  rw[zC hbp]
  exact s1.h _ _ hb
end
end OD
namespace OD
open PySem PySem.Spec PyProof.Rows L2
mutual
def eqD:Dt→Dt→Bool
 | .non,.non=>true
 | .bl a,.bl b=>a==b
 | .bl a,.int b=>(if a then(1:Int) else 0)==b
 | .int a,.bl b=>a==(if b then(1:Int) else 0)
 | .int a,.int b=>a==b
 | .str a,.str b=>a==b
 | .tup ds,.tup es=>eqDs ds es
 | .lst ds,.lst es=>eqDs ds es
 | _,_=>false
def eqDs:List Dt→List Dt→Bool
 | [],[]=>true
 | d::ds,e::es=>eqD d e&&eqDs ds es
 | _,_=>false
end
def okE:Nat→Dt→Bool
 | _,.non=>true
 | _,.bl _=>true
 | _,.int _=>true
 | _,.str _=>true
 | n+1,.tup ds=>ds.all (okE n)
 | n+1,.lst ds=>ds.all (okE n)
 | _,_=>false
def x6(a b:Int):eqD (.int a) (.int b)=(a==b):=by unfold eqD;rfl
def Z1(a b:Bool):eqD (.bl a) (.bl b)=(a==b):=by unfold eqD;rfl
def cw(a b:Str):eqD (.str a) (.str b)=(a==b):=by unfold eqD;rfl
def rC(ds es:List Dt):eqD (.tup ds) (.tup es)=eqDs ds es:=by rw[eqD]
def oq(ds es:List Dt):eqD (.lst ds) (.lst es)=eqDs ds es:=by rw[eqD]
def rB:eqDs [] []=true:=by unfold eqDs;rfl
def vv(d e:Dt)(ds es:List Dt):eqDs (d::ds) (e::es)=(eqD d e&&eqDs ds es):=by rw[eqDs]
def mw(e:Dt)(es:List Dt):eqDs [] (e::es)=false:=by unfold eqDs;rfl
def mx(e:Dt)(es:List Dt):eqDs (e::es) []=false:=by unfold eqDs;rfl
theorem wG:∀ds es:List Dt,(((List.range (min ds.length es.length)).all fun j=>eqD (ds.getD j .non) (es.getD j .non))&&(ds.length==es.length))=eqDs ds es
 | [],[]=>by rw[rB];rfl
 | [],e::es=>by
  rw[mw]
  have h:((([]:List Dt).length==(e::es).length))=false:=by simp
  rw[h,Bool.and_false]
 | d::ds,[]=>by
  rw[mx]
  have h:(((d::ds).length==([]:List Dt).length))=false:=by simp
  rw[h,Bool.and_false]
 | d::ds,e::es=>by
  have ih:=wG ds es
  rw[vv,←ih]
  have hm:min (d::ds).length (e::es).length=min ds.length es.length+1:=by
   rw[BM,BM];omega
  rw[hm,List.range_succ_eq_map,C3,List.all_map,Bool.and_assoc]
  have hl:((d::ds).length==(e::es).length)=(ds.length==es.length):=by
   rw[BM,BM]
   rw[CL,beq_iff_eq,beq_iff_eq]
   omega
  rw[hl]
  rfl
def lp{ds es:List Dt}(h:ds.length≠es.length):eqDs ds es=false:=by
 rw[←wG ds es]
 have h:(ds.length==es.length)=false:=beq_eq_false_iff_ne.mpr h
 rw[h,Bool.and_false]
def iZ{ds es:List Dt}(h:ds.length=es.length):((List.range ds.length).all fun j=>eqD (ds.getD j .non) (es.getD j .non))=eqDs ds es:=by
 rw[←wG ds es]
 have h':(ds.length==es.length)=true:=beq_iff_eq.mpr h
 rw[h',Bool.and_true,←h,Nat.min_self]
theorem qO:∀{ds:List Dt},(∀d∈ds,eqD d d=true)→eqDs ds ds=true
 | [],_=>rB
 | d::ds,h=>by
  rw[vv,h d BJ,qO fun e he=>h e (BI _ he)]
  rfl
def Z0:∀(n:Nat){d:Dt},okE n d=true→eqD d d=true:=by
 intro n
 induction n with
 | zero=>
  intro d h
  cases d with
  | non=>unfold eqD;rfl
  | bl b=>rw[Z1];exact beq_self_eq_true _
  | int b=>rw[x6];exact beq_self_eq_true _
  | str b=>rw[cw];exact beq_self_eq_true _
  | _=>simp[okE]at h
 | succ n ih=>
  intro d h
  cases d with
  | non=>unfold eqD;rfl
  | bl b=>rw[Z1];exact beq_self_eq_true _
  | int b=>rw[x6];exact beq_self_eq_true _
  | str b=>rw[cw];exact beq_self_eq_true _
  | tup ds=>
   rw[rC]
   have h':∀d∈ds,okE n d=true:=by simpa[okE] using h
   exact qO fun d hd=>ih (h' d hd)
  | lst ds=>
   rw[oq]
   have h':∀d∈ds,okE n d=true:=by simpa[okE] using h
   exact qO fun d hd=>ih (h' d hd)
  | _=>simp[okE]at h
example:eqD (.int ((2:Nat):Int)) (.int 2)=true:=by rfl
section
variable{X:Cx}{f':am}{σ:St}{K:Bq}{H:Hp}{s:Shared}
theorem eU:∀{ds es:List Dt}{xs:List V},(∀d e v,d∈ds→e∈es→Is K H d v→Is K H e v→eqD d e=true)→AllIs K H ds xs→AllIs K H es xs→eqDs ds es=true
 | [],es,xs,ih,i1,i2=>by
  obtain rfl:=allIs_nil.mp i1
  cases es with
  | nil=>exact rB
  | cons e es=>obtain⟨_,_,z,_⟩:=allIs_cons.mp i2;cases z
 | d::ds,es,xs,ih,i1,i2=>by
  obtain⟨x,r,rfl,j1,j2⟩:=allIs_cons.mp i1
  cases es with
  | nil=>cases allIs_nil.mp i2
  | cons e es=>
   obtain⟨y,r',z,k1,k2⟩:=allIs_cons.mp i2
   cases z
   rw[vv,ih d e x BJ BJ j1 k1,eU (fun d' e' v' hd he=>ih d' e' v' (BI _ hd) (BI _ he)) j2 k2]
   rfl
def uW:Dt→Bool
 | .non=>true
 | .bl _=>true
 | .int _=>true
 | .str _=>true
 | _=>false
def vD:Dt→V
 | .bl b=>.bl b
 | .int i=>.int i
 | .str x=>.str x
 | _=>.non
def yi{d:Dt}{v:V}(h:uW d=true)(i:Is K H d v):v=vD d:=by
 cases d<;>first|exact is_non.mp i|exact is_bl.mp i|exact is_int.mp i|exact is_str.mp i|cases h
def qN{d:Dt}(h:uW d=true):ui (vD d)=true:=by cases d<;>first|rfl|cases h
def rA{d:Dt}{a:Addr}(h:uW d=true)(e:vD d=.ref a):False:=by cases d<;>first|cases e|cases h
def iY{v:V}(h:ui v=true):eqV v v=true:=by cases v<;>first|rfl|exact beq_self_eq_true _|cases h
def rD{d e:Dt}(h1:uW d=true)(h2:uW e=true):eqD d e=eqV (vD d) (vD e):=by cases d<;>first|exact absurd h1 Bw|(cases e<;>first|exact absurd h2 Bw|rfl)
def uX{d:Dt}{es:List Dt}(h:uW d=true):eqD d (.tup es)=false∧eqD (.tup es) d=false∧eqD d (.lst es)=false∧eqD (.lst es) d=false:=by
 cases d<;>first|exact⟨rfl,rfl,rfl,rfl⟩|cases h
def wd{n:Nat}{d:Dt}(h:okE n d=true):uW d=true∨∃m ds,n=m+1∧(d=.tup ds∨d=.lst ds)∧∀d∈ds,okE m d=true:=by
 cases d with
 | non=>exact .inl rfl
 | bl b=>exact .inl rfl
 | int b=>exact .inl rfl
 | str b=>exact .inl rfl
 | tup ds=>
  cases n with
  | zero=>simp[okE]at h
  | succ m=>exact .inr ⟨m,ds,rfl,.inl rfl,by simpa[okE] using h⟩
 | lst ds=>
  cases n with
  | zero=>simp[okE]at h
  | succ m=>exact .inr ⟨m,ds,rfl,.inr rfl,by simpa[okE] using h⟩
 | _=>cases n<;>simp[okE]at h
def cv:∀(n:Nat){d e:Dt}{v:V},okE n d=true→okE n e=true→Is K H d v→Is K H e v→eqD d e=true:=by
 intro n
 induction n with
 | zero=>
  intro d e v h1 h2 i1 i2
  rcases wd h1 with f1|⟨m,ds,z,_⟩
  ·rcases wd h2 with f2|⟨m,ds,z,_⟩
   ·rw[rD f1 f2,←yi f1 i1,←yi f2 i2]
    exact iY (by rw[yi f1 i1];exact qN f1)
   ·cases z
  ·cases z
 | succ n ih=>
  intro d e v h1 h2 i1 i2
  rcases wd h1 with f1|⟨m,ds,z,hk,hd⟩
  ·rcases wd h2 with f2|⟨m,es,z,hk,he⟩
   ·rw[rD f1 f2,←yi f1 i1,←yi f2 i2]
    exact iY (by rw[yi f1 i1];exact qN f1)
   ·obtain rfl:=yi f1 i1
    rcases hk with rfl|rfl
    ·obtain⟨_,_,e,_⟩:=is_tup.mp i2;exact(rA f1 e).elim
    ·obtain⟨_,_,e,_⟩:=is_lst.mp i2;exact(rA f1 e).elim
  ·cases z
   rcases wd h2 with f2|⟨m,es,z,hk2,he⟩
   ·obtain rfl:=yi f2 i2
    rcases hk with rfl|rfl
    ·obtain⟨_,_,e,_⟩:=is_tup.mp i1;exact(rA f2 e).elim
    ·obtain⟨_,_,e,_⟩:=is_lst.mp i1;exact(rA f2 e).elim
   ·cases z
    rcases hk with rfl|rfl
    ·obtain⟨a,xs,rfl,hx,ha⟩:=is_tup.mp i1
     rcases hk2 with rfl|rfl
     ·obtain⟨b,ys,eb,hy,hb⟩:=is_tup.mp i2
      cases eb
      rw[hx]at hy
      cases hy
      rw[rC]
      exact eU (fun d e v q1 q2=>ih (hd d q1) (he e q2)) ha hb
     ·obtain⟨b,ys,eb,hy,hb⟩:=is_lst.mp i2
      cases eb
      rw[hx]at hy
      cases hy
    ·obtain⟨a,xs,rfl,hx,ha⟩:=is_lst.mp i1
     rcases hk2 with rfl|rfl
     ·obtain⟨b,ys,eb,hy,hb⟩:=is_tup.mp i2
      cases eb
      rw[hx]at hy
      cases hy
     ·obtain⟨b,ys,eb,hy,hb⟩:=is_lst.mp i2
      cases eb
      rw[hx]at hy
      cases hy
      rw[oq]
      exact eU (fun d e v q1 q2=>ih (hd d q1) (he e q2)) ha hb
section
variable{A:Around}
open SeqAt
theorem tI{d:Dt}{v:Value}{b:Addr}{its:Array Value}(f:uW d=true)(q:RelV (vD d) v)(t:s.heap.IsTuple b its)(hA:A.units<cLine):
  (EqAt A s v (.ref b) false∧EqAt A s (.ref b) v false)∧(RcAt A s v (.ref b) false∧RcNeAt A s v (.ref b) true)∧RcAt A s (.ref b) v false∧RcNeAt A s (.ref b) v true:=by
 cases d with
 | non=>cases q;exact⟨⟨.none_tuple t hA,.tuple_none t hA⟩,⟨.none_tuple t hA,.none_tuple t hA⟩,.tuple_none t hA,.tuple_none t hA⟩
 | bl a=>cases q;exact⟨⟨.bool_tuple a t hA,.tuple_bool a t hA⟩,⟨.bool_tuple a t hA,.bool_tuple a t hA⟩,.tuple_bool a t hA,.tuple_bool a t hA⟩
 | int a=>obtain⟨u,rfl⟩:=q;exact⟨⟨.int_tuple a u t hA,.tuple_int a u t hA⟩,⟨.int_tuple a u t hA,.int_tuple a u t hA⟩,.tuple_int a u t hA,.tuple_int a u t hA⟩
 | str a=>obtain⟨u,rfl⟩:=q;exact⟨⟨.str_tuple a u t hA,.tuple_str a u t hA⟩,⟨.str_tuple a u t hA,.str_tuple a u t hA⟩,.tuple_str a u t hA,.tuple_str a u t hA⟩
 | _=>cases f
theorem tJ{d:Dt}{v:Value}{b:Addr}{its:Array Value}(f:uW d=true)(q:RelV (vD d) v)(t:s.heap.IsList b its)(hA:A.units<cLine):
  (EqAt A s v (.ref b) false∧EqAt A s (.ref b) v false)∧(RcAt A s v (.ref b) false∧RcNeAt A s v (.ref b) true)∧RcAt A s (.ref b) v false∧RcNeAt A s (.ref b) v true:=by
 cases d with
 | non=>cases q;exact⟨⟨.none_list t hA,.list_none t hA⟩,⟨.none_list t hA,.none_list t hA⟩,.list_none t hA,.list_none t hA⟩
 | bl a=>cases q;exact⟨⟨.bool_list a t hA,.list_bool a t hA⟩,⟨.bool_list a t hA,.bool_list a t hA⟩,.list_bool a t hA,.list_bool a t hA⟩
 | int a=>obtain⟨u,rfl⟩:=q;exact⟨⟨.int_list a u t hA,.list_int a u t hA⟩,⟨.int_list a u t hA,.int_list a u t hA⟩,.list_int a u t hA,.list_int a u t hA⟩
 | str a=>obtain⟨u,rfl⟩:=q;exact⟨⟨.str_list a u t hA,.list_str a u t hA⟩,⟨.str_list a u t hA,.str_list a u t hA⟩,.list_str a u t hA,.list_str a u t hA⟩
 | _=>cases f
def XQ{d e:Dt}{v u:Value}(f1:uW d=true)(f2:uW e=true)(q1:RelV (vD d) v)(q2:RelV (vD e) u):RcAt A s v u (eqD d e)∧RcNeAt A s v u (!eqD d e):=by
 cases d with
 | non=>
  cases q1
  cases e with
  | non=>cases q2;exact⟨.none_none,.none_none⟩
  | bl b=>cases q2;exact⟨.none_bool b,.none_bool b⟩
  | int b=>obtain⟨t,rfl⟩:=q2;exact⟨.none_int b t,.none_int b t⟩
  | str b=>obtain⟨t,rfl⟩:=q2;exact⟨.none_str b t,.none_str b t⟩
  | _=>cases f2
 | bl a=>
  cases q1
  cases e with
  | non=>cases q2;exact⟨.bool_none a,.bool_none a⟩
  | bl b=>cases q2;exact⟨.bool_bool a b,.bool_bool a b⟩
  | int b=>obtain⟨t,rfl⟩:=q2;exact⟨.bool_int a b t,.bool_int a b t⟩
  | str b=>obtain⟨t,rfl⟩:=q2;exact⟨.bool_str a b t,.bool_str a b t⟩
  | _=>cases f2
 | int a=>
  obtain⟨ta,rfl⟩:=q1
  cases e with
  | non=>cases q2;exact⟨.int_none a ta,.int_none a ta⟩
  | bl b=>cases q2;exact⟨.int_bool a ta b,.int_bool a ta b⟩
  | int b=>obtain⟨t,rfl⟩:=q2;exact⟨.int_int a ta b t,.int_int a ta b t⟩
  | str b=>obtain⟨t,rfl⟩:=q2;exact⟨.int_str a ta b t,.int_str a ta b t⟩
  | _=>cases f2
 | str a=>
  obtain⟨ta,rfl⟩:=q1
  cases e with
  | non=>cases q2;exact⟨.str_none a ta,.str_none a ta⟩
  | bl b=>cases q2;exact⟨.str_bool a ta b,.str_bool a ta b⟩
  | int b=>obtain⟨t,rfl⟩:=q2;exact⟨.str_int a ta b t,.str_int a ta b t⟩
  | str b=>obtain⟨t,rfl⟩:=q2;exact⟨.str_str a ta b t,.str_str a ta b t⟩
  | _=>cases f2
 | _=>cases f1
end
theorem rq{n:Nat}{A:Around}{ds es:List Dt}{xs ys:List V}{its its2:List Value}
  (ih:∀{d e:Dt}{x y:V}{v u:Value},okE n d=true→okE n e=true→Is K H d x→Is K H e y→RelV x v→RelV y u→SeqAt.EqAt A s v u (eqD d e))
  (hd:∀d∈ds,okE n d=true) (he:∀d∈es,okE n d=true) (a1:AllIs K H ds xs) (a2:AllIs K H es ys) (r1:Vals xs its) (r2:Vals ys its2):
  ∀j (h1:j<its.toArray.size) (h2:j<its2.toArray.size),SeqAt.EqAt A s its.toArray[j] its2.toArray[j] (eqD (ds.getD j .non) (es.getD j .non)):=by
 intro j h1 h2
 have l1:=a1.length.trans r1.length
 have l2:=a2.length.trans r2.length
 rw[BC]at h1 h2
 have g1:ds[j]? = some ds[j]:=Bu (by omega)
 have g2:es[j]? = some es[j]:=Bu (by omega)
 obtain⟨x,e1,i1⟩:=a1.get g1
 obtain⟨y,e2,i2⟩:=a2.get g2
 obtain⟨v,e3,q1⟩:=r1.get e1
 obtain⟨u,e4,q2⟩:=r2.get e2
 have f1:ds.getD j .non=ds[j]:=by rw[Br,g1];rfl
 have f2:es.getD j .non=es[j]:=by rw[Br,g2];rfl
 have f3:its.toArray[j]=v:=by
  have z:its[j]? = some its[j]:=Bu h1
  rw[z]at e3
  simpa using Option.some.inj e3
 have f4:its2.toArray[j]=u:=by
  have z:its2[j]? = some its2[j]:=Bu h2
  rw[z]at e4
  simpa using Option.some.inj e4
 rw[f1,f2,f3,f4]
 exact ih (hd _ (BH g1)) (he _ (BH g2)) i1 i2 q1 q2
def Mz(I:Inv X f' σ H s):∀(n:Nat){A:Around}{d e:Dt}{x y:V}{v u:Value},A.units+n<cLine→okE n d=true→okE n e=true→Is X.K H d x→Is X.K H e y→RelV x v→RelV y u→SeqAt.EqAt A s v u (eqD d e):=by
 intro n
 induction n with
 | zero=>
  intro A d e x y v u hu h1 h2 i1 i2 q1 q2
  rcases wd h1 with f1|⟨m,ds,z,_⟩
  ·rcases wd h2 with f2|⟨m,ds,z,_⟩
   ·rw[rD f1 f2]
    rw[yi f1 i1]at q1
    rw[yi f2 i2]at q2
    exact eV q1 q2 (qN f1) (qN f2)
   ·cases z
  ·cases z
 | succ n ih=>
  intro A d e x y v u hu h1 h2 i1 i2 q1 q2
  have hA:A.units<cLine:=by omega
  have hu':A.in1.units+n<cLine:=by show A.units+1+n<cLine;omega
  rcases wd h1 with f1|⟨m,ds,z,hk,hd⟩
  ·rw[yi f1 i1]at q1
   rcases wd h2 with f2|⟨m,es,z,rfl|rfl,he⟩
   ·rw[rD f1 f2]
    rw[yi f2 i2]at q2
    exact eV q1 q2 (qN f1) (qN f2)
   ·obtain⟨b,ys,rfl,hy,hb⟩:=is_tup.mp i2
    obtain⟨its2,r2,t2,_⟩:=I.tuple (.of hy)
    cases q2
    rw[(uX f1).1]
    exact(tI f1 q1 t2 hA).1.1
   ·obtain⟨b,ys,rfl,hy,hb⟩:=is_lst.mp i2
    obtain⟨its2,r2,t2,_⟩:=I.list (.of hy)
    cases q2
    rw[(uX f1).2.2.1]
    exact(tJ f1 q1 t2.isList hA).1.1
  ·cases z
   rcases hk with rfl|rfl
   ·obtain⟨a,xs,rfl,hx,ha⟩:=is_tup.mp i1
    obtain⟨its,r1,t1,_⟩:=I.tuple (.of hx)
    cases q1
    rcases wd h2 with f2|⟨m,es,z,rfl|rfl,he⟩
    ·rw[yi f2 i2]at q2
     rw[(uX f2).2.1]
     exact(tI f2 q2 t1 hA).1.2
    ·cases z
     have i2':=i2
     obtain⟨b,ys,rfl,hy,hb⟩:=is_tup.mp i2
     obtain⟨its2,r2,t2,_⟩:=I.tuple (.of hy)
     cases q2
     by_cases hab:a=b
     ·subst hab
      rw[cv _ h1 h2 i1 i2']
      exact SeqAt.EqAt.same _
     ·have q:=SeqAt.RcAt.tuples t1 t2 hA (rq (fun{d e x y v u}=>ih (A:=A.in1) hu') hd he ha hb r1 r2)
      rw[BC,BC,←r1.length,←r2.length,←ha.length,←hb.length,wG]at q
      rw[rC]
      exact .of_refs hab q
    ·obtain⟨b,ys,rfl,hy,hb⟩:=is_lst.mp i2
     obtain⟨its2,r2,t2,_⟩:=I.list (.of hy)
     cases q2
     exact SeqAt.EqAt.tuple_list t1 t2.isList hA
   ·obtain⟨a,xs,rfl,hx,ha⟩:=is_lst.mp i1
    obtain⟨its,r1,t1,_⟩:=I.list (.of hx)
    cases q1
    rcases wd h2 with f2|⟨m,es,z,rfl|rfl,he⟩
    ·rw[yi f2 i2]at q2
     rw[(uX f2).2.2.2]
     exact(tJ f2 q2 t1.isList hA).1.2
    ·obtain⟨b,ys,rfl,hy,hb⟩:=is_tup.mp i2
     obtain⟨its2,r2,t2,_⟩:=I.tuple (.of hy)
     cases q2
     exact SeqAt.EqAt.list_tuple t1.isList t2 hA
    ·cases z
     have i2':=i2
     obtain⟨b,ys,rfl,hy,hb⟩:=is_lst.mp i2
     obtain⟨its2,r2,t2,_⟩:=I.list (.of hy)
     cases q2
     by_cases hab:a=b
     ·subst hab
      rw[cv _ h1 h2 i1 i2']
      exact SeqAt.EqAt.same _
     ·rw[oq]
      have l1:=ha.length.trans r1.length
      have l2:=hb.length.trans r2.length
      by_cases hl:ds.length=es.length
      ·have q:=SeqAt.RcAt.lists t1.isList t2.isList (by rw[BC,BC];omega) hA (rq (fun{d e x y v u}=>ih (A:=A.in1) hu') hd he ha hb r1 r2)
       rw[BC,←l1,iZ hl]at q
       exact .of_refs hab q
      ·have q:=SeqAt.RcAt.lists_lengths t1.isList t2.isList (by rw[BC,BC,bne_iff_ne];omega) hA
       rw[lp hl]
       exact .of_refs hab q
theorem Ww(I:Inv X f' σ H s){n:Nat}{A:Around}{d e:Dt}{x y:V}{v u:Value}(hu:A.units+(n+1)<cLine)(h1:okE (n+1) d=true)(h2:okE (n+1) e=true)(i1:Is X.K H d x)(i2:Is X.K H e y)(q1:RelV x v)(q2:RelV y u):
  SeqAt.RcAt A s v u (eqD d e)∧SeqAt.RcNeAt A s v u (!eqD d e):=by
 have hA:A.units<cLine:=by omega
 have hu':A.in1.units+n<cLine:=by show A.units+1+n<cLine;omega
 have ih:=fun{d e:Dt}{x y:V}{v u:Value}=>Mz I n (A:=A.in1) (d:=d) (e:=e) (x:=x) (y:=y) (v:=v) (u:=u) hu'
 rcases wd h1 with f1|⟨m,ds,z,hk,hd⟩
 ·rw[yi f1 i1]at q1
  rcases wd h2 with f2|⟨m,es,z,rfl|rfl,he⟩
  ·rw[yi f2 i2]at q2
   exact XQ f1 f2 q1 q2
  ·obtain⟨b,ys,rfl,hy,hb⟩:=is_tup.mp i2
   obtain⟨its2,r2,t2,_⟩:=I.tuple (.of hy)
   cases q2
   rw[(uX f1).1]
   exact(tI f1 q1 t2 hA).2.1
  ·obtain⟨b,ys,rfl,hy,hb⟩:=is_lst.mp i2
   obtain⟨its2,r2,t2,_⟩:=I.list (.of hy)
   cases q2
   rw[(uX f1).2.2.1]
   exact(tJ f1 q1 t2.isList hA).2.1
 ·cases z
  rcases hk with rfl|rfl
  ·obtain⟨a,xs,rfl,hx,ha⟩:=is_tup.mp i1
   obtain⟨its,r1,t1,_⟩:=I.tuple (.of hx)
   cases q1
   rcases wd h2 with f2|⟨m,es,z,rfl|rfl,he⟩
   ·rw[yi f2 i2]at q2
    rw[(uX f2).2.1]
    exact(tI f2 q2 t1 hA).2.2
   ·cases z
    obtain⟨b,ys,rfl,hy,hb⟩:=is_tup.mp i2
    obtain⟨its2,r2,t2,_⟩:=I.tuple (.of hy)
    cases q2
    have it:=rq (A:=A.in1) ih hd he ha hb r1 r2
    have q:=SeqAt.RcAt.tuples t1 t2 hA it
    have q':=SeqAt.RcNeAt.tuples t1 t2 hA it
    rw[BC,BC,←r1.length,←r2.length,←ha.length,←hb.length,wG]at q q'
    rw[rC]
    exact⟨q,q'⟩
   ·obtain⟨b,ys,rfl,hy,hb⟩:=is_lst.mp i2
    obtain⟨its2,r2,t2,_⟩:=I.list (.of hy)
    cases q2
    exact⟨SeqAt.RcAt.tuple_list t1 t2.isList hA,SeqAt.RcNeAt.tuple_list t1 t2.isList hA⟩
  ·obtain⟨a,xs,rfl,hx,ha⟩:=is_lst.mp i1
   obtain⟨its,r1,t1,_⟩:=I.list (.of hx)
   cases q1
   rcases wd h2 with f2|⟨m,es,z,rfl|rfl,he⟩
   ·rw[yi f2 i2]at q2
    rw[(uX f2).2.2.2]
    exact(tJ f2 q2 t1.isList hA).2.2
   ·obtain⟨b,ys,rfl,hy,hb⟩:=is_tup.mp i2
    obtain⟨its2,r2,t2,_⟩:=I.tuple (.of hy)
    cases q2
    exact⟨SeqAt.RcAt.list_tuple t1.isList t2 hA,SeqAt.RcNeAt.list_tuple t1.isList t2 hA⟩
   ·cases z
    obtain⟨b,ys,rfl,hy,hb⟩:=is_lst.mp i2
    obtain⟨its2,r2,t2,_⟩:=I.list (.of hy)
    cases q2
    rw[oq]
    have l1:=ha.length.trans r1.length
    have l2:=hb.length.trans r2.length
    by_cases hl:ds.length=es.length
    ·have it:=rq (A:=A.in1) ih hd he ha hb r1 r2
     have q:=SeqAt.RcAt.lists t1.isList t2.isList (by rw[BC,BC];omega) hA it
     have q':=SeqAt.RcNeAt.lists t1.isList t2.isList (by rw[BC,BC];omega) hA it
     rw[BC,←l1,iZ hl]at q q'
     exact⟨q,q'⟩
    ·have q:=SeqAt.RcAt.lists_lengths t1.isList t2.isList (by rw[BC,BC,bne_iff_ne];omega) hA
     have q':=SeqAt.RcNeAt.lists_lengths t1.isList t2.isList (by rw[BC,BC,bne_iff_ne];omega) hA
     rw[lp hl]
     exact⟨q,q'⟩
def gEq:Dt→Dt→(Dt→Prop)→Prop:=fun d e Q=>okE 40 d=true∧okE 40 e=true∧Q (.bl (eqD d e))
def gNe:Dt→Dt→(Dt→Prop)→Prop:=fun d e Q=>okE 40 d=true∧okE 40 e=true∧Q (.bl (!eqD d e))
def wC{k:Nat}(hr:Room k X.A):DOp X (compareOp .Eq) gEq:=by
 refine⟨fun x y H Q=>∃d e,Is X.K H d x∧Is X.K H e y∧okE 40 d=true∧okE 40 e=true∧Q (.bl (eqD d e)) H,fun f' s σ H x y v u Q I rx ry h=>?_,fun H x y d e Q i1 i2 q R k=>⟨d,e,Is.mono0 H.sub i1,Is.mono0 H.sub i2,q.1,q.2.1,k _ _ H (Le.refl H) (is_bl.mpr rfl) q.2.2⟩⟩
 obtain⟨d,e,i1,i2,h1,h2,q⟩:=h
 have hu:=hr.units
 exact(Ww (n:=39) I (A:=X.A) (by omega) h1 h2 i1 i2 rx ry).1 _ _ _ _ ⟨.bl _,H,I,rfl,q⟩
def kF{k:Nat}(hr:Room k X.A):DOp X (compareOp .NotEq) gNe:=by
 refine⟨fun x y H Q=>∃d e,Is X.K H d x∧Is X.K H e y∧okE 40 d=true∧okE 40 e=true∧Q (.bl (!eqD d e)) H,fun f' s σ H x y v u Q I rx ry h=>?_,fun H x y d e Q i1 i2 q R k=>⟨d,e,Is.mono0 H.sub i1,Is.mono0 H.sub i2,q.1,q.2.1,k _ _ H (Le.refl H) (is_bl.mpr rfl) q.2.2⟩⟩
 obtain⟨d,e,i1,i2,h1,h2,q⟩:=h
 have hu:=hr.units
 exact(Ww (n:=39) I (A:=X.A) (by omega) h1 h2 i1 i2 rx ry).2 _ _ _ _ ⟨.bl _,H,I,rfl,q⟩
end
variable{Z:Hp}
section
variable{X:Cx}{f':am}{σ:St}{H:Hp}{s:Shared}{h':Heap}
def Vs{ch:List Addr}(hn:∀b∈ch,tS X f' H b):∀b∈ch,(b∈X.ex∨X.s₀.heap.objs.size≤b)∧b≠X.env.locals∧(∀x c,X.env.cells.lookup x=some c→c≠b)∧∀p∈X.pn++f',p.1≠b:=fun b hb=>by
 obtain⟨_,h2,_,h4,h5,h6⟩:=hn b hb
 exact⟨h4,h2,h5,h6⟩
def nq{ch:List Addr}{t':Nat}(I:Inv X f' σ H s)(hn:∀b∈ch,tS X f' H b)(k:∀b o,b∉ch→s.heap.get? b=some o→h'.get? b=some o):Inv X f' σ H { s with heap:=h',toks:=t' }:=by
 have nit:∀b u,H b=some u→b∉ch:=fun b u e z=>by rw[(hn b z).1]at e;cases e
 refine I.step (g':=s.gens) (d':=s.drawn) (ch:=ch) (Vs hn) (fun b o _ _ hc e _=>k b o hc e) (fun b o _ _ hc e _=>⟨o.slots,k b o hc e⟩) (fun _ _ _ _ n=>n)
  (fun b o hc e=>⟨o,k b o hc e⟩) (fun _ _ e=>e) (fun _ _ _ e=>e) (fun b ps e=>⟨#[],by rw[e];simp⟩) (fun m hm=>?_) (fun b u e=>?_) I.bare
 ·obtain⟨o,es,ep,ho,r⟩:=hm
  exact⟨o,es,ep,k _ o (fun z=>(hn _ z).2.1 rfl) ho,r⟩
 ·refine(I.hok b u e).stay (fun c v hc q=>k c v ?_ q) (fun _ q=>q) fun _ _ q=>q
  rcases hc with z|z
  ·rw[z];exact nit b u e
  ·exact nit c _ z
theorem q9{ch:List Addr}{t':Nat}{T:Addr}{xs:List V}(I:Inv X f' σ H s)(hn:∀b∈ch,tS X f' H b)(k:∀b o,b∉ch→s.heap.get? b=some o→h'.get? b=some o)(hT:s.heap.objs.size≤T)
  (new:ObjOk X.prog X.w (upd H T (.tup xs)) h' T (.tup xs)):Inv X f' σ (upd H T (.tup xs)) { s with heap:=h',toks:=t' }:=by
 have nit:∀b u,H b=some u→b∉ch:=fun b u e z=>by rw[(hn b z).1]at e;cases e
 have fT:H T=none:=I.hok.fresh hT
 have old:∀b o,s.heap.get? b=some o→b≠T:=fun b o e=>BY (BO (Heap.lt_size e) hT)
 have up:∀b u,H b=some u→upd H T (.tup xs) b=some u:=fun b u e=>(zC (yr e fT)).trans e
 refine I.step (g':=s.gens) (d':=s.drawn) (ch:=ch) (Vs hn) (fun b o _ _ hc e _=>k b o hc e) (fun b o _ _ hc e _=>⟨o.slots,k b o hc e⟩) (fun b o _ e n=>(zC (old b o e)).trans n)
  (fun b o hc e=>⟨o,k b o hc e⟩) (fun b xs e=>up b _ e) (fun b o u e=>up b _ e) (fun b ps e=>⟨#[],by rw[up b _ e];simp⟩) (fun m hm=>?_) (fun b u e=>?_) I.bare
 ·obtain⟨o,es,ep,ho,r⟩:=hm
  exact⟨o,es,ep,k _ o (fun z=>(hn _ z).2.1 rfl) ho,r⟩
 ·by_cases hb:b=T
  ·subst hb
   rw[zB]at e
   cases e
   exact new
  ·rw[zC hb]at e
   refine(I.hok b u e).stay (fun c v hc q=>k c v ?_ q) (fun c q=>up c _ q) fun c ys q=>up c _ q
   rcases hc with z|z
   ·rw[z];exact nit b u e
   ·exact nit c _ z
end
def Itz(K:Bq)(l1 l2:Addr):It:=
 ⟨fun i H=>∃xs ys x y,SqL K H l1 xs∧SqL K H l2 ys∧xs[i]? = some x∧ys[i]? = some y,
  fun i H v H'=>∃T x y,v=.ref T∧H T=none∧H'=upd H T (.tup [x,y])∧(∀xs,SqL K H l1 xs→xs[i]? = some x)∧∀ys,SqL K H l2 ys→ys[i]? = some y,
  fun i H=>∃xs ys,SqL K H l1 xs∧SqL K H l2 ys∧(xs.length≤i∨ys.length≤i)⟩
def Tu(l1 l2 z TI TO i1 i2:Addr)(i:Nat)(h:Heap):Prop:=IsZip h z TI TO .none∧IsPair h TI (.ref i1) (.ref i2)∧(∃a b,IsPair h TO a b)∧h.IsListIter i1 l1 i∧h.IsListIter i2 l2 i
theorem av{P:Program}{w:World}{K:Bq}{elts:List Expr}{x1}{tpos:Pos}(l1 l2 z TI TO i1 i2:Addr)(D:ZipApart z TI TO i1 i2 l1 l2):
  mz P w K (.Tuple elts x1 tpos) (Itz K l1 l2) [z,TI,TO,i1,i2] z (Tu l1 l2 z TI TO i1 i2) where
 mem:=by simp
 obj:=fun i h ⟨h1,h2,⟨a,b,h3⟩,⟨o4,e4,c4,d4⟩,⟨o5,e5,c5,d5⟩⟩ b hb=>by
  simp only[List.mem_cons,List.not_mem_nil,or_false]at hb
  rcases hb with rfl|rfl|rfl|rfl|rfl
  ·exact⟨_,h1,fun v z=>by cases z⟩
  ·exact⟨_,h2,fun v z=>by cases z⟩
  ·exact⟨_,h3,fun v z=>by cases z⟩
  ·exact⟨_,e4,fun v z=>by rw[d4]at z;cases z⟩
  ·exact⟨_,e5,fun v z=>by rw[d5]at z;cases z⟩
 keep:=fun i h h' ⟨h1,h2,⟨a,b,h3⟩,⟨o4,e4,c4⟩,⟨o5,e5,c5⟩⟩ k=>
  ⟨k z (by simp) _ h1,k TI (by simp) _ h2,⟨a,b,k TO (by simp) _ h3⟩,⟨o4,k i1 (by simp) _ e4,c4⟩,⟨o5,k i2 (by simp) _ e5,c5⟩⟩
 item:=fun X hP hw hK hc i f' s σ H E I hfp ⟨h1,h2,⟨a,b,h3⟩,h4,h5⟩ ⟨xs,ys,x,y,q1,q2,e1,e2⟩=>by
  subst hP hw hK
  obtain⟨its1,r1,p1,z1⟩:=I.list q1
  obtain⟨its2,r2,p2,z2⟩:=I.list q2
  obtain⟨u,eu,ru⟩:=r1.get e1
  obtain⟨v,ev,rv⟩:=r2.get e2
  refine wpAny_pyNext_zip_item D h1 h2 h3 h4 h5 p1.isList p2.isList (x:=u) (y:=v) (by simpa using eu) (by simpa using ev) fun h' a1 a2 a3 a4 a5 a6 a7=>?_
  refine⟨_,rfl,wpAny_letOwnedTupleGo_zip a1 fun h'' b1 b2=>?_⟩
  have ne:∀b∈[z,TI,TO,i1,i2],b≠s.heap.objs.size:=fun b hb=>by
   simp only[List.mem_cons,List.not_mem_nil,or_false]at hb
   obtain⟨o4,e4,_⟩:=id h4
   obtain⟨o5,e5,_⟩:=id h5
   rcases hb with rfl|rfl|rfl|rfl|rfl
   ·exact BY (Heap.lt_size h1)
   ·exact BY (Heap.lt_size h2)
   ·exact BY (Heap.lt_size h3)
   ·exact BY (Heap.lt_size e4)
   ·exact BY (Heap.lt_size e5)
  have zn:z≠s.heap.objs.size:=ne z (by simp)
  have aT:IsPair h'' s.heap.objs.size u v:=b2.extBut _ _ (Ne.symm zn) a5
  have I':Inv X f' σ (upd H s.heap.objs.size (.tup [x,y])) { s with heap:=h'' }:=q9 (ch:=[z,TI,TO,i1,i2]) (t':=s.toks) I hfp (fun b o hb e=>by
    simp only[List.mem_cons,List.not_mem_nil,or_false,not_or]at hb
    exact b2.extBut b o hb.1 (a7 b o hb.1 hb.2.2.1 hb.2.2.2.1 hb.2.2.2.2 e)) (By _) ⟨by show 2≤sizeLine;rw[sizeLine_eq];decide,[u,v],.cons ru (.cons rv .nil),_,aT,rfl,_,rfl⟩
  refine⟨.ref s.heap.objs.size,_,I',rfl,⟨_,x,y,rfl,I.fresh,rfl,fun xs' q=>?_,fun ys' q=>?_⟩,⟨b1,b2.extBut _ _ D.TIz (a7 TI _ D.TIz D.TITO D.TIi1 D.TIi2 h2),⟨u,v,b2.extBut _ _ D.TOz a2⟩,a3.extBut b2.extBut D.i1z,a4.extBut b2.extBut D.i2z⟩,fun b hb=>?_⟩
  ·rw[I.list_inj q q1];exact e1
  ·rw[I.list_inj q q2];exact e2
  ·exact(zC (ne b hb)).trans (hfp b hb).1
 done:=fun X hP hw hK hc i f' s σ H E I hfp ⟨h1,h2,⟨a,b,h3⟩,h4,h5⟩ ⟨xs,ys,q1,q2,e⟩=>by
  subst hP hw hK
  obtain⟨its1,r1,p1,z1⟩:=I.list q1
  obtain⟨its2,r2,p2,z2⟩:=I.list q2
  refine wpAny_pyNext_zip_end (I.ok.hd hc) D h1 h2 h3 h4 h5 p1.isList p2.isList (e.imp (fun e=>?_) fun e=>?_) fun h' hk=>⟨rfl,?_⟩
  ·have:=r1.length
   simp;omega
  ·have:=r2.length
   simp;omega
  ·exact nq (ch:=[z,TI,TO,i1,i2]) (t':=s.toks) I hfp fun b o hb e=>by
    simp only[List.mem_cons,List.not_mem_nil,or_false,not_or]at hb
    exact hk b o hb.1 hb.2.2.1 hb.2.2.2.1 hb.2.2.2.2 e
 self:=fun A i s Q E ⟨h1,_⟩ q=>wpAny_pyIter_zip h1 q
def Hk(K:Bq)(ta:TA):TI:=fun σ H R=>ta σ H fun vs H1=>∃l1 l2 xs ys,vs=[.ref l1,.ref l2]∧SqL K H1 l1 xs∧SqL K H1 l2 ys∧R (Itz K l1 l2) H1
def c9{n l1 l2:Nat}(h1:l1<n)(h2:l2<n):ZipApart (n+4) (n+2) (n+3) n (n+1) l1 l2:=by
 constructor<;>(show(_:Nat)≠_;omega)
def Yt:bootBuiltins "zip"=some (.type "zip"):=by decide +kernel
section
variable{X:Cx}
def Ug{a b:Expr}{ta:TA}{p pos:Pos}{elts:List Expr}{x1}{tpos:Pos}(hg:Gl X "zip")(hm:X.mg "zip"=none)(ha:PA X [a,b] ta)(hs:starEach [a,b] X.env=(false,eval a X.env)::starEach [b] X.env:=by rfl)
  (hpl:K' X.env pos [b]:=by rfl):PI X (.Tuple elts x1 tpos) (.Call (.Name "zip" p) [a,b] [] pos) (Hk X.K ta):=by
 intro f' s σ H R I h
 refine Call_ (vc I hg hm Yt (PyProof.Rows.callWith_type1 (thn (ha pos f' s σ H _ I h) fun us s1 zz=>?_) hs hpl))
 obtain⟨vs,H1,I1,r1,q1⟩:=zz
 obtain⟨l1,l2,xs,ys,e,q1,q2,q⟩:=q1
 subst e
 obtain⟨u,v,rfl,ru,rv⟩:=r1.two
 cases ru
 cases rv
 obtain⟨its1,r1,p1,z1⟩:=I1.list q1
 obtain⟨its2,r2,p2,z2⟩:=I1.list q2
 have lt1:l1<s1.heap.objs.size:=by obtain⟨o,e,_⟩:=id p1.isList;exact Heap.lt_size e
 have lt2:l2<s1.heap.objs.size:=by obtain⟨o,e,_⟩:=id p2.isList;exact Heap.lt_size e
 refine call_zip_2 p1.isList p2.isList fun h' b1 b2 b3 b4 b5 b6 b7=>?_
 have I2:Inv X f' σ H1 { s1 with heap:=h' }:=I1.kept (t':=s1.toks) b7
 refine wpAny_pyIter_zip b1 ⟨s1.heap.objs.size+4,[s1.heap.objs.size+4,s1.heap.objs.size+2,s1.heap.objs.size+3,s1.heap.objs.size,s1.heap.objs.size+1],_,_,H1,rfl,I2,
  av l1 l2 (s1.heap.objs.size+4) (s1.heap.objs.size+2) (s1.heap.objs.size+3) s1.heap.objs.size (s1.heap.objs.size+1) (c9 lt1 lt2),
  ⟨b1,b2,⟨_,_,b3⟩,b4,b5⟩,fun b hb=>?_,q⟩
 have hb':s1.heap.objs.size≤b:=by
  simp only[List.mem_cons,List.not_mem_nil,or_false]at hb
  rcases hb with rfl|rfl|rfl|rfl|rfl
  ·exact C1 _ _
  ·exact C1 _ _
  ·exact C1 _ _
  ·exact By _
  ·exact C1 _ _
 have f:=I1.fpOk hb' (I1.hok.fresh hb')
 exact f
theorem XN{K:Bq}{l1 l2:Addr}{xs ys:List V}{g:TG}{tb:TS}{D:tT}{σ:St}{H:Hp}(Pv:Nat→St→Hp→Prop)(h0:Pv 0 σ H)(hl:∀i σ H,Pv i σ H→SqL K H l1 xs∧SqL K H l2 ys)
  (hs:∀i x y T σ H,xs[i]? = some x→ys[i]? = some y→H T=none→Pv i σ H→g (.ref T) σ (upd H T (.tup [x,y])) fun σ2 H2=>tb { D with nx:=Pv (i+1),ct:=Pv (i+1),bk:=D.nx } σ2 H2) (hd:∀σ H,Pv (min xs.length ys.length) σ H→D.nx σ H):
  ∃W:Nat→Nat→St→Hp→Prop,(∃m,W 0 m σ H)∧∀i m σ H,W i m σ H→
   ((Itz K l1 l2).stop i H∧D.nx σ H)∨((Itz K l1 l2).go i H∧∃N:St→Hp→Prop,(∀σ' H',N σ' H'→∃m',m'<m∧W (i+1) m' σ' H')∧∀x H',(Itz K l1 l2).yld i H x H'→g x σ H' fun σ2 H2=>tb { D with nx:=N,ct:=N,bk:=D.nx } σ2 H2):=by
 refine⟨fun i m σ H=>m=min xs.length ys.length-i∧i≤min xs.length ys.length∧Pv i σ H,⟨_,rfl,B4 _,h0⟩,?_⟩
 rintro i m σ H ⟨rfl,hi,p⟩
 obtain⟨q1,q2⟩:=hl i σ H p
 by_cases hlt:i<min xs.length ys.length
 ·have g1:xs[i]? = some xs[i]:=Bu (by omega)
  have g2:ys[i]? = some ys[i]:=Bu (by omega)
  refine .inr ⟨⟨xs,ys,xs[i],ys[i],q1,q2,g1,g2⟩,Pv (i+1),fun σ' H' p'=>⟨min xs.length ys.length-(i+1),by omega,rfl,hlt,p'⟩,fun v H' y=>?_⟩
  obtain⟨T,x,y,rfl,hT,rfl,e1,e2⟩:=y
  exact hs i x y T σ H (e1 xs q1) (e2 ys q2) hT p
 ·have e:i=min xs.length ys.length:=by omega
  subst e
  exact .inl ⟨⟨xs,ys,q1,q2,by omega⟩,hd σ H p⟩
end
section
variable{X:Cx}{fr:Fr}{ta:DTA}{tb:DTS}{pos:Pos}
def sN{K:Bq}{W1:Vw}{d:Dt}{v:V}{ds:List Dt}(i1:Is K W1.g d v)(el:xc d=some ds):∃a xs,v=.ref a∧(∀W2:Vw,Same W1.g W2.g→SqL K W2.h a xs)∧AllIs K W1.g ds xs:=by
 cases d with
 | lst es=>
  obtain rfl:es=ds:=Option.some.inj el
  obtain⟨a,xs,rfl,h1,h2⟩:=is_lst.mp i1
  exact⟨a,xs,rfl,fun W2 s2=>.of (W2.sub _ _ (s2 _ _ h1)),h2⟩
 | scr ns=>
  obtain rfl:ns.map Dt.int=ds:=Option.some.inj el
  obtain⟨a,rfl,h1⟩:=is_scr.mp i1
  exact⟨a,_,rfl,fun W2 s2=>W2.sub.seq (s2.seq h1),AllIs.ints⟩
 | _=>cases el
def MY(i j:Nat)(ta:DTA)(tb:DTS):DTS:=fun D ρ=>ta ρ fun ds=>∃(d e:Dt)(xs ys:List Dt)(Pv:Nat→DS→Prop),ds=[d,e]∧xc d=some xs∧xc e=some ys∧Pv 0 ρ∧
 (∀n x y ρ',xs[n]? = some x→ys[n]? = some y→Pv n ρ'→tb { D with nx:=Pv (n+1),ct:=Pv (n+1),bk:=D.nx } ((ρ'.set i (.some x)).set j (.some y)))∧∀ρ',Pv (min xs.length ys.length) ρ'→D.nx ρ'
theorem eZ{i j:Nat}{x y:Str}{a b:Expr}{body:List Stmt}{px py pt p0 pos1:Pos}{kt:Nat}(hc:X.calm=true)(hN:X.N.Nodup)(hi:X.N[i]? = some x)(hj:X.N[j]? = some y)(hx:Loc X.env.scope x)(hy:Loc X.env.scope y)(hp:PassesOwn (model X.prog X.w) X.A X.env X.xe)
  (hg:Gl X "zip") (hm:X.mg "zip"=none) (ha:DA X [a,b] ta) (hb:DSs X fr body tb) (hs:∀z,foldedSetIterable (.Call (.Name "zip" p0) [a,b] [] pos1) X.env z=pure z:=by intro _;rfl)
  (hst:starEach [a,b] X.env=(false,eval a X.env)::starEach [b] X.env:=by rfl) (hpl:K' X.env pos1 [b]:=by rfl)
  (hf:X.fn x=true∨X.env.scope.names.lookup x=some .local:=by walk_at "f") (hf2:X.fn y=true∨X.env.scope.names.lookup y=some .local:=by walk_at "f"):
  DSt X fr (.For (.Tuple [.Name x px,.Name y py] kt pt) (.Call (.Name "zip" p0) [a,b] [] pos1) body [] pos) (MY i j ta tb):=by
 obtain⟨tt,p,l⟩:=ha
 obtain⟨tbs,p2,l2⟩:=hb
 refine⟨_,vS hp hc (Ug hg hm p hst hpl) (fI hc (vj (yf hN hi hx hf) (vj (yf hN hj hy hf2) kg))) p2 hs,fun W0 G ρ σ W D D' at_ s h=>l ρ σ W _ at_.rl h _ fun ds vs W1 s1 i1 zz=>?_⟩
 obtain⟨d,e,xs,ys,Pv,ed,el1,el2,h0,ht,hd⟩:=zz
 subst ed
 obtain⟨v1,v2,rfl,j1,j2⟩:=i1.two
 have hg1:Same G W1.g:=at_.gs.trans s1.g
 obtain⟨l1,us,rfl,hq1,ha1⟩:=sN j1 el1
 obtain⟨l2',ws,rfl,hq2,ha2⟩:=sN j2 el2
 refine⟨l1,l2',us,ws,rfl,hq1 W1 (Same.refl _),hq2 W1 (Same.refl _),XN (K:=X.K) (xs:=us) (ys:=ws) (fun n=>InL X.K (Zx X) W0 W1 (Pv n)) ⟨ρ,W1,rfl,(at_.step s1).now,h0⟩ (fun n σ' H' ⟨_,W2,e2,a2,_⟩=>e2 ▸ ⟨hq1 W2 a2.gs,hq2 W2 a2.gs⟩) ?_ ?_⟩
 ·rintro n u w T σ' _ hu hw hT ⟨ρ',W2,rfl,a2,hp2⟩
  obtain⟨x',ex,ix⟩:=ha1.get' hu
  obtain⟨y',ey,iy⟩:=ha2.get' hw
  have s3:=sO hT (.tup [u,w])
  have a3:=a2.step s3
  refine⟨T,_,rfl,.of zB,rfl,u,[w],rfl,w,[],rfl,rfl,?_⟩
  exact l2 W0 W1.g _ _ (W2.new T (.tup [u,w])) { D with nx:=Pv (n+1),ct:=Pv (n+1),bk:=D.nx } _ ((a3.set i (Is.mono0 a3.gs ix)).set j (Is.mono0 a3.gs iy)) (yW s hg1) (ht n x' y' ρ' ex ey hp2)
 ·rintro σ' _ ⟨ρ',W2,rfl,a2,hp2⟩
  exact s.nx ρ' σ' W2 (a2.weak hg1) (hd ρ' (by rw[ha1.length,ha2.length];exact hp2))
def Yk(tl te:DTE):DTE:=fun ρ Q=>tl ρ fun d=>∃(ds:List Dt)(Pv:Nat→List Dt→Prop),xc d=some ds∧ds.length≤100000∧Pv 0 []∧
 (∀i e es,ds[i]? = some e→Pv i es→te [.some e] fun y=>Pv (i+1) (es++[y]))∧∀es,Pv ds.length es→Q (.lst es)
def ZI(K:Bq)(t:DTE):TE:=fun σ H R=>∃(F:Hp)(ρ:DS)(W:Vw)(Q:Dt→Prop),W.h=H∧Rl K (fun _=>none) F W ρ σ∧t ρ Q∧∀d v W',Le W W'→Is K W'.g d v→Q d→R v W'.h
def DE.up{e:Expr}{t:DTE}(h:DE X e t)(hz:X.stack.length=X.outer.length:=by rfl):PE X e (ZI X.K t):=by
 obtain⟨te,p,l⟩:=h
 intro f' s σ H R I q
 obtain⟨F,ρ,W,Q,rfl,r,h,k⟩:=q
 have r':Rl X.K (Zx X) F W ρ σ:=by unfold Zx;rw[if_pos (Or.inl hz)];exact r
 exact p f' s σ W.h R I (l ρ σ W Q r' h R k)
def kI{K:Bq}{t:DTE}:LiE K (fun _=>none) (ZI K t) t:=fun ρ σ H Q r h R k=>⟨_,ρ,H,Q,rfl,r,h,k⟩
def LiF.le{K:Bq}{te:TE}{t:DTE}(l:LiF K Z te t):LiE K Z te t:=fun ρ σ H Q r h R k=>l ρ σ H Q r h R fun es q xs H' s h0 h1 h2 i z=>k (.lst es) (.ref q) (H'.frz q _ h1) (qH s h0 h1 h2) (is_lst.mpr ⟨q,xs,rfl,zB,AllIs.mono0 (ya h2 _) i⟩) z
end
end OD
namespace OD
open PySem PySem.Spec PyProof.Rows L2
def Ite(K:Bq)(l:Addr):It:=
 ⟨fun i H=>∃xs x,SqL K H l xs∧xs[i]? = some x,
  fun i H v H'=>∃T x,v=.ref T∧H T=none∧H'=upd H T (.tup [.int i,x])∧∀xs,SqL K H l xs→xs[i]? = some x,
  fun i H=>∃xs,SqL K H l xs∧xs.length≤i⟩
def VV(l e it:Addr)(i:Nat)(h:Heap):Prop:=(∃old,IsEnum h e it (i:Int) old)∧h.IsListIter it l i
theorem ba{P:Program}{w:World}{K:Bq}{elts:List Expr}{x1}{tpos:Pos}(l e it:Addr)(hne:e≠it):mz P w K (.Tuple elts x1 tpos) (Ite K l) [e,it] e (VV l e it) where
 mem:=by simp
 obj:=fun i h ⟨⟨old,h1⟩,⟨o4,e4,c4,d4⟩⟩ b hb=>by
  simp only[List.mem_cons,List.not_mem_nil,or_false]at hb
  rcases hb with rfl|rfl
  ·exact⟨_,h1,fun v z=>by cases z⟩
  ·exact⟨_,e4,fun v z=>by rw[d4]at z;cases z⟩
 keep:=fun i h h' ⟨⟨old,h1⟩,⟨o4,e4,c4⟩⟩ k=>⟨⟨old,k e (by simp) _ h1⟩,⟨o4,k it (by simp) _ e4,c4⟩⟩
 item:=fun X hP hw hK hc i f' s σ H E I hfp ⟨⟨old,h1⟩,h4⟩ ⟨xs,x,q1,e1⟩=>by
  subst hP hw hK
  obtain⟨its1,r1,p1,z1⟩:=I.list q1
  obtain⟨u,eu,ru⟩:=r1.get e1
  refine wpAny_pyNext_enum_item h1 h4 p1.isList (x:=u) (by simpa using eu) hne fun h' a1 a2 a3 a4 a5=>?_
  refine⟨_,rfl,wpAny_letOwnedTupleGo_enum a1 fun h'' b1 b2=>?_⟩
  have ne:∀b∈[e,it],b≠s.heap.objs.size:=fun b hb=>by
   simp only[List.mem_cons,List.not_mem_nil,or_false]at hb
   obtain⟨o4,e4,_⟩:=id h4
   rcases hb with rfl|rfl
   ·exact BY (Heap.lt_size h1)
   ·exact BY (Heap.lt_size e4)
  have en:e≠s.heap.objs.size:=ne e (by simp)
  have aT:=b2.extBut _ _ (Ne.symm en) a3
  have I':Inv X f' σ (upd H s.heap.objs.size (.tup [.int i,x])) { s with heap:=h'',toks:=s.toks+1 }:=q9 (ch:=[e,it]) (t':=s.toks+1) I hfp (fun b o hb q=>by
    simp only[List.mem_cons,List.not_mem_nil,or_false,not_or]at hb
    exact b2.extBut b o hb.1 (a5 b o hb.1 hb.2 q)) (By _) ⟨by show 2≤sizeLine;rw[sizeLine_eq];decide,[.int i s.toks,u],.cons ⟨_,rfl⟩ (.cons ru .nil),_,aT,rfl,_,rfl⟩
  refine⟨.ref s.heap.objs.size,_,I',rfl,⟨_,x,rfl,I.fresh,rfl,fun xs' q=>?_⟩,⟨⟨u,?_⟩,a2.extBut b2.extBut (Ne.symm hne)⟩,fun b hb=>?_⟩
  ·rw[I.list_inj q q1];exact e1
  ·have:((i+1:Nat):Int)=(i:Int)+1:=by omega
   show IsEnum h'' e it ((i+1:Nat):Int) u
   rw[this]
   exact b1
  ·exact(zC (ne b hb)).trans (hfp b hb).1
 done:=fun X hP hw hK hc i f' s σ H E I hfp ⟨⟨old,h1⟩,h4⟩ ⟨xs,q1,e1⟩=>by
  subst hP hw hK
  obtain⟨its1,r1,p1,z1⟩:=I.list q1
  refine wpAny_pyNext_enum_end (I.ok.hd hc) h1 h4 p1.isList ?_ fun h' hk=>⟨rfl,?_⟩
  ·have:=r1.length
   simp;omega
  ·exact nq (ch:=[e,it]) (t':=s.toks) I hfp fun b o hb q=>by
    simp only[List.mem_cons,List.not_mem_nil,or_false,not_or]at hb
    exact hk b o hb.2 q
 self:=fun A i s Q E ⟨⟨old,h1⟩,_⟩ q=>wpAny_pyIter_enum h1 q
def Ms(K:Bq)(ta:TA):TI:=fun σ H R=>ta σ H fun vs H1=>∃l xs,vs=[.ref l]∧SqL K H1 l xs∧R (Ite K l) H1
section
variable{X:Cx}
def ae:bootBuiltins "enumerate"=some (.type "enumerate"):=by decide +kernel
def Xj{a:Expr}{ta:TA}{p pos:Pos}{elts:List Expr}{x1}{tpos:Pos}(hg:Gl X "enumerate")(hm:X.mg "enumerate"=none)(ha:PA X [a] ta)(hs:starEach [a] X.env=(false,eval a X.env)::starEach [] X.env:=by rfl)
  (hpl:K' X.env pos []:=by rfl):PI X (.Tuple elts x1 tpos) (.Call (.Name "enumerate" p) [a] [] pos) (Ms X.K ta):=by
 intro f' s σ H R I h
 refine Call_ (vc I hg hm ae (PyProof.Rows.callWith_type1 (thn (ha pos f' s σ H _ I h) fun us s1 zz=>?_) hs hpl))
 obtain⟨vs,H1,I1,r1,q1⟩:=zz
 obtain⟨l,xs,e,q1,q⟩:=q1
 subst e
 obtain⟨u,rfl,ru⟩:=r1.one
 cases ru
 obtain⟨its1,r1,p1,z1⟩:=I1.list q1
 refine call_enumerate_list p1.isList fun h' b1 b2 b3 b4=>?_
 have I2:Inv X f' σ H1 { s1 with heap:=h' }:=I1.kept (t':=s1.toks) b4
 refine wpAny_pyIter_enum b1 ⟨s1.heap.objs.size+1,[s1.heap.objs.size+1,s1.heap.objs.size],_,_,H1,rfl,I2,ba l (s1.heap.objs.size+1) s1.heap.objs.size (C0 _),⟨⟨_,b1⟩,b2⟩,fun b hb=>?_,q⟩
 have hb':s1.heap.objs.size≤b:=by
  simp only[List.mem_cons,List.not_mem_nil,or_false]at hb
  rcases hb with rfl|rfl
  ·exact C1 _ _
  ·exact By _
 have f:=I1.fpOk hb' (I1.hok.fresh hb')
 exact f
theorem ZS{K:Bq}{l:Addr}{xs:List V}{g:TG}{tb:TS}{D:tT}{σ:St}{H:Hp}(Pv:Nat→St→Hp→Prop)(h0:Pv 0 σ H)(hl:∀i σ H,Pv i σ H→SqL K H l xs)
  (hs:∀(i:Nat) x T σ H,xs[i]? = some x→H T=none→Pv i σ H→g (.ref T) σ (upd H T (.tup [.int i,x])) fun σ2 H2=>tb { D with nx:=Pv (i+1),ct:=Pv (i+1),bk:=D.nx } σ2 H2) (hd:∀σ H,Pv xs.length σ H→D.nx σ H):
  ∃W:Nat→Nat→St→Hp→Prop,(∃m,W 0 m σ H)∧∀i m σ H,W i m σ H→
   ((Ite K l).stop i H∧D.nx σ H)∨((Ite K l).go i H∧∃N:St→Hp→Prop,(∀σ' H',N σ' H'→∃m',m'<m∧W (i+1) m' σ' H')∧∀x H',(Ite K l).yld i H x H'→g x σ H' fun σ2 H2=>tb { D with nx:=N,ct:=N,bk:=D.nx } σ2 H2):=by
 refine⟨fun i m σ H=>m=xs.length-i∧i≤xs.length∧Pv i σ H,⟨_,rfl,B4 _,h0⟩,?_⟩
 rintro i m σ H ⟨rfl,hi,p⟩
 have q1:=hl i σ H p
 by_cases hlt:i<xs.length
 ·have g1:xs[i]? = some xs[i]:=Bu hlt
  refine .inr ⟨⟨xs,xs[i],q1,g1⟩,Pv (i+1),fun σ' H' p'=>⟨xs.length-(i+1),by omega,rfl,hlt,p'⟩,fun v H' y=>?_⟩
  obtain⟨T,x,rfl,hT,rfl,e1⟩:=y
  exact hs i x T σ H (e1 xs q1) hT p
 ·have e:i=xs.length:=by omega
  subst e
  exact .inl ⟨⟨xs,q1,By _⟩,hd σ H p⟩
end
section
variable{X:Cx}{fr:Fr}{ta:DTA}{tb:DTS}{pos p0 p1 p2:Pos}
def M6(i j:Nat)(ta:DTA)(tb:DTS):DTS:=fun D ρ=>ta ρ fun ds=>∃(d:Dt)(xs:List Dt)(Pv:Nat→DS→Prop),ds=[d]∧xc d=some xs∧Pv 0 ρ∧
 (∀(n:Nat) x ρ',xs[n]? = some x→Pv n ρ'→tb { D with nx:=Pv (n+1),ct:=Pv (n+1),bk:=D.nx } ((ρ'.set i (.some (.int n))).set j (.some x)))∧∀ρ',Pv xs.length ρ'→D.nx ρ'
theorem qQ{i j:Nat}{x y:Str}{a:Expr}{body:List Stmt}{px py pt p0 pos1:Pos}{kt:Nat}(hc:X.calm=true)(hN:X.N.Nodup)(hi:X.N[i]? = some x)(hj:X.N[j]? = some y)(hx:Loc X.env.scope x)(hy:Loc X.env.scope y)(hp:PassesOwn (model X.prog X.w) X.A X.env X.xe)
  (hg:Gl X "enumerate") (hm:X.mg "enumerate"=none) (ha:DA X [a] ta) (hb:DSs X fr body tb) (hs:∀z,foldedSetIterable (.Call (.Name "enumerate" p0) [a] [] pos1) X.env z=pure z:=by intro _;rfl)
  (hst:starEach [a] X.env=(false,eval a X.env)::starEach [] X.env:=by rfl) (hpl:K' X.env pos1 []:=by rfl)
  (hf:X.fn x=true∨X.env.scope.names.lookup x=some .local:=by walk_at "f") (hf2:X.fn y=true∨X.env.scope.names.lookup y=some .local:=by walk_at "f"):
  DSt X fr (.For (.Tuple [.Name x px,.Name y py] kt pt) (.Call (.Name "enumerate" p0) [a] [] pos1) body [] pos) (M6 i j ta tb):=by
 obtain⟨tt,p,l⟩:=ha
 obtain⟨tbs,p2,l2⟩:=hb
 refine⟨_,vS hp hc (Xj hg hm p hst hpl) (fI hc (vj (yf hN hi hx hf) (vj (yf hN hj hy hf2) kg))) p2 hs,fun W0 G ρ σ W D D' at_ s h=>l ρ σ W _ at_.rl h _ fun ds vs W1 s1 i1 zz=>?_⟩
 obtain⟨d,xs,Pv,ed,el1,h0,ht,hd⟩:=zz
 subst ed
 obtain⟨v1,rfl,j1⟩:=i1.one
 have hg1:Same G W1.g:=at_.gs.trans s1.g
 obtain⟨l1,us,rfl,hq1,ha1⟩:=sN j1 el1
 refine⟨l1,us,rfl,hq1 W1 (Same.refl _),ZS (K:=X.K) (xs:=us) (fun n=>InL X.K (Zx X) W0 W1 (Pv n)) ⟨ρ,W1,rfl,(at_.step s1).now,h0⟩ (fun n σ' H' ⟨_,W2,e2,a2,_⟩=>e2 ▸ hq1 W2 a2.gs) ?_ ?_⟩
 ·rintro n u T σ' _ hu hT ⟨ρ',W2,rfl,a2,hp2⟩
  obtain⟨x',ex,ix⟩:=ha1.get' hu
  have s3:=sO hT (.tup [.int n,u])
  have a3:=a2.step s3
  refine⟨T,_,rfl,.of zB,rfl,.int n,[u],rfl,u,[],rfl,rfl,?_⟩
  exact l2 W0 W1.g _ _ (W2.new T (.tup [.int n,u])) { D with nx:=Pv (n+1),ct:=Pv (n+1),bk:=D.nx } _ ((a3.set i (is_int.mpr rfl)).set j (Is.mono0 a3.gs ix)) (yW s hg1) (ht n x' ρ' ex hp2)
 ·rintro σ' _ ⟨ρ',W2,rfl,a2,hp2⟩
  exact s.nx ρ' σ' W2 (a2.weak hg1) (hd ρ' (by rw[ha1.length];exact hp2))
theorem i7{j:Nat}{x:Str}{a b:Expr}{body:List Stmt}{px p0 pos1:Pos}(hc:X.calm=true)(hN:X.N.Nodup)(hi:X.N[j]? = some x)(hx:Loc X.env.scope x)(hp:PassesOwn (model X.prog X.w) X.A X.env X.xe)
  (hg:Gl X "range") (hm:X.mg "range"=none) (h:DA X [a,b] ta) (hb:DSs X fr body tb) (hs:∀x,foldedSetIterable (.Call (.Name "range" p0) [a,b] [] pos1) X.env x=pure x:=by intro _;rfl)
  (hst:starEach [a,b] X.env=[(false,eval a X.env),(false,eval b X.env)]:=by rfl) (hst2:starEach [b] X.env=[(false,eval b X.env)]:=by rfl)
  (hf:X.fn x=true∨X.env.scope.names.lookup x=some .local:=by walk_at "f"):DSt X fr (.For (.Name x px) (.Call (.Name "range" p0) [a,b] [] pos1) body [] pos) (Tg j ta tb):=by
 obtain⟨tt,p,l⟩:=h
 obtain⟨tbs,p2,l2⟩:=hb
 refine⟨_,vS hp hc (bx hg hm p hst hst2) (yf hN hi hx hf) p2 hs,fun W0 G ρ σ W D D' at_ s h=>l ρ σ W _ at_.rl h _ fun ds vs W1 s1 i1 zz=>?_⟩
 obtain⟨m,n,Pv,ed,m1,m2,n1,n2,h0,ht,hd⟩:=zz
 subst ed
 obtain⟨v1,v2,rfl,j1,j2⟩:=i1.two
 have hg1:Same G W1.g:=at_.gs.trans s1.g
 refine⟨m,n,by rw[is_int.mp j1,is_int.mp j2],⟨m1,m2,n1,n2⟩,m_ (lo:=m) (n:=(n-m).toNat) (fun i=>InL X.K (Zx X) W0 W1 (Pv i)) ⟨ρ,W1,rfl,(at_.step s1).now,h0⟩ ?_ ?_⟩
 ·rintro i σ' _ hi ⟨ρ',W2,rfl,a2,hp2⟩
  exact l2 W0 W1.g _ _ W2 { D with nx:=Pv (i+1),ct:=Pv (i+1),bk:=D.nx } _ (a2.set j (is_int.mpr rfl)) (yW s hg1) (ht i ρ' hi hp2)
 ·rintro σ' _ ⟨ρ',W2,rfl,a2,hp2⟩
  exact s.nx ρ' σ' W2 (a2.weak hg1) (hd ρ' hp2)
def HE(ta:DTA):DTE:=fun ρ Q=>ta ρ fun ds=>∃i j,ds=[.int i,.int j]∧Q (.int (if j<i then j else i))
def Yg{a b:Expr}(hc:X.calm=true)(hg:Gl X "min")(hm:X.mg "min"=none)(ha:DA X [a,b] ta)(hs:starEach [a,b] X.env=(false,eval a X.env)::starEach [b] X.env:=by rfl)(hpl:K' X.env pos [b]:=by rfl):
  DE X (.Call (.Name "min" p0) [a,b] [] pos) (HE ta):=by
 obtain⟨te,p1,l1⟩:=ha
 refine⟨_,xo (aa hc) hg hm (by decide +kernel) p1 (by decide) (by decide) hs hpl,fun ρ σ H Q r h R k=>l1 ρ σ H _ r h _ fun ds vs H1 s1 i1 zz=>?_⟩
 obtain⟨i,j,ed,q⟩:=zz
 subst ed
 obtain⟨v1,v2,rfl,j1,j2⟩:=i1.two
 exact⟨i,j,by rw[is_int.mp j1,is_int.mp j2],k _ _ H1 s1 (is_int.mpr rfl) q⟩
structure pj(K:Bq)(C:Addr):Prop where
 cl:Cls K C
 ha:PySem.W.findIn K (.ref C) "__class__"=some (some (.builtin "object.__class__"))
 hn:PySem.W.specialIn K (.builtin "object.__class__") "__get__"=some (some (.builtin "getset_descriptor.__get__"))
 htk:PySem.W.takesIn K (.builtin "object.__class__")=some true
 hm:PySem.W.mroIn K C (.type "object")=some true
def ad:tu X (.builtin "isinstance") (fun xs H Q=>∃v D tv b,xs=[v,.ref D]∧sT X.K H v tv∧PySem.W.kitOne X.K tv (.ref D)=some b∧Q (.bl b) H):=by
 intro f' s σ H xs us Q I r h
 obtain⟨v,D,tv,b,rfl,hty,hk,q⟩:=h
 cases r with
 | cons r1 r2=>
  cases r2 with
  | cons r3 r4=>
   cases r4
   cases r3
   exact mW I r1 hty hk fun tk=>⟨.bl b,H,I.tok _,rfl,q⟩
def MU(K:Bq)(D:Addr)(ta:DTE):DTE:=fun ρ Q=>ta ρ fun d=>∃C f n b,d=.way C f n∧pj K C∧PySem.W.kitOne K (.ref C) (.ref D)=some b∧Q (.bl b)
theorem y6{a:Expr}{t:DTE}{y:Str}{p':Pos}{D:Addr}(hm:X.mg "isinstance"=none)(hmc:X.mg y=some (.ref D))(ha:DE X a t)
  (hg:Gl X "isinstance":=by rfl) (hgc:Gl X y:=by rfl) (hdy:ug y:=by decide)
  (hs:starEach [a,.Name y p'] X.env=(false,eval a X.env)::starEach [.Name y p'] X.env:=by rfl) (hs2:starEach [.Name y p'] X.env=(false,eval (.Name y p') X.env)::starEach [] X.env:=by rfl)
  (hpl:K' X.env pos [.Name y p']:=by rfl):
  DE X (.Call (.Name "isinstance" p0) [a,.Name y p'] [] pos) (MU X.K D t):=by
 obtain⟨te,p1,l1⟩:=ha
 have pc:PE X (.Name y p') (tC (.ref D)):=ki hgc hmc rfl hdy
 refine⟨_,xo ad hg hm boot_isinstance (zL p1 (zL pc yh hs2) hs) (by decide) (by decide) hs hpl,fun ρ σ H Q r h R k=>l1 ρ σ H _ r h _ fun d v H1 s1 i1 zz=>?_⟩
 obtain⟨C,f,n,b,ed,ok,e,q⟩:=zz
 subst ed
 obtain⟨p,dx,rfl,hp⟩:=is_way.mp i1
 exact⟨_,D,_,b,rfl,.ins (H1.sub _ _ hp) ok.cl ok.ha ok.hn ok.htk ok.hm,e,k _ _ H1 s1 (is_bl.mpr rfl) q⟩
def Lc(i:Nat)(g:Int→Int→Int)(te:DTE):DTS:=fun D ρ=>∃d,ρ[i]? = some (.some d)∧te ρ fun e=>∃m n,d=.int m∧e=.int n∧D.nx (ρ.set i (.some (.int (g m n))))
theorem cy{i:Nat}{x:Str}{e:Expr}{te:DTE}{op:Operator}{g:Int→Int→Int}{pos':Pos}(ho:PIp X op (ipI g))(hN:X.N.Nodup)(hi:X.N[i]? = some x)(hx:Loc X.env.scope x)(h:DE X e te)
  (hf:X.fn x=true∨X.env.scope.names.lookup x=some .local:=by walk_at "f"):DSt X fr (.AugAssign (.Name x pos') op e pos) (Lc i g te):=by
 obtain⟨tt,p,l⟩:=h
 refine⟨_,Ue hN hi hx p ho hf,fun W0 G ρ σ W D D' a s h=>?_⟩
 obtain⟨d,ed,h⟩:=h
 obtain⟨v,ev,iv⟩:=a.rl.at_ i d ed
 refine⟨v,ev,l ρ σ W _ a.rl h _ fun z u W1 s1 i1 zz=>?_⟩
 obtain⟨m,n,em,en,q⟩:=zz
 subst em
 subst en
 exact⟨m,n,is_int.mp iv,is_int.mp i1,s.nx _ _ W1 ((a.step s1).set i (is_int.mpr rfl)) q⟩
end
end OD
namespace OD
open PySem PySem.Spec PyProof.Rows L2
def Itd(lo:Int)(n:Nat):It:=⟨fun i _=>i<n,fun i H x H'=>H'=H∧x=.int (lo-i),fun i _=>n≤i⟩
theorem bb{P:Program}{w:World}{K:Bq}{tg:Expr}(it:Addr)(lo:Int)(n:Nat):mz P w K tg (Itd lo n) [it] it (fun i h=>IsRangeIter h it (lo+(i:Nat)*(-1)) ((n:Int)-(i:Nat)) (-1)) where
 mem:=by simp
 obj:=fun i h st b hb=>by
  have e:b=it:=by simpa using hb
  subst e
  exact⟨_,st,fun v z=>by
   have z':Data.fields _=Data.cell v:=z
   cases z'⟩
 keep:=fun i h h' st k=>k it (by simp) _ st
 item:=by
  intro X hP hw hK hc i f' s σ H E I hf st hg
  subst hP hw hK
  obtain⟨f0,f1,f2,f3,f4,f5⟩:=hf it (by simp)
  have W:=Walks.range (prog:=X.prog) (w:=X.w) (I.ok.hd hc) it lo (-1) n
  refine W.item i s _ _ hg st fun v h' tk hv st' kk=>?_
  obtain⟨t,rfl⟩:=hv
  have I1:Inv X f' σ H { s with heap:=h',toks:=tk }:=I.turned (fun b o hb e=>kk b o (by simpa using hb) e) f0 f1 f3 f4 f5
  refine⟨_,rfl,iP (s:={ s with heap:=h',toks:=tk }) (n:="range_iterator") st' rfl rfl (by decide) ⟨.int (lo-i),H,I1,⟨t,?_⟩,⟨rfl,rfl⟩,st',fun b hb=>(hf b hb).1⟩⟩
  rw[show lo+(i:Int)*(-1)=lo-i by omega]
 done:=by
  intro X hP hw hK hc i f' s σ H E I hf st hg
  subst hP hw hK
  obtain⟨f0,f1,f2,f3,f4,f5⟩:=hf it (by simp)
  exact wpAny_pyNext_range_end (I.ok.hd hc) st (by have:n≤i:=hg;omega) fun h' eb=>⟨rfl,I.turned (t':=s.toks) (fun b o hb e=>eb b o hb e) f0 f1 f3 f4 f5⟩
 self:=fun _ _ _ _ _ st h=>wpAny_pyIter_rangeiter st h
def uK(a b:Int):Builtin.Range.rangeSize a b (-1)=if b<a then a-b else 0:=by
 unfold Builtin.Range.rangeSize
 rw[if_neg (by decide)]
 split
 ·rename_i h
  have:(a-b-1)/(- -1)=a-b-1:=by rw[show(- -1:Int)=1 by decide,Int.ediv_one]
  omega
 ·rfl
def g7{a b:Int}(ha:-(2^62)≤a)(ha':a<2^62)(hb:-(2^62)≤b)(hb':b<2^62):Builtin.Range.small a b (-1)=true:=by
 unfold Builtin.Range.small
 rw[uK]
 simp only[Builtin.Range.rangeFitsLong,Bool.and_eq_true,Bool.or_eq_true,decide_eq_true_eq,beq_iff_eq,show ¬(-1:Int)>0 by decide,if_false]
 split<;>omega
section
variable{X:Cx}{tg:Expr}
def Mt(ta:TA):TI:=fun σ H R=>ta σ H fun vs H1=>∃i j:Int,vs=[.int i,.int j,.int (-1)]∧(-(2^30)≤i∧i<2^30∧-(2^30)≤j∧j<2^30)∧R (Itd i (i-j).toNat) H1
def Xk{a b c:Expr}{ta:TA}{p pos:Pos}(hg:Gl X "range")(hm:X.mg "range"=none)(ha:PA X [a,b,c] ta)(hs:starEach [a,b,c] X.env=(false,eval a X.env)::starEach [b,c] X.env:=by rfl)
  (hpl:K' X.env pos [b,c]:=by rfl):PI X tg (.Call (.Name "range" p) [a,b,c] [] pos) (Mt ta):=by
 intro f' s σ H R I h
 refine Call_ (vc I hg hm boot_range (PyProof.Rows.callWith_type1 (thn (ha pos f' s σ H _ I h) fun us s1 zz=>?_) hs hpl))
 obtain⟨vs,H1,I1,r1,q1⟩:=zz
 obtain⟨i,j,e,⟨q1,q2,q3,q4⟩,q⟩:=q1
 subst e
 cases r1 with
 | cons r rr=>
 cases rr with
 | cons r' rr=>
 cases rr with
 | cons r'' rr=>
  cases rr
  obtain⟨t,rfl⟩:=r
  obtain⟨t',rfl⟩:=r'
  obtain⟨t'',rfl⟩:=r''
  refine call_range_3 (by decide) ?_ (Or.inl (PyProof.noPylong_small (by omega)))
  refine wpAny_pyIter_range (IsRange.new ..) (g7 (by omega) (by omega) (by omega) (by omega)) ?_
  have I2:Inv X f' σ H1 { s1 with heap:=s1.heap.push { cls:=.type "range",data:=.fields #[.int i t,.int j t',.int (-1) t''] },toks:=s1.toks }:=I1.kept fun b o e=>Heap.get?_push_of_some _ e
  refine⟨(s1.heap.push { cls:=.type "range",data:=.fields #[.int i t,.int j t',.int (-1) t''] }).objs.size,[(s1.heap.push { cls:=.type "range",data:=.fields #[.int i t,.int j t',.int (-1) t''] }).objs.size],_,_,H1,rfl,
   I2.kept (t':=s1.toks) fun b o e=>Heap.get?_push_of_some _ e,bb _ i (i-j).toNat,?_,fun b hb=>?_,q⟩
  ·have e1:i+((0:Nat):Int)*(-1)=i:=by simp
   have e2:(((i-j).toNat:Nat):Int)-((0:Nat):Int)=Builtin.Range.rangeSize i j (-1):=by rw[uK];split<;>omega
   show IsRangeIter _ _ (i+((0:Nat):Int)*(-1)) ((((i-j).toNat:Nat):Int)-((0:Nat):Int)) (-1)
   rw[e1,e2]
   exact Heap.get?_push_size _ rfl
  ·have e:b=(s1.heap.push { cls:=.type "range",data:=.fields #[.int i t,.int j t',.int (-1) t''] }).objs.size:=by simpa using hb
   subst e
   exact I2.fpOk (By _) (I2.hok.fresh (By _))
theorem ZT{lo:Int}{n:Nat}{g:TG}{tb:TS}{D:tT}{σ:St}{H:Hp}(Pv:Nat→St→Hp→Prop)(h0:Pv 0 σ H)
  (hs:∀i σ H,i<n→Pv i σ H→g (.int (lo-i)) σ H fun σ2 H2=>tb { D with nx:=Pv (i+1),ct:=Pv (i+1),bk:=D.nx } σ2 H2) (hd:∀σ H,Pv n σ H→D.nx σ H):
  ∃W:Nat→Nat→St→Hp→Prop,(∃m,W 0 m σ H)∧∀i m σ H,W i m σ H→
   ((Itd lo n).stop i H∧D.nx σ H)∨((Itd lo n).go i H∧∃N:St→Hp→Prop,(∀σ' H',N σ' H'→∃m',m'<m∧W (i+1) m' σ' H')∧∀x H',(Itd lo n).yld i H x H'→g x σ H' fun σ2 H2=>tb { D with nx:=N,ct:=N,bk:=D.nx } σ2 H2):=by
 refine⟨fun i m σ H=>m=n-i∧i≤n∧Pv i σ H,⟨n,by simp,Nat.zero_le _,h0⟩,?_⟩
 rintro i m σ H ⟨rfl,hi,p⟩
 by_cases hlt:i<n
 ·refine .inr ⟨hlt,Pv (i+1),fun σ' H' p'=>⟨n-(i+1),by omega,rfl,hlt,p'⟩,fun x H' y=>?_⟩
  obtain⟨e,y⟩:=y
  subst e y
  exact hs i σ _ hlt p
 ·have e:i=n:=by omega
  subst e
  exact .inl ⟨By _,hd σ H p⟩
variable{fr:Fr}{ta:DTA}{tb:DTS}{te:DTE}{pos p0 p1 p2:Pos}
def M7(j:Nat)(ta:DTA)(tb:DTS):DTS:=fun D ρ=>ta ρ fun ds=>∃(m n:Int)(Pv:Nat→DS→Prop),ds=[.int m,.int n,.int (-1)]∧-(2^30)≤m∧m<2^30∧-(2^30)≤n∧n<2^30∧Pv 0 ρ∧
 (∀(i:Nat) ρ',i<(m-n).toNat→Pv i ρ'→tb { D with nx:=Pv (i+1),ct:=Pv (i+1),bk:=D.nx } (ρ'.set j (.some (.int (m-i)))))∧∀ρ',Pv (m-n).toNat ρ'→D.nx ρ'
def AllIs.three{K:Bq}{H:Hp}{d e f:Dt}{xs:List V}(h:AllIs K H [d,e,f] xs):∃v u w,xs=[v,u,w]∧Is K H d v∧Is K H e u∧Is K H f w:=by
 obtain⟨x,r,rfl,h1,h2⟩:=allIs_cons.mp h
 obtain⟨u,w,rfl,h3,h4⟩:=h2.two
 exact⟨x,u,w,rfl,h1,h3,h4⟩
theorem vZ{j:Nat}{x:Str}{a b c:Expr}{body:List Stmt}{px p0 pos1:Pos}(hc:X.calm=true)(hN:X.N.Nodup)(hi:X.N[j]? = some x)(hx:Loc X.env.scope x)(hp:PassesOwn (model X.prog X.w) X.A X.env X.xe)
  (hg:Gl X "range") (hm:X.mg "range"=none) (h:DA X [a,b,c] ta) (hb:DSs X fr body tb) (hs:∀x,foldedSetIterable (.Call (.Name "range" p0) [a,b,c] [] pos1) X.env x=pure x:=by intro _;rfl)
  (hst:starEach [a,b,c] X.env=(false,eval a X.env)::starEach [b,c] X.env:=by rfl) (hpl:K' X.env pos1 [b,c]:=by rfl)
  (hf:X.fn x=true∨X.env.scope.names.lookup x=some .local:=by walk_at "f"):DSt X fr (.For (.Name x px) (.Call (.Name "range" p0) [a,b,c] [] pos1) body [] pos) (M7 j ta tb):=by
 obtain⟨tt,p,l⟩:=h
 obtain⟨tbs,p2,l2⟩:=hb
 refine⟨_,vS hp hc (Xk hg hm p hst hpl) (yf hN hi hx hf) p2 hs,fun W0 G ρ σ W D D' at_ s h=>l ρ σ W _ at_.rl h _ fun ds vs W1 s1 i1 zz=>?_⟩
 obtain⟨m,n,Pv,ed,m1,m2,n1,n2,h0,ht,hd⟩:=zz
 subst ed
 obtain⟨v1,v2,v3,rfl,j1,j2,j3⟩:=i1.three
 have hg1:Same G W1.g:=at_.gs.trans s1.g
 refine⟨m,n,by rw[is_int.mp j1,is_int.mp j2,is_int.mp j3],⟨m1,m2,n1,n2⟩,ZT (lo:=m) (n:=(m-n).toNat) (fun i=>InL X.K (Zx X) W0 W1 (Pv i)) ⟨ρ,W1,rfl,(at_.step s1).now,h0⟩ ?_ ?_⟩
 ·rintro i σ' _ hi ⟨ρ',W2,rfl,a2,hp2⟩
  exact l2 W0 W1.g _ _ W2 { D with nx:=Pv (i+1),ct:=Pv (i+1),bk:=D.nx } _ (a2.set j (is_int.mpr rfl)) (yW s hg1) (ht i ρ' hi hp2)
 ·rintro σ' _ ⟨ρ',W2,rfl,a2,hp2⟩
  exact s.nx ρ' σ' W2 (a2.weak hg1) (hd ρ' hp2)
def HF(ta:DTA):DTE:=fun ρ Q=>ta ρ fun ds=>∃i j,ds=[.int i,.int j]∧Q (.int (if j>i then j else i))
def Yh{a b:Expr}(hc:X.calm=true)(hg:Gl X "max")(hm:X.mg "max"=none)(ha:DA X [a,b] ta)(hs:starEach [a,b] X.env=(false,eval a X.env)::starEach [b] X.env:=by rfl)(hpl:K' X.env pos [b]:=by rfl):
  DE X (.Call (.Name "max" p0) [a,b] [] pos) (HF ta):=by
 obtain⟨te,p1,l1⟩:=ha
 refine⟨_,xo (ac hc) hg hm (by decide +kernel) p1 (by decide) (by decide) hs hpl,fun ρ σ H Q r h R k=>l1 ρ σ H _ r h _ fun ds vs H1 s1 i1 zz=>?_⟩
 obtain⟨i,j,ed,q⟩:=zz
 subst ed
 obtain⟨v1,v2,rfl,j1,j2⟩:=i1.two
 exact⟨i,j,by rw[is_int.mp j1,is_int.mp j2],k _ _ H1 s1 (is_int.mpr rfl) q⟩
def iH:Dt→Bool
 | .non=>true
 | _=>false
def mX{K:Bq}{H:Hp}{d:Dt}{v:V}(h:Is K H d v):decide (v=.non)=iH d:=by
 cases d with
 | non=>rw[is_non.mp h];rfl
 | bl b=>rw[is_bl.mp h];rfl
 | int b=>rw[is_int.mp h];rfl
 | str b=>rw[is_str.mp h];rfl
 | tup b=>obtain⟨a,xs,rfl,_⟩:=is_tup.mp h;rfl
 | lst b=>obtain⟨a,xs,rfl,_⟩:=is_lst.mp h;rfl
 | scr b=>obtain⟨a,rfl,_⟩:=is_scr.mp h;rfl
 | way b _ _=>obtain⟨a,xs,rfl,_⟩:=is_way.mp h;rfl
 | exc b=>obtain⟨a,rfl,_⟩:=is_exc.mp h;rfl
 | opq φ=>obtain⟨a,rfl⟩:=φ.ref (is_opq.mp h);rfl
def VE(ta:DTE):DTE:=fun ρ Q=>ta ρ fun d=>Q (.bl (iH d))
def Ta(ta:DTE):DTE:=fun ρ Q=>ta ρ fun d=>Q (.bl (!iH d))
def X2{a:Expr}{j pos'}(ha:DE X a te):DE X (.Compare a [.IsNot] [.Constant .none j pos'] pos) (Ta te):=by
 obtain⟨t1,p1,l1⟩:=ha
 exact⟨_,Um (Xp p1),fun ρ σ H Q r h R k=>l1 ρ σ H _ r h _ fun d v H1 s1 i1 q=>k (.bl (!iH d)) (.bl (!decide (v=.non))) H1 s1 (is_bl.mpr (by rw[mX i1])) q⟩
def kZ{a:Expr}{j pos'}(ha:DE X a te):DT X (.Compare a [.Is] [.Constant .none j pos'] pos) (pd (VE te)):=by
 obtain⟨t1,p1,l1⟩:=ha
 refine⟨_,Uc (Uq p1),kJ (te:=TH t1) (t:=VE te) fun ρ σ H Q r h R k=>l1 ρ σ H _ r h _ fun d v H1 s1 i1 q=>k (.bl (iH d)) (.bl (decide (v=.non))) H1 s1 (is_bl.mpr (by rw[mX i1])) q⟩
end
end OD
namespace OD
open PySem PySem.Spec PyProof.Rows L2
section
variable{X:Cx}{a:Expr}{te:TE}{tl ts:TO}{hi:Option Expr}{st:Expr}{pos p2:Pos}{ta:DTE}
def Itv(K:Bq)(a:Addr):It:=
 ⟨fun i H=>∃xs x,SqL K H a xs∧xs.reverse[i]? = some x,fun i H x H'=>H'=H∧∀xs,SqL K H a xs→xs.reverse[i]? = some x,fun i H=>∃xs,SqL K H a xs∧xs.length≤i⟩
def Tv(l it:Addr)(n:Nat)(i:Nat)(h:Heap):Prop:=i≤n∧h.IsRevIter it l ((n:Int)-1-(i:Int))
def d9{α:Type}{xs:List α}{i:Nat}{x:α}(h:xs.reverse[i]? = some x):i<xs.length∧xs[xs.length-1-i]? = some x:=by
 have hi:i<xs.reverse.length:=by
  rcases Ca i xs.reverse.length with q|q
  ·exact q
  ·rw[BG q]at h;cases h
 rw[BQ]at hi
 rw[List.getElem?_reverse hi]at h
 exact⟨hi,h⟩
theorem ax{P:Program}{w:World}{K:Bq}{tg:Expr}(l it:Addr)(n:Nat):mz P w K tg ⟨fun i H=>∃xs x,xs.length=n∧SqL K H l xs∧xs.reverse[i]? = some x,(Itv K l).yld,fun i H=>∃xs,xs.length=n∧SqL K H l xs∧xs.length≤i⟩ [it] it (Tv l it n) where
 mem:=by simp
 obj:=fun i h ⟨_,o,e,c,d⟩ b hb=>by
  have e':b=it:=by simpa using hb
  subst e'
  exact⟨o,e,fun v z=>by rw[d]at z;cases z⟩
 keep:=fun i h h' ⟨hi,o,e,c⟩ k=>⟨hi,o,k it (by simp) _ e,c⟩
 item:=by
  intro X hP hw hK hc i f' s σ H E I hf st hg
  subst hP hw hK
  obtain⟨xs,x,hn,hq,hx⟩:=hg
  obtain⟨hi,st⟩:=st
  obtain⟨hi2,hx2⟩:=d9 hx
  obtain⟨its,rv,p,hz⟩:=I.list hq
  obtain⟨u,hu,ru⟩:=rv.get hx2
  obtain⟨f0,f1,f2,f3,f4,f5⟩:=hf it (by simp)
  have e1:(n:Int)-1-(i:Int)=((xs.length-1-i:Nat):Int):=by omega
  rw[e1]at st
  refine wpAny_pyNext_rev_item st p.isList (x:=u) (by simpa using hu) fun h' st' sb=>?_
  have I1:Inv X f' σ H { s with heap:=h' }:=I.turned (t':=s.toks) (fun b o hb e=>(sb.2 b hb).trans e) f0 f1 f3 f4 f5
  obtain⟨o,e,c,d⟩:=id st'
  refine⟨u,rfl,iP (s:={ s with heap:=h' }) e c d (by decide) ⟨x,H,I1,ru,⟨rfl,fun ys hy=>by rw[I.list_inj hy hq];exact hx⟩,⟨by omega,?_⟩,fun b hb=>(hf b hb).1⟩⟩
  have e2:(n:Int)-1-((i+1:Nat):Int)=((xs.length-1-i:Nat):Int)-1:=by omega
  rw[e2]
  exact st'
 done:=by
  intro X hP hw hK hc i f' s σ H E I hf st hg
  subst hP hw hK
  obtain⟨xs,hn,hq,hx⟩:=hg
  obtain⟨hi,st⟩:=st
  obtain⟨f0,f1,f2,f3,f4,f5⟩:=hf it (by simp)
  have e1:(n:Int)-1-(i:Int)=-1:=by omega
  rw[e1]at st
  exact wpAny_pyNext_rev_end (I.ok.hd hc) st fun h' eb=>⟨rfl,I.turned (t':=s.toks) (fun b o hb e=>eb b o hb e) f0 f1 f3 f4 f5⟩
 self:=fun _ _ _ _ _ st h=>wpAny_pyIter_revIter st.2 h
def Hm(K:Bq)(ta:TA):TI:=fun σ H R=>ta σ H fun vs H1=>∃l xs,vs=[.ref l]∧SqL K H1 l xs∧R ⟨fun i H=>∃ys x,ys.length=xs.length∧SqL K H l ys∧ys.reverse[i]? = some x,(Itv K l).yld,fun i H=>∃ys,ys.length=xs.length∧SqL K H l ys∧ys.length≤i⟩ H1
def Yu:bootBuiltins "reversed"=some (.type "reversed"):=by decide +kernel
def Zg{a:Expr}{ta:TA}{p pos:Pos}{tg:Expr}(hg:Gl X "reversed")(hm:X.mg "reversed"=none)(ha:PA X [a] ta)(hs:starEach [a] X.env=(false,eval a X.env)::starEach [] X.env:=by rfl)
  (hpl:K' X.env pos []:=by rfl):PI X tg (.Call (.Name "reversed" p) [a] [] pos) (Hm X.K ta):=by
 intro f' s σ H R I h
 refine Call_ (vc I hg hm Yu (PyProof.Rows.callWith_type1 (thn (ha pos f' s σ H _ I h) fun us s1 zz=>?_) hs hpl))
 obtain⟨vs,H1,I1,r1,q1⟩:=zz
 obtain⟨l,xs,e,q1,q⟩:=q1
 subst e
 obtain⟨u,rfl,ru⟩:=r1.one
 cases ru
 obtain⟨its1,r1,p1,z1⟩:=I1.list q1
 refine call_reversed_list p1.isList ?_
 have I2:Inv X f' σ H1 { s1 with heap:=s1.heap.push (revObj l ((its1.toArray.size:Int)-1)) }:=I1.kept (t':=s1.toks) fun b o e=>Heap.get?_push_of_some _ e
 have st:(s1.heap.push (revObj l ((its1.toArray.size:Int)-1))).IsRevIter s1.heap.objs.size l ((xs.length:Int)-1-((0:Nat):Int)):=by
  have e:(xs.length:Int)-1-((0:Nat):Int)=(its1.toArray.size:Int)-1:=by rw[BC,←r1.length];omega
  rw[e]
  exact⟨_,Heap.get?_push_size _ rfl,rfl,rfl⟩
 refine wpAny_pyIter_revIter (s:={ s1 with heap:=s1.heap.push (revObj l ((its1.toArray.size:Int)-1)) }) st ⟨s1.heap.objs.size,[s1.heap.objs.size],_,_,H1,rfl,I2,ax l s1.heap.objs.size xs.length,⟨B4 _,st⟩,fun b hb=>?_,q⟩
 have e:b=s1.heap.objs.size:=by simpa using hb
 subst e
 exact I1.fpOk (By _) (I1.hok.fresh (By _))
variable{fr:Fr}{tA:DTA}{tb:DTS}{p0 p1:Pos}
def MZ(j:Nat)(ta:DTA)(tb:DTS):DTS:=fun D ρ=>ta ρ fun ds=>∃(d:Dt)(xs:List Dt)(Pv:Nat→DS→Prop),ds=[d]∧xc d=some xs∧Pv 0 ρ∧
 (∀(n:Nat) x ρ',xs.reverse[n]? = some x→Pv n ρ'→tb { D with nx:=Pv (n+1),ct:=Pv (n+1),bk:=D.nx } (ρ'.set j (.some x)))∧∀ρ',Pv xs.length ρ'→D.nx ρ'
theorem AllIs.rev{K:Bq}{H:Hp}:∀{ds:List Dt}{xs:List V},AllIs K H ds xs→AllIs K H ds.reverse xs.reverse
 | [],_,h=>by rw[allIs_nil.mp h];exact allIs_nil.mpr rfl
 | d::ds,_,h=>by
  obtain⟨x,r,rfl,h1,h2⟩:=allIs_cons.mp h
  rw[CD,CD]
  exact(AllIs.rev h2).append (allIs_cons.mpr ⟨x,[],rfl,h1,allIs_nil.mpr rfl⟩)
theorem pZ{j:Nat}{x:Str}{a:Expr}{body:List Stmt}{px p0 pos1:Pos}(hc:X.calm=true)(hN:X.N.Nodup)(hi:X.N[j]? = some x)(hx:Loc X.env.scope x)(hp:PassesOwn (model X.prog X.w) X.A X.env X.xe)
  (hg:Gl X "reversed") (hm:X.mg "reversed"=none) (h:DA X [a] tA) (hb:DSs X fr body tb) (hs:∀x,foldedSetIterable (.Call (.Name "reversed" p0) [a] [] pos1) X.env x=pure x:=by intro _;rfl)
  (hst:starEach [a] X.env=(false,eval a X.env)::starEach [] X.env:=by rfl) (hpl:K' X.env pos1 []:=by rfl)
  (hf:X.fn x=true∨X.env.scope.names.lookup x=some .local:=by walk_at "f"):DSt X fr (.For (.Name x px) (.Call (.Name "reversed" p0) [a] [] pos1) body [] pos) (MZ j tA tb):=by
 obtain⟨tt,p,l⟩:=h
 obtain⟨tbs,p2,l2⟩:=hb
 refine⟨_,vS hp hc (Zg hg hm p hst hpl) (yf hN hi hx hf) p2 hs,fun W0 G ρ σ W D D' at_ s h=>l ρ σ W _ at_.rl h _ fun ds vs W1 s1 i1 zz=>?_⟩
 obtain⟨d,xs,Pv,ed,el1,h0,ht,hd⟩:=zz
 subst ed
 obtain⟨v1,rfl,j1⟩:=i1.one
 have hg1:Same G W1.g:=at_.gs.trans s1.g
 obtain⟨l1,us,rfl,hq1,ha1⟩:=sN j1 el1
 refine⟨l1,us,rfl,hq1 W1 (Same.refl _),fun i m σ' H'=>m=us.length-i∧i≤us.length∧InL X.K (Zx X) W0 W1 (Pv i) σ' H',⟨_,rfl,B4 _,ρ,W1,rfl,(at_.step s1).now,h0⟩,?_⟩
 rintro i m σ' _ ⟨rfl,hi,ρ',W2,rfl,a2,hp2⟩
 have q1:=hq1 W2 a2.gs
 by_cases hlt:i<us.length
 ·have g1:us.reverse[i]? = some (us.reverse[i]'(by rw[BQ];exact hlt)):=Bu _
  refine .inr ⟨⟨us,_,rfl,q1,g1⟩,InL X.K (Zx X) W0 W1 (Pv (i+1)),fun σ' H' p'=>⟨us.length-(i+1),by omega,rfl,hlt,p'⟩,fun v H' y=>?_⟩
  obtain⟨rfl,y⟩:=y
  obtain⟨x',ex,ix⟩:=ha1.rev.get' (y us q1)
  exact l2 W0 W1.g _ _ W2 { D with nx:=Pv (i+1),ct:=Pv (i+1),bk:=D.nx } _ (a2.set j (Is.mono0 a2.gs ix)) (yW s hg1) (ht i x' ρ' ex hp2)
 ·have e:i=us.length:=by omega
  subst e
  exact .inl ⟨⟨us,rfl,q1,By _⟩,s.nx ρ' σ' W2 (a2.weak hg1) (hd ρ' (by rw[ha1.length];exact hp2))⟩
def XB:MtR X "int.bit_length" (fun x vs H Q=>∃i,x=.int i∧vs=[]∧Q (.int (Builtin.Int.intBits i)) H):=by
 intro f' s σ H x vs v us Q I rx rv h
 obtain⟨i,rfl,rfl,q⟩:=h
 obtain⟨t,rfl⟩:=rx
 have hus:=rv.zero
 subst hus
 exact call_int_bit_length ⟨.int _,H,I.tok _,⟨_,rfl⟩,q⟩
def Lb(te:DTE):DTE:=fun ρ Q=>te ρ fun d=>∃i,d=.int i∧Q (.int (Builtin.Int.intBits i))
def X6{o:Expr}{t:DTE}{apos cpos:Pos}(ho:DE X o t)(hbase:attributeBase o "bit_length" X.env (eval o X.env)=eval o X.env:=by rfl)(hline:(apos.endLine==cpos.line)=true:=by rfl):DE X (.Call (.Attribute o "bit_length" apos) [] [] cpos) (Lb t):=by
 obtain⟨t1,p1,l1⟩:=ho
 refine⟨_,fK (T:="int") PySem.F.plainAttrs_int PySem.F.slot_int_bit_length PySem.F.type_int_bit_length XB p1 hbase hline,fun ρ σ H Q r h R k=>l1 ρ σ H _ r h _ fun d v H1 s1 i1 zz=>?_⟩
 obtain⟨i,e,q⟩:=zz
 subst e
 obtain rfl:=is_int.mp i1
 exact⟨rfl,i,rfl,rfl,k _ _ H1 s1 (is_int.mpr rfl) q⟩
def YM(i j:Int):Prop:=j≠0∧Builtin.divisionGoesByPylong i j=false
def oj:DOp X (binaryOp .FloorDiv) (gIC YM fun i j=>.int (i.fdiv j)):=nC (C:=YM) (opI fun _ _ _ _ _ _ _ hc q=>floordiv_int hc.1 q (.inl hc.2))
def cK{c n:Int}(h0:n≠0)(h:n.natAbs<2^9000):YM c n:=⟨h0,PyProof.noPylong_of_log2 ((Nat.log2_lt (by omega)).mpr h)⟩
def ME(t u:DTS):DTS:=fun D ρ=>∃P:DS→Prop,t { D with nx:=P } ρ∧∀ρ',P ρ'→u D ρ'
def zX{sst:Stmt}{y_:List Stmt}{t u:DTS}(h1:DSt X fr sst t)(h2:DSs X fr y_ u):DSs X fr (sst::y_) (ME t u):=by
 obtain⟨ts,p1,l1⟩:=h1
 obtain⟨us,p2,l2⟩:=h2
 refine⟨_,jX p1 p2,fun W0 G ρ σ W D D' a s h=>?_⟩
 obtain⟨P,h,k⟩:=h
 exact l1 W0 G ρ σ W { D with nx:=P } { D' with nx:=us D' } a ⟨fun ρ' σ' W' a' q=>l2 W0 G ρ' σ' W' D D' a' s (k ρ' q),s.tl,s.bk,s.ct⟩ h
end
end OD
namespace OD
open PySem PySem.Spec PyProof.Rows L2
section
variable{X:Cx}{K:Bq}{H:Hp}
def gS(f:Str→Str→Dt):Dt→Dt→(Dt→Prop)→Prop:=fun d e Q=>∃x y,d=.str x∧e=.str y∧Q (f x y)
def hU{x y:Str}:decide (V.str x=V.str y)=(x==y):=by
 rw[CL]
 simp
def zW:DOp X (compareOp .Eq) (gS fun x y=>.bl (x==y)):=by
 refine⟨_,Si,fun H x y d e Q i1 i2 ⟨a,b,ed,ee,q⟩ R k=>?_⟩
 subst ed
 subst ee
 obtain rfl:=is_str.mp i1
 obtain rfl:=is_str.mp i2
 refine⟨rfl,?_⟩
 rw[hU]
 exact k _ _ H (Le.refl H) (is_bl.mpr rfl) q
def Zy:DOp X (compareOp .NotEq) (gS fun x y=>.bl (!(x==y))):=by
 refine⟨_,Sd,fun H x y d e Q i1 i2 ⟨a,b,ed,ee,q⟩ R k=>?_⟩
 subst ed
 subst ee
 obtain rfl:=is_str.mp i1
 obtain rfl:=is_str.mp i2
 refine⟨rfl,?_⟩
 rw[hU]
 exact k _ _ H (Le.refl H) (is_bl.mpr rfl) q
def ue:List Dt→Option (List Str)
 | []=>some []
 | .str i::r=>(ue r).map (i::·)
 | _=>none
theorem sS:∀{ds:List Dt}{ns:List Str}{xs:List V},ue ds=some ns→AllIs K H ds xs→xs=ns.map V.str
 | [],ns,xs,e,h=>by
  cases e
  exact allIs_nil.mp h
 | d::ds,ns,xs,e,h=>by
  cases d with
  | str i=>
   obtain⟨ms,e1,e2⟩:=BU.mp (show(ue ds).map (i::·)=some ns from e)
   obtain⟨x,r,rfl,h1,h2⟩:=allIs_cons.mp h
   rw[sS e1 h2,is_str.mp h1,←e2]
   rfl
  | _=>cases e
theorem nr(i:Str):∀ns:List Str,inV (.str i) (ns.map V.str)=ns.any fun a=>a==i
 | []=>rfl
 | n::ns=>by
  have ih:=nr i ns
  unfold inV at ih ⊢
  rw[Cg,C4,C4,ih]
  rfl
theorem qM:∀ns:List Str,(ns.map V.str).all ui=true
 | []=>rfl
 | n::ns=>by rw[Cg,C3,qM ns];rfl
def ZA:DOp X (compareOp .In) (fun d e Q=>∃i ds ns,d=.str i∧oK e=some ds∧ue ds=some ns∧Q (.bl (ns.any fun a=>a==i))):=by
 refine⟨_,mP,fun H x y d e Q i1 i2 q R k=>?_⟩
 obtain⟨i,ds,ns,rfl,e1,e2,q⟩:=q
 obtain⟨p,xs,rfl,h1,h2⟩:=rX i2 e1
 obtain rfl:=sS e2 h2
 obtain rfl:=is_str.mp i1
 refine⟨p,_,rfl,h1,rfl,qM ns,?_⟩
 show R (.bl (inV (.str i) (ns.map V.str))) H.h
 rw[nr]
 exact k _ _ H (Le.refl H) (is_bl.mpr rfl) q
end
section
variable{X:Cx}{fr:Fr}{te:DTE}{tb:DTS}{pos p2:Pos}
def M8(i j:Nat)(te:DTE)(tb:DTS):DTS:=fun D ρ=>te ρ fun d=>∃(xs:List Dt)(Pv:Nat→DS→Prop),xc d=some xs∧Pv 0 ρ∧
 (∀(n:Nat) x ρ',xs[n]? = some x→Pv n ρ'→∃a b,x=.tup [a,b]∧tb { D with nx:=Pv (n+1),ct:=Pv (n+1),bk:=D.nx } ((ρ'.set i (.some a)).set j (.some b)))∧∀ρ',Pv xs.length ρ'→D.nx ρ'
theorem XY{i j:Nat}{x y:Str}{iter:Expr}{body:List Stmt}{px py pt:Pos}{kt:Nat}(hc:X.calm=true)(hN:X.N.Nodup)(hi:X.N[i]? = some x)(hj:X.N[j]? = some y)(hx:Loc X.env.scope x)(hy:Loc X.env.scope y)(hp:PassesOwn (model X.prog X.w) X.A X.env X.xe)
  (h:DE X iter te) (hb:DSs X fr body tb) (hs:∀z,foldedSetIterable iter X.env z=pure z:=by intro _;rfl)
  (hf:X.fn x=true∨X.env.scope.names.lookup x=some .local:=by walk_at "f") (hf2:X.fn y=true∨X.env.scope.names.lookup y=some .local:=by walk_at "f"):
  DSt X fr (.For (.Tuple [.Name x px,.Name y py] kt pt) iter body [] pos) (M8 i j te tb):=by
 obtain⟨tt,p,l⟩:=h
 obtain⟨tbs,p2,l2⟩:=hb
 refine⟨_,vS hp hc (kf p) (fI hc (vj (yf hN hi hx hf) (vj (yf hN hj hy hf2) kg))) p2 hs,fun W0 G ρ σ W D D' at_ s h=>l ρ σ W _ at_.rl h _ fun d v W1 s1 i1 zz=>?_⟩
 obtain⟨ds,Pv,el,h0,ht,hd⟩:=zz
 have hg:Same G W1.g:=at_.gs.trans s1.g
 obtain⟨a,xs,rfl,hq,ha⟩:=sN i1 el
 refine⟨a,rfl,⟨xs,hq W1 (Same.refl _)⟩,iR (K:=X.K) (a:=a) (xs:=xs) (fun i=>InL X.K (Zx X) W0 W1 (Pv i)) ⟨ρ,W1,rfl,(at_.step s1).now,h0⟩ (fun i σ' H' _ ⟨_,W2,e2,a2,_⟩=>e2 ▸ hq W2 a2.gs) ?_ ?_⟩
 ·rintro n x σ' _ hi ⟨ρ',W2,rfl,a2,hp2⟩
  obtain⟨e,he,ie⟩:=ha.get' hi
  obtain⟨a1,b1,rfl,q⟩:=ht n e ρ' he hp2
  obtain⟨T,us,rfl,hT,hu⟩:=is_tup.mp (Is.mono0 a2.gs ie)
  obtain⟨v1,v2,rfl,k1,k2⟩:=hu.two
  refine⟨T,_,rfl,.of (W2.sub _ _ hT),rfl,v1,[v2],rfl,v2,[],rfl,rfl,?_⟩
  exact l2 W0 W1.g _ _ W2 { D with nx:=Pv (n+1),ct:=Pv (n+1),bk:=D.nx } _ ((a2.set i k1).set j k2) (yW s hg) q
 ·rintro σ' _ ⟨ρ',W2,rfl,a2,hp2⟩
  exact s.nx ρ' σ' W2 (a2.weak hg) (hd ρ' (by rw[ha.length];exact hp2))
end
end OD
namespace OD
open PySem PySem.Spec PyProof.Rows L2
def qR(σ:St)(js:List Nat):St:=js.map fun j=>(σ[j]?).getD none
def ve(cells:List (Str×Addr))(names:List (Str×NameKind)):List (Str×Addr):=(names.filterMap fun y=>if y.2 == .free then(cells.lookup y.1).map (y.1,·) else none).reverse
theorem ng{α:Type}{y:Str}{c:α}:∀{l:List (Str×α)},(y,c)∈l→∃c',l.lookup y=some c'
 | [],h=>nomatch h
 | (z,d)::r,h=>by
  rw[List.lookup_cons]
  cases q:y==z with
  | true=>exact⟨d,rfl⟩
  | false=>
   rcases BE.mp h with e|e
   ·cases e
    rw[beq_self_eq_true]at q
    cases q
   ·exact ng e
def mem_clOf{cells:List (Str×Addr)}{names:List (Str×NameKind)}{y:Str}{c:Addr}:(y,c)∈ve cells names↔(y,NameKind.free)∈names∧cells.lookup y=some c:=by
 unfold ve
 rw[B',List.mem_filterMap]
 constructor
 ·rintro⟨⟨z,k⟩,hz,e⟩
  split at e
  ·rename_i hk
   obtain rfl:=eq_of_beq hk
   obtain⟨d,hd,e⟩:=BU.mp e
   cases e
   exact⟨hz,hd⟩
  ·cases e
 ·rintro⟨h1,h2⟩
  exact⟨(y,.free),h1,by show Option.map _ (List.lookup y cells)=_;rw[h2];rfl⟩
def X_{scope:Scope}{env:Env}(h:∀y,(y,NameKind.free)∈scope.names→∃c,env.cells.lookup y=some c):closureFor scope env=pure (ve env.cells scope.names):=by
 have key:∀(names:List (Str×NameKind))(acc:List (Str×Addr)),(∀y,(y,NameKind.free)∈names→∃c,env.cells.lookup y=some c)→
   (forIn names acc fun x r=>(if x.2==NameKind.free then do let c ←cellOf env x.1;pure (ForInStep.yield ((x.1,c)::r)) else pure (ForInStep.yield r):Sem (ForInStep (List (Str×Addr)))))=(pure (ve env.cells names++acc):Sem (List (Str×Addr))):=by
  intro names
  induction names with
  | nil=>intro acc _;rfl
  | cons a r ih=>
   intro acc ha
   obtain⟨n,k⟩:=a
   rw[List.forIn_cons]
   cases hk:k==NameKind.free with
   | true=>
    obtain rfl:=eq_of_beq hk
    obtain⟨c,hc⟩:=ha n BJ
    have e1:cellOf env n=pure c:=by unfold cellOf;rw[hc]
    have e2:ve env.cells ((n,NameKind.free)::r)=ve env.cells r++[(n,c)]:=by
     unfold ve
     rw[List.filterMap_cons_some (b:=(n,c)) (by show Option.map _ (List.lookup n env.cells)=_;rw[hc];rfl),CD]
    show(do let c ←cellOf env n;pure (ForInStep.yield ((n,c)::acc)):Sem _) >>= _=_
    rw[e1,pure_bind,pure_bind,e2,CU]
    exact ih ((n,c)::acc) fun y hy=>ha y (BI _ hy)
   | false=>
    have e2:ve env.cells ((n,k)::r)=ve env.cells r:=by
     unfold ve
     rw[List.filterMap_cons_none (by show(if(k==NameKind.free)=true then _ else none)=none;rw[hk];rfl)]
    show(pure (ForInStep.yield acc):Sem _) >>= _=_
    rw[pure_bind,e2]
    exact ih acc fun y hy=>ha y (BI _ hy)
 have:=key scope.names [] h
 rw[Cm]at this
 unfold closureFor
 rw[←this]
 exact(bind_pure _).trans rfl
theorem xS{env:Env}(hk:env.scope.kind=.function):∀{names:List (Str×NameKind)}{x:Str},names.lookup x=some .free→env.scope.names.lookup x=some .cell→
  (names.map fun(n,k)=>if(k==NameKind.free&&env.scope.kind == .function&&env.kindOf n==some .cell) then(n,NameKind.cell) else(n,k)).lookup x=some .cell
 | [],_,h,_=>by simp at h
 | (n,k)::r,x,h,he=>by
  have ih:=@xS env hk r x
  show List.lookup x ((if(k==NameKind.free&&env.scope.kind == .function&&env.kindOf n==some .cell)=true then(n,NameKind.cell) else(n,k))::_)=_
  cases hx:x==n with
  | true=>
   obtain rfl:=eq_of_beq hx
   simp only[List.lookup_cons,hx]at h
   cases h
   have e:env.kindOf x=some .cell:=he
   rw[hk,e]
   simp[List.lookup_cons]
  | false=>
   simp only[List.lookup_cons,hx]at h
   by_cases hc:(k==NameKind.free&&env.scope.kind == .function&&env.kindOf n==some .cell)=true
   ·rw[if_pos hc];simp only[List.lookup_cons,hx];exact ih h he
   ·rw[if_neg hc];simp only[List.lookup_cons,hx];exact ih h he
def sR(ρ:DS)(js:List Nat):DS:=js.map fun j=>match(ρ[j]?:Option Sl) with
 | Option.some (Sl.some d)=>Sl.some d
 | _=>Sl.none
def Yj(js:List Nat)(ta te:DTE):DTE:=fun ρ Q=>ta ρ fun d=>∃(m:Int)(Pv:Nat→List Dt→Prop),d=.int m∧-(2^62)≤m∧m≤100000∧Pv 0 []∧
 (∀(i:Nat) es,i<m.toNat→Pv i es→te (.some (.int i)::sR ρ js) fun y=>Pv (i+1) (es++[y]))∧∀es,Pv m.toNat es→Q (.lst es)
def Mo(t:TE):TI:=fun σ H R=>t σ H fun v H1=>∃j:Int,v=.int j∧-(2^62)≤j∧j<2^62∧R (Itr 0 j.toNat) H1
section
variable{X:Cx}{a:Expr}{p0 pos1:Pos}
def bw{t:TE}{tg:Expr}(hg:Gl X "range")(hm:X.mg "range"=none)(p:PE X a t)(hst:starEach [a] X.env=[(false,eval a X.env)])(hst2:starEach [a] X.env=(false,eval a X.env)::starEach [] X.env):PI X tg (.Call (.Name "range" p0) [a] [] pos1) (Mo t):=by
 intro f' s σ H R I h
 refine mO hg hm (zL p yh hst2) hst f' s σ H R I ?_
 refine(?_:t σ H fun v H1=>∃j:Int,[v]=[V.int j]∧-(2^62)≤j∧j<2^62∧R (Itr 0 j.toNat) H1)
 have e:(fun(v:V)(H1:Hp)=>∃j:Int,v=V.int j∧-(2^62)≤j∧j<2^62∧R (Itr 0 j.toNat) H1)=fun v H1=>∃j:Int,[v]=[V.int j]∧-(2^62)≤j∧j<2^62∧R (Itr 0 j.toNat) H1:=by
  funext v H1
  refine propext ⟨fun⟨j,q,z⟩=>⟨j,by rw[q],z⟩,fun⟨j,q,z⟩=>⟨j,(List.cons.inj q).1,z⟩⟩
 rw[←e]
 exact h
end
section
variable{X:Cx}{a:Expr}{p0 pos:Pos}
def lB:bootBuiltins "int"=some (.type "int"):=by decide +kernel
def TJ(ta:TA):TE:=fun σ H Q=>ta σ H fun vs H1=>∃b:Bool,vs=[.bl b]∧Q (.int (if b then 1 else 0)) H1
def Xm{ta:TA}(hg:Gl X "int")(hm:X.mg "int"=none)(ha:PA X [a] ta)(hs:starEach [a] X.env=(false,eval a X.env)::starEach [] X.env:=by rfl)(hpl:K' X.env pos []:=by rfl):
  PE X (.Call (.Name "int" p0) [a] [] pos) (TJ ta):=by
 intro f' s σ H Q I h
 refine Call_ (vc I hg hm lB (PyProof.Rows.callWith_type1 (thn (ha pos f' s σ H _ I h) fun us s1 zz=>?_) hs hpl))
 obtain⟨vs,H1,I1,r1,q1⟩:=zz
 obtain⟨b,e,q⟩:=q1
 subst e
 obtain⟨u,rfl,ru⟩:=r1.one
 cases ru
 exact call_int_bool ⟨.int _,H1,I1.tok _,⟨_,rfl⟩,q⟩
def MW(ta:DTE):DTE:=fun ρ Q=>ta ρ fun d=>∃b:Bool,d=.bl b∧Q (.int (if b then 1 else 0))
def jf{ta:DTE}(hg:Gl X "int")(hm:X.mg "int"=none)(ha:DE X a ta)(hs:starEach [a] X.env=(false,eval a X.env)::starEach [] X.env:=by rfl)(hpl:K' X.env pos []:=by rfl):
  DE X (.Call (.Name "int" p0) [a] [] pos) (MW ta):=by
 obtain⟨te,p1,l1⟩:=ha
 refine⟨_,Xm hg hm (zL p1 yh hs) hs hpl,fun ρ σ H Q r h R k=>l1 ρ σ H _ r h _ fun d v H1 s1 i1 zz=>?_⟩
 obtain⟨b,ed,q⟩:=zz
 subst ed
 exact⟨b,by rw[is_bl.mp i1],k _ _ H1 s1 (is_int.mpr rfl) q⟩
end
end OD
namespace OD
open PySem PySem.Spec PyProof.Rows L2
def jg(js:List Nat)(ta te:DTE):DTE:=fun ρ Q=>ta ρ fun d=>∃(ds:List Dt)(Pv:Nat→List Dt→Prop),xc d=some ds∧ds.length≤100000∧Pv 0 []∧
 (∀(i:Nat) e es,ds[i]? = some e→Pv i es→te (.some e::sR ρ js) fun y=>Pv (i+1) (es++[y]))∧∀es,Pv ds.length es→Q (.lst es)
end OD
namespace L2
open PySem PySem.Spec PyProof.Rows
def ExcK(K:Bq)(C:Addr):Prop:=PySem.W.excIn K C [.type "ValueError",.type "Exception",.type "BaseException",.type "object"] "ValueError.__new__"=true
abbrev TB:=(St→Hp→Prop)→XK→St→Hp→Prop
end L2
namespace OD
open PySem PySem.Spec PyProof.Rows L2
abbrev af:=List Dt→(Dt→Prop)→(Addr→Prop)→Prop
end OD
namespace OD
open PySem PySem.Spec PyProof.Rows L2
def zG(X:Cx)(scope:Scope)(cl:List (Str×Addr))(bs caps:List Str)(C:Addr)(s:Shared)(H:Hp)(fp:List Addr)(f':am):Cx where
 prog:=X.prog
 w:=X.w
 K:=X.K
 mg:=X.mg
 base:=X.base
 A:=X.A
 N:=bs++caps
 s₀:=s
 H₀:=H
 env:=compEnvC scope cl C X.env
 outer:=X.stack
 stack:=X.stack
 ex:=fp
 fn:=fun y=>bs.contains y
 calm:=X.calm
 pn:=X.pn++f'
 xe:=fun _ _=>False
structure rR(X:Cx)(scope:Scope)(cl:List (Str×Addr))(bs caps:List Str)(js:List Nat):Prop where
 clos:closureFor scope X.env=pure cl
 sub:∀y c,cl.lookup y=some c→X.env.cells.lookup y=some c
 has:∀y,((relabel scope X.env).names.lookup y=some .cell∨(relabel scope X.env).names.lookup y=some .free)→∃c,cl.lookup y=some c
 nox:∀x∈bs,cl.lookup x=none
 cell:∀y∈scope.names,y.2≠.cell
 kind:scope.kind=.function
 names:∀y∈scope.names,y.2=.local→scope.names.lookup y.1=some .local
 loc:∀x∈bs,scope.names.lookup x=some .local
 nd:(bs++caps).Nodup
 len:js.length=caps.length
 at_:∀(k:Nat) y,caps[k]? = some y→∃j,js[k]? = some j∧X.N[j]? = some y
 cap:∀y∈caps,(relabel scope X.env).names.lookup y=some .cell∧X.env.scope.names.lookup y=some .cell
theorem u_{prog:Program}{w:World}{A:Around}{s:Shared}{elt target iter:Expr}{ifs:List Expr}{scope:Scope}{pos:Pos}{it acc:Value}{env:Env}{R:Result→Shared→Prop}(I:Nat→Shared→Prop)
  (turn:∀n s,I n s→wpAny (model prog w) A (pyNext it) (fun r s₁=>match r with
   | none=>R (.ok .next) s₁
   | some v=>wpAny (model prog w) A (letOwnedTupleGo target it v) (fun _ s₁'=>wpAny (model prog w) A (assign target env v) (fun _ s₂=>
     wpAny (model prog w) A (forIn ifs true fun c r=>if r=true then do let ok ←isTrue c env (eval c env);pure (ForInStep.yield ok) else pure (ForInStep.yield r)) (fun ok s₃=>
      if ok=true then wpAny (model prog w) A (eval elt env) (fun x s₄=>
       wpAny (model prog w) A (call (.builtin "list.append") [acc,x]) (fun _ s₅=>∃m,m<n∧I m s₅) (notedBy (model prog w) A env fun e s'=>R (.error e) s') s₄) (notedBy (model prog w) A env fun e s'=>R (.error e) s') s₃
      else ∃m,m<n∧I m s₃) (notedBy (model prog w) A env fun e s'=>R (.error e) s') s₂)
     (notedBy (model prog w) A env fun e s'=>R (.error e) s') s₁') (notedBy (model prog w) A env fun e s'=>R (.error e) s') s₁) (notedBy (model prog w) A env fun e s'=>R (.error e) s') s)
  (n:Nat) (h:I n s):codeAny (model prog w) A (.compLoop (.ListComp elt [⟨target,iter,ifs,0⟩] scope pos) 0 it acc env) R s:=by
 refine codeAny_loop rfl I (fun n s hI=>?_) n h
 show wpAny _ A ((compTurn (.ListComp elt [⟨target,iter,ifs,0⟩] scope pos) 0 it acc env).onRaise (fun x=>do noteFrame x env;theTreesLotGoes x)) _ _ s
 refine wpAny_noted ?_
 rw[compTurn_list]
 refine wpAny_bind (wpAny_standAt (wpAny_bind (wpAny_mono (turn n s hI) (fun r s₁ h₁=>?_) fun _ _ h'=>h')))
 cases r with
 | none=>exact wpAny_pure h₁
 | some v=>
  refine wpAny_bind (wpAny_mono h₁ (fun _ s₁' h₁'=>?_) fun _ _ h'=>h')
  refine wpAny_bind (wpAny_mono h₁' (fun _ s₂ h₂=>wpAny_bind (wpAny_mono h₂ (fun ok s₃ h₃=>?_) fun _ _ h'=>h')) fun _ _ h'=>h')
  cases ok with
  | false=>exact wpAny_pure ⟨rfl,h₃⟩
  | true=>
   exact wpAny_bind (wpAny_bind (wpAny_mono h₃ (fun x s₄ h₄=>wpAny_bind (wpAny_mono h₄ (fun _ s₅ h₅=>wpAny_pure (wpAny_pure ⟨rfl,h₅⟩)) fun _ _ h'=>h')) fun _ _ h'=>h'))
def PC(X:Cx)(ifs:List Expr)(t:TT):Prop:=
 ∀(f':am)(s:Shared)(σ:St)(H:Hp)(Q:Bool→Hp→Prop)(E:cp),(∀v s,X.xe v s→E v s)→Inv X f' σ H s→t σ H Q→
  wpAny (model X.prog X.w) X.A (forIn ifs true fun c r=>if r=true then do let ok ←isTrue c X.env (eval c X.env);pure (ForInStep.yield ok) else pure (ForInStep.yield r)) (TP X f' σ Q) E s
def Up{X:Cx}:PC X [] (fun _ H Q=>Q true H):=fun _ _ _ H _ _ _ I h=>wpAny_tests_nil ⟨H,I,h⟩
section
variable{X:Cx}{f':am}{σ:St}{H:Hp}{s:Shared}{scope:Scope}{cl:List (Str×Addr)}{bs caps:List Str}{js:List Nat}{fp:List Addr}
theorem bJ{h₁:Heap}{t:Nat}{m:be}(I:Inv X f' σ H s)(S:rR X scope cl bs caps js)(hfp:∀b∈fp,tS X f' H b)(hob:∀b∈fp,∃o,s.heap.get? b=some o)
  (hn:h₁.Ns s.heap.objs.size m) (hk:∀b o,s.heap.get? b=some o→h₁.get? b=some o):Inv (zG X scope cl bs caps s.heap.objs.size s H fp f') [] (bs.map (fun _=>none)++qR σ js) H { s with heap:=h₁,toks:=t }:=by
 refine⟨⟨I.ok.mod,S.kind,I.ok.glob,I.ok.blt,By _,fun y z c h1 h2=>?_,fun y hy=>?_,fun y c hf h=>?_,I.ok.hd,I.ok.frames,.inl rfl,fun b hb=>⟨?_,fun y c h=>?_⟩,I.bs,BS I.ok.bsz I.sz,fun b o e hb=>?_,fun b hb z=>?_,I.stack,I.stkFree⟩,
  rfl,I.bare,Un.kept hk,⟨_,hn,fun i y v h1 h2 h3=>?_⟩,fun y c h=>?_,I.hok.fresh (By _),fun y c h=>?_,fun p hp=>?_,I.hok.kept hk,?_⟩
 ·exact I.ok.inj y z c (S.sub y c h1) (S.sub z c h2)
 ·exact S.has y hy
 ·have hf:y∈bs:=List.contains_iff_mem.mp hf
  have h:cl.lookup y=some c:=h
  rw[S.nox y hf]at h
  cases h
 ·obtain⟨o,e⟩:=hob b hb
  exact BY (Heap.lt_size e)
 ·exact(hfp b hb).2.2.2.2.1 y c (S.sub y c h)
 ·obtain⟨_,_,_,h4,_⟩:=hfp b hb
  rcases h4 with h4|h4
  ·exact I.ok.noex b o e h4
  ·exact absurd (BO (Heap.lt_size e) (BS I.ok.bsz h4)) (Ck _)
 ·obtain⟨_,h2,h3,_⟩:=hfp b hb
  rcases BE.mp (I.stkSub b z) with q|q
  ·exact h2 q
  ·exact h3 q
 ·by_cases hi:i<bs.length
  ·rw[B2 (by rw[Bs];exact hi),Bx]at h2
   obtain⟨_,_,e⟩:=BU.mp h2
   cases e
  ·have hi:bs.length≤i:=Nat.le_of_not_lt hi
   have h1:(bs++caps)[i]? = some y:=h1
   rw[B1 hi]at h1
   rw[B1 (by rw[Bs];exact hi),Bs]at h2
   obtain⟨j,hj,hN⟩:=S.at_ _ y h1
   have hv:σ[j]? = some (some v):=by
    unfold qR at h2
    rw[Bx,hj]at h2
    have h2:(σ[j]?).getD none=some v:=Option.some.inj h2
    cases q:σ[j]? with
    | none=>rw[q]at h2;cases h2
    | some w=>rw[q]at h2;exact congrArg some h2
   obtain⟨c1,c2⟩:=S.cap y (BH h1)
   obtain⟨m0,_,hl⟩:=I.loc
   obtain⟨u,ru,lk⟩:=hl j y v hN hv (.inr (.inl c2))
   refine⟨u,ru,.inr ⟨.inl c1,?_⟩⟩
   obtain⟨c,hc⟩:=S.has y (.inl c1)
   rcases lk with ⟨lk,_⟩|⟨_,c',hc',hcell⟩
   ·have lk:X.env.scope.names.lookup y=some .local:=lk
    rw[c2]at lk
    cases lk
   ·have e:=S.sub y c hc
    rw[hc']at e
    cases e
    obtain⟨o,ho,hd⟩:=hcell
    exact⟨_,hc,o,hk _ _ ho,hd⟩
 ·obtain⟨v,o,ho,hd⟩:=I.cell y c (S.sub y c h)
  exact⟨v,o,hk _ _ ho,hd⟩
 ·exact I.freeC y c (S.sub y c h)
 ·have hp:p∈X.pn++f':=by
   rcases B7.mp hp with q|q
   ·exact q
   ·cases q
  obtain⟨h1,h2,h3,h4,h5⟩:=I.pin p hp
  refine⟨hk _ _ h1,h2,BY (Heap.lt_size h1),fun z=>?_,h5⟩
  rcases BE.mp (I.stkSub _ z) with q|q
  ·exact h3 q
  ·exact h4 q
 ·show(bs.map (fun _=>none)++qR σ js).length=(bs++caps).length
  unfold qR
  rw[Bv,Bv,Bs,Bs,S.len]
def bK{C:Addr}{σ':St}{H':Hp}{s':Shared}(I:Inv X f' σ H s)(hfp:∀b∈fp,tS X f' H b)(I':Inv (zG X scope cl bs caps C s H fp f') [] σ' H' s'):Inv X f' σ H' s':=
 I.call' (ch:=fp) I'.os I'.base I'.hok I'.bare fun b hb=>by
  obtain⟨_,h2,_,h4,h5,h6⟩:=hfp b hb
  exact⟨h4,h2,h5,h6⟩
def kb(gt:TG)(tt:TT)(te:TE)(k:Nat)(τ:St)(Q:V→Hp→Prop):It→Hp→Prop:=fun J H1=>∃n:Nat,n<sizeLine∧∀D,H1 D=none→∃(Pv:Nat→List V→Hp→Prop)(Nx:Nat→V→List V→Hp→Prop),
 Pv 0 [] (upd H1 D (.lst []))∧(∀i ys H2,i≤n→Pv i ys H2→H2 D=some (.lst ys)∧ys.length≤i)∧
 (∀i ys H2,i<n→Pv i ys H2→J.go i H2∧∀v H3,J.yld i H2 v H3→Nx i v ys H3)∧(∀ys H2,Pv n ys H2→J.stop n H2)∧
 (∀i v ys H2 (σ0:St),i<n→Nx i v ys H2→σ0.length=k→gt v (σ0++τ) H2 fun σ1 H3=>(∃σ2:St,σ1=σ2++τ∧σ2.length=k)∧tt σ1 H3 fun b H4=>
  if b=true then te σ1 H4 fun y H5=>H5 D=some (.lst ys)∧Pv (i+1) (ys++[y]) (upd H5 D (.lst (ys++[y]))) else Pv (i+1) ys H4)∧∀ys H2,Pv n ys H2→Q (.ref D) H2
def gY(wi:TI)(gt:TG)(tt:TT)(te:TE)(k:Nat)(js:List Nat):TE:=fun σ H Q=>wi σ H (kb gt tt te k (qR σ js) Q)
theorem gf{elt tg iter:Expr}{ifs:List Expr}{pos:Pos}{it D:Addr}{n:Nat}{J:It}{Nx:Nat→V→List V→Hp→Prop}{τ:St}{tn:Nat→Heap→Prop}{gt:TG}{tt:TT}{te:TE}{R:Result→Shared→Prop}{s₄:Shared}{Pv:Nat→List V→Hp→Prop}{C:Addr}(hc:X.calm=true)
  (hg:PG (zG X scope cl bs caps C s H fp f') tg gt) (ht':PC (zG X scope cl bs caps C s H fp f') ifs tt)
  (he:PE (zG X scope cl bs caps C s H fp f') elt te) {σ0:St} (hσ0:σ0.length=bs.length) (I:Inv (zG X scope cl bs caps C s H fp f') [] (σ0++τ) H s₄) (T:mz X.prog X.w X.K tg J fp it tn) (t0:tn 0 s₄.heap)
  (hfp:∀b∈fp,tS (zG X scope cl bs caps C s H fp f') [] H b) (hn:n<sizeLine)
  (h0:Pv 0 [] H) (hl:∀i ys H2,i≤n→Pv i ys H2→H2 D=some (.lst ys)∧ys.length≤i)
  (hgo:∀i ys H2,i<n→Pv i ys H2→J.go i H2∧∀v H3,J.yld i H2 v H3→Nx i v ys H3) (hst:∀ys H2,Pv n ys H2→J.stop n H2)
  (ht:∀i v ys H2 (σ0:St),i<n→Nx i v ys H2→σ0.length=bs.length→gt v (σ0++τ) H2 fun σ1 H3=>(∃σ2:St,σ1=σ2++τ∧σ2.length=bs.length)∧tt σ1 H3 fun b H4=>
   if b=true then te σ1 H4 fun y H5=>H5 D=some (.lst ys)∧Pv (i+1) (ys++[y]) (upd H5 D (.lst (ys++[y]))) else Pv (i+1) ys H4)
  (hR:∀σ' H' ys s',Inv (zG X scope cl bs caps C s H fp f') [] σ' H' s'→Pv n ys H'→R (.ok .next) s'):
  codeAny (model X.prog X.w) X.A (.compStart (.ListComp elt [⟨tg,iter,ifs,0⟩] scope pos) 0 (.ref it) (.ref D) (compEnvC scope cl C X.env)) R s₄:=by
 have loop:codeAny (model X.prog X.w) X.A (.compLoop (.ListComp elt [⟨tg,iter,ifs,0⟩] scope pos) 0 (.ref it) (.ref D) (compEnvC scope cl C X.env)) R s₄:=by
  refine u_ (fun k s'=>∃i ys,∃σ1:St,∃H',k=n+1-i∧i≤n∧σ1.length=bs.length∧Inv (zG X scope cl bs caps C s H fp f') [] (σ1++τ) H' s'∧tn i s'.heap∧(∀b∈fp,tS (zG X scope cl bs caps C s H fp f') [] H' b)∧Pv i ys H') ?_ (n+1) ⟨0,[],σ0,H,rfl,B4 _,hσ0,I,t0,hfp,h0⟩
  rintro k s' ⟨i,ys,σ1,H',rfl,hi,hσ1,I',tn',hfp',hp⟩
  obtain⟨q2,q3⟩:=hl i ys H' hi hp
  by_cases hlt:i<n
  ·obtain⟨g,gy⟩:=hgo i ys H' hlt hp
   refine wpAny_mono (T.item (zG X scope cl bs caps C s H fp f') rfl rfl rfl hc i [] s' (σ1++τ) H' (notedBy (model X.prog X.w) X.A (compEnvC scope cl C X.env) fun e s'=>R (.error e) s') I' hfp' tn' g) (fun r s1 zz=>?_) fun _ _ z=>z
   obtain⟨u,er,hq⟩:=zz
   subst er
   refine wpAny_mono hq (fun _ s1' hq'=>?_) fun _ _ z=>z
   obtain⟨v,H1,I1,rv,yv,tn1,fn1⟩:=hq'
   have hv:=gy v H1 yv
   have hfp1:∀b∈fp,tS (zG X scope cl bs caps C s H fp f') [] H1 b:=fun b hb=>⟨fn1 b hb,(hfp' b hb).2⟩
   have hpin:∀b∈fp,∃o,s1'.heap.get? b=some o∧∀v,o.data≠.cell v:=T.obj (i+1) s1'.heap tn1
   have IP:Inv (zG X scope cl bs caps C s H fp f') (va fp s1'.heap) (σ1++τ) H1 s1':=by
    have:=I1.pinned hfp1 hpin
    rw[List.nil_append]at this
    exact this
   refine wpAny_mono (hg (va fp s1'.heap) s1' (σ1++τ) H1 v u _ IP rv (ht i v ys H1 σ1 hlt hv hσ1)) (fun _ s2 h2=>?_) fun _ _ z=>z.elim
   obtain⟨σ2',H2,I2,⟨σ2,e2,l2⟩,w2⟩:=h2
   subst e2
   refine wpAny_mono (ht' (va fp s1'.heap) s2 (σ2++τ) H2 _ (fun _ _=>False) (fun _ _ z=>z) I2 w2) (fun b s3 h3=>?_) fun _ _ z=>z.elim
   obtain⟨H3,I3,w3⟩:=h3
   have pinned:∀{s4:Shared}{H4:Hp}{σ4:St},Inv (zG X scope cl bs caps C s H fp f') (va fp s1'.heap) σ4 H4 s4→∀b∈fp,∀o,s1'.heap.get? b=some o→s4.heap.get? b=some o∧H4 b=none:=fun I4 b hb o e=>
    have z:=I4.pin (b,o) (Cr _ (sK hb e))
    ⟨z.1,z.2.1⟩
   cases b with
   | false=>
    have w3:Pv (i+1) ys H3:=w3
    show ∃m,m<n+1-i∧_
    refine⟨n+1-(i+1),by omega,i+1,ys,σ2,H3,rfl,hlt,l2,I3.pins_of (fun p z=>nomatch z),T.keep _ _ _ tn1 fun b hb o e=>(pinned I3 b hb o e).1,fun b hb=>⟨?_,(hfp' b hb).2⟩,w3⟩
    obtain⟨o,e,_⟩:=hpin b hb
    exact(pinned I3 b hb o e).2
   | true=>
    show wpAny _ _ _ _ _ _
    refine wpAny_mono (he (va fp s1'.heap) s3 (σ2++τ) H3 _ I3 w3) (fun y s4 h4=>?_) fun _ _ z=>z.elim
    obtain⟨y',H4,I4,ry,hD,hp4⟩:=h4
    refine wpAny_mono (qF (X:=zG X scope cl bs caps C s H fp f') (va fp s1'.heap) s4 (σ2++τ) H4 (.ref D) [y'] (.ref D) [y] (fun _ H5=>H5=upd H4 D (.lst (ys++[y']))) I4 rfl (.cons ry .nil) ⟨D,ys,y',rfl,rfl,hD,by omega,rfl⟩) (fun _ s5 h5=>?_) fun _ _ z=>z.elim
    obtain⟨_,H5,I5,_,e5⟩:=h5
    subst e5
    refine⟨n+1-(i+1),by omega,i+1,ys++[y'],σ2,_,rfl,hlt,l2,I5.pins_of (fun p z=>nomatch z),T.keep _ _ _ tn1 fun b hb o e=>(pinned I5 b hb o e).1,fun b hb=>⟨?_,(hfp' b hb).2⟩,hp4⟩
    obtain⟨o,e,_⟩:=hpin b hb
    exact(pinned I5 b hb o e).2
  ·have e:i=n:=by omega
   subst e
   refine wpAny_mono (T.done (zG X scope cl bs caps C s H fp f') rfl rfl rfl hc i [] s' (σ1++τ) H' (fun _ _=>False) I' hfp' tn' (hst ys H' hp)) (fun r s1 zz=>?_) fun _ _ z=>z.elim
   obtain⟨er,I1⟩:=zz
   subst er
   exact hR _ H' ys s1 I1 hp
 exact codeAny_compStart_list loop (T.self X.A 0 s₄ _ _ t0 loop)
theorem nH{elt tg iter:Expr}{ifs:List Expr}{pos:Pos}{gt:TG}{tt:TT}{te:TE}{Q:V→Hp→Prop}{s2:Shared}{it:Addr}{tn:Nat→Heap→Prop}{J:It}{H':Hp}{RR:Value→Addr→Result→Shared→Prop}{E:cp}(hc:X.calm=true)(S:rR X scope cl bs caps js)
  (hg:∀C s H fp f',PG (zG X scope cl bs caps C s H fp f') tg gt) (ht':∀C s H fp f',PC (zG X scope cl bs caps C s H fp f') ifs tt)
  (he:∀C s H fp f',PE (zG X scope cl bs caps C s H fp f') elt te) (I2:Inv X f' σ H' s2) (T:mz X.prog X.w X.K tg J fp it tn) (t0:tn 0 s2.heap) (hfp:∀b∈fp,tS X f' H' b) (hr:kb gt tt te bs.length (qR σ js) Q J H')
  (hRR:∀D C H3 s',Inv X f' σ H3 s'→(∃m,s'.heap.Ns C m)→H3 C=none→C≠X.env.locals→X.s₀.heap.objs.size≤C→(∀y c,X.env.cells.lookup y=some c→c≠C)→(∀p∈X.pn++f',p.1≠C)→Q (.ref D) H3→
   RR (.ref D) C (.ok .next) s'):
  wpAny (model X.prog X.w) X.A (newList []) (fun acc s₃=>wpAny (model X.prog X.w) X.A (newFunctionEnv scope X.env.globals cl [] X.env.qual none .none (some X.env)) (fun cenv s₄=>
   codeAny (model X.prog X.w) X.A (.compStart (.ListComp elt [⟨tg,iter,ifs,0⟩] scope pos) 0 (.ref it) acc { cenv with scope:=relabel scope X.env }) (RR acc cenv.locals) s₄) E s₃) E s2:=by
 obtain⟨n,hn,hD⟩:=hr
 obtain⟨Pv,Nx,h0,hl,hgo,hst,ht,hd⟩:=hD s2.heap.objs.size I2.fresh
 refine wpAny_newObj_type (wpAny_newFunctionEnv S.cell (by intro y hy;simp at hy) (fun h₁ hns₁ hsb₁=>?_) S.kind)
 dsimp only at hns₁ hsb₁ ⊢
 have I3:Inv X f' σ (upd H' s2.heap.objs.size (.lst [])) { s2 with heap:=s2.heap.push { cls:=.type "list",data:=.seq ([]:List Value).toArray } }:=I2.lnew (its:=[]) (t':=s2.toks) .nil (by show 0≤sizeLine;omega)
 have hob:=T.obj 0 s2.heap t0
 have keep:∀b o,(s2.heap.push { cls:=.type "list",data:=.seq ([]:List Value).toArray }).get? b=some o→h₁.get? b=some o:=fun b o e=>
  hsb₁.extBut b o (BY (Heap.lt_size e)) (Heap.get?_push_of_some _ e)
 have fp3:∀b∈fp,tS X f' (upd H' s2.heap.objs.size (.lst [])) b:=fun b hb=>by
  obtain⟨o,e,_⟩:=hob b hb
  exact⟨(zC (BY (Heap.lt_size e))).trans (hfp b hb).1,(hfp b hb).2⟩
 have IY:=bJ (t:=s2.toks+([]:List (Str×Value)).length) I3 S fp3 (fun b hb=>by
  obtain⟨o,e,_⟩:=hob b hb
  exact⟨o,Heap.get?_push_of_some _ e⟩) hns₁ keep
 refine gf (D:=s2.heap.objs.size) (n:=n) (Nx:=Nx) (Pv:=Pv) hc (hg _ _ _ _ _) (ht' _ _ _ _ _) (he _ _ _ _ _) (Bs _) IY T (T.keep _ _ _ t0 fun b hb o e=>keep b o (Heap.get?_push_of_some _ e)) (fun b hb=>?_) hn h0 hl hgo hst ht (fun σ' H3 ys s' I' hp=>?_)
 ·obtain⟨f1,f2,f3,f4,f5,f6⟩:=fp3 b hb
  obtain⟨o,e,_⟩:=hob b hb
  refine⟨f1,BY (Heap.lt_size (Heap.get?_push_of_some _ e)),fun z=>?_,.inl hb,fun y c h=>f5 y c (S.sub y c h),fun p hp=>?_⟩
  ·rcases BE.mp (I3.stkSub b z) with q|q
   ·exact f2 q
   ·exact f3 q
  ·rcases B7.mp hp with q|q
   ·exact f6 p q
   ·cases q
 ·obtain⟨m,hn,_⟩:=I'.loc
  refine hRR _ _ H3 s' (bK I3 fp3 I') ⟨m,hn⟩ I'.free (Nat.ne_of_gt I3.lt) I3.sz (fun y c h z=>?_) (fun p hp z=>?_) (hd ys H3 hp)
  ·obtain⟨v,q⟩:=I3.cell y c h
   exact absurd q.lt (by rw[z];exact Ck _)
  ·exact absurd (Heap.lt_size (I3.pin p hp).1) (by rw[z];exact Ck _)
theorem Zk{elt tg iter:Expr}{ifs:List Expr}{pos:Pos}{wi:TI}{gt:TG}{tt:TT}{te:TE}(hc:X.calm=true)(S:rR X scope cl bs caps js)(hl:PI X tg iter wi)(hg:∀C s H fp f',PG (zG X scope cl bs caps C s H fp f') tg gt)
  (ht':∀C s H fp f',PC (zG X scope cl bs caps C s H fp f') ifs tt) (he:∀C s H fp f',PE (zG X scope cl bs caps C s H fp f') elt te)
  (hs:∀y,foldedSetIterable iter X.env y=pure y:=by intro _;rfl):PE X (.ListComp elt [⟨tg,iter,ifs,0⟩] scope pos) (gY wi gt tt te bs.length js):=by
 intro f' s σ H Q I h
 rw[eval_ListComp]
 refine wpAny_comprehension_free (use:=none) rfl hs S.clos S.kind S.names (thn (hl f' s σ H (kb gt tt te bs.length (qR σ js) Q) I h) fun v s1 h1=>thn h1 fun itv s2 h2=>?_)
 obtain⟨it,fp,tn,J,H',rfl,I2,T,t0,hfp,hr⟩:=h2
 refine nH (RR:=fun acc C=>compPost (model X.prog X.w) X.A X.xe none (EP X f' σ Q) acc C) hc S hg ht' he I2 T t0 hfp hr ?_
 intro D C H3 s' I' ⟨m,hn⟩ hC h1 h2 h3 h4 q
 exact⟨m,hn,fun h' hs'=>⟨.ref D,H3,I'.turned (it:=C) (fun b o hb e=>hs'.extBut b o hb e) hC h1 (.inr h2) h3 h4,rfl,q⟩⟩
theorem qX{elt tg iter:Expr}{ifs:List Expr}{y:Str}{i:Nat}{py pos spos:Pos}{wi:TI}{gt:TG}{tt:TT}{te:TE}(hc:X.calm=true)(S:rR X scope cl bs caps js)(hN:X.N.Nodup)(hi:X.N[i]? = some y)(hy:Loc X.env.scope y)(hl:PI X tg iter wi)(hg:∀C s H fp f',PG (zG X scope cl bs caps C s H fp f') tg gt)
  (ht':∀C s H fp f',PC (zG X scope cl bs caps C s H fp f') ifs tt) (he:∀C s H fp f',PE (zG X scope cl bs caps C s H fp f') elt te)
  (hsw:swapsWith (.ListComp elt [⟨tg,iter,ifs,0⟩] scope pos) (some (.Name y py)) spos.line X.env=pure true) (hs:∀y,foldedSetIterable iter X.env y=pure y:=by intro _;rfl)
  (hf:X.fn y=true∨X.env.scope.names.lookup y=some .local:=by walk_at "f"):
  PS X (.Assign [.Name y py] (.ListComp elt [⟨tg,iter,ifs,0⟩] scope pos) spos) (TQ (gY wi gt tt te bs.length js) (iQ i)):=by
 intro f' s σ H D I h
 rw[exec_Assign_Name_used _ _ _ _ hsw]
 refine wpAny_bind (wpAny_standAt (wpAny_bind ?_))
 show wpAny _ X.A (do let _ ←comprehension (.ListComp elt [⟨tg,iter,ifs,0⟩] scope pos) scope X.env _ (newList []) false (eval iter X.env) (some (assign (.Name y py) X.env))) _ _ s
 refine wpAny_bind (wpAny_mono (wpAny_comprehension_free (use:=some (assign (.Name y py) X.env)) (Q:=fun _ s'=>SP X f' D .next s') rfl hs S.clos S.kind S.names (thn (hl f' s σ H (kb gt tt te bs.length (qR σ js) fun v H1=>iQ i v σ H1 D.nx) I h) fun v s1 h1=>thn h1 fun itv s2 h2=>?_))
  (fun _ s' hq=>wpAny_pure (wpAny_pure hq)) fun _ _ e=>e)
 obtain⟨it,fp,tn,J,H',rfl,I2,T,t0,hfp,hr⟩:=h2
 refine nH (RR:=fun acc C=>compPost (model X.prog X.w) X.A X.xe (some (assign (.Name y py) X.env)) (fun _ s'=>SP X f' D .next s') acc C) hc S hg ht' he I2 T t0 hfp hr ?_
 intro A C H3 s' I' ⟨m,hn⟩ hC h1 h2 h3 h4 q
 refine wpAny_assign_Name (mH I' hN hi hy (v:=.ref A) rfl (fun s3 I3 zz=>?_) hf)
 obtain⟨b,hb,hbb⟩:=zz
 have hCb:C≠b:=by
  rcases hbb with e|e
  ·rw[e];exact h1
  ·exact fun z=>h3 y b e z.symm
 exact⟨m,hn.sameBut hb hCb,fun h' hs'=>⟨_,H3,I3.turned (it:=C) (fun b o hb e=>hs'.extBut b o hb e) hC h1 (.inr h2) h3 h4,q⟩⟩
end
end OD
namespace OD
variable{Z:Hp}
open PySem PySem.Spec PyProof.Rows L2
def rK(osc scope:Scope)(bs caps:List Str)(js:List Nat)(N:List Str):Bool:=
 scope.names.all (fun y=>y.2 != .cell&&(y.2 != .local||scope.names.lookup y.1==some .local)&&(y.2 != .free||(osc.names.lookup y.1==some .cell && !bs.contains y.1)))&&(scope.kind == .function)&&(osc.kind == .function)&&bs.all (fun x=>scope.names.lookup x==some .local) &&
 decide (bs++caps).Nodup&&(js.map (fun j=>N[j]?)==caps.map some)&&caps.all (fun y=>scope.names.lookup y==some .free&&osc.names.lookup y==some .cell)
def jh{X:Cx}{osc scope:Scope}{bs:List Str}{caps:List Str}{js:List Nat}{L:Addr}(h:rK osc scope bs caps js X.N=true)(he:X.env.scope=osc)(hc:X.env.cells=cellsFrom (L+1) osc.names []):rR X scope (ve X.env.cells scope.names) bs caps js:=by
 unfold rK at h
 simp only[Bool.and_eq_true]at h
 obtain⟨⟨⟨⟨⟨⟨h1,h2⟩,h3⟩,h4⟩,h5⟩,h6⟩,h7⟩:=h
 rw[Co]at h1 h4 h7
 have hfree:∀y,(y,NameKind.free)∈scope.names→osc.names.lookup y=some .cell∧bs.contains y=false:=fun y hy=>by
  have q:=h1 _ hy
  rw[BL,BL]at q
  have q:(osc.names.lookup y==some .cell && !bs.contains y)=true:=q.2
  rw[BL]at q
  exact⟨eq_of_beq q.1,by cases z:bs.contains y with|false=>rfl|true=>rw[z]at q;cases q.2⟩
 have hcell:∀y,osc.names.lookup y=some .cell→∃c,X.env.cells.lookup y=some c:=fun y hy=>by rw[hc];exact nI hy
 have hfc:∀y,(y,NameKind.free)∈scope.names→∃c,X.env.cells.lookup y=some c:=fun y hy=>hcell y (hfree y hy).1
 have hk:X.env.scope.kind=.function:=by rw[he];exact eq_of_beq h3
 have hj:js.map (fun j=>X.N[j]?)=caps.map some:=eq_of_beq h6
 refine⟨X_ hfc,fun y c q=>(mem_clOf.mp (PySem.mem_of_lookup q)).2,fun y q=>?_,fun x hx=>?_,fun y hy e=>?_,eq_of_beq h2,fun y hy e=>?_,fun x hx=>eq_of_beq (h4 x hx),of_decide_eq_true h5,?_,fun k y q=>?_,fun y hy=>?_⟩
 ·have:(y,NameKind.free)∈scope.names:=by
   have mem:∃k,(y,k)∈(relabel scope X.env).names∧(k=.cell∨k=.free):=by
    rcases q with q|q
    ·exact⟨_,PySem.mem_of_lookup q,.inl rfl⟩
    ·exact⟨_,PySem.mem_of_lookup q,.inr rfl⟩
   obtain⟨k,hm,hk'⟩:=mem
   obtain⟨⟨n,k0⟩,hn,e⟩:=BR.mp hm
   have ncell:k0≠.cell:=fun z=>by
    have q:=h1 _ hn
    rw[BL,BL]at q
    exact absurd z (bne_iff_ne.mp q.1.1)
   dsimp only at e
   split at e
   ·rename_i hz
    rw[BL,BL]at hz
    obtain rfl:=eq_of_beq hz.1.1
    cases e
    exact hn
   ·cases e
    rcases hk' with z|z
    ·exact absurd z ncell
    ·rw[z]at hn;exact hn
  obtain⟨c,hc'⟩:=hfc y this
  exact ng (mem_clOf.mpr ⟨this,hc'⟩)
 ·cases q:(ve X.env.cells scope.names).lookup x with
  | none=>rfl
  | some c=>
   have z:=(hfree x (mem_clOf.mp (PySem.mem_of_lookup q)).1).2
   rw[List.contains_iff_mem.mpr hx]at z
   cases z
 ·have q:=h1 y hy
  rw[BL,BL]at q
  exact absurd e (bne_iff_ne.mp q.1.1)
 ·have q:=h1 y hy
  rw[BL,BL,e]at q
  exact eq_of_beq (show(scope.names.lookup y.1==some .local)=true from q.1.2)
 ·have:=congrArg List.length hj
  rwa [Bs,Bs]at this
 ·have e:(js.map fun j=>X.N[j]?)[k]? = (caps.map some)[k]?:=by rw[hj]
  rw[Bx,Bx,q]at e
  obtain⟨j,hj1,hj2⟩:=BU.mp e
  exact⟨j,hj1,hj2⟩
 ·have q:=h7 y hy
  rw[BL]at q
  have q2:X.env.scope.names.lookup y=some .cell:=by rw[he];exact eq_of_beq q.2
  exact⟨xS hk (eq_of_beq q.1) q2,q2⟩
def d8{K:Bq}{F:Hp}{W W2:Vw}{ρ:DS}{σ:St}{js:List Nat}{ds:List Dt}{vs:List V}(r:Rl K Z F W ρ σ)(s2:Same W.g W2.g)(i:AllIs K W2.g ds vs):Rl K (fun _=>none) W2.h W2 (ds.map Sl.some++sR ρ js) (vs.map some++qR σ js):=by
 have no:∀(j:Nat)(es:List Dt),(ds.map Sl.some++sR ρ js)[j]? = some (.own es)→False:=fun j es q=>by
  have q:=BH q
  rcases B7.mp q with q|q
  ·obtain⟨_,_,e⟩:=BR.mp q
   cases e
  ·unfold sR at q
   obtain⟨j,_,e⟩:=BR.mp q
   split at e<;>cases e
 have noO:∀(j:Nat)(φ:ObP),(ds.map Sl.some++sR ρ js)[j]? = some (.obj φ)→False:=fun j φ q=>by
  have q:=BH q
  rcases B7.mp q with q|q
  ·obtain⟨_,_,e⟩:=BR.mp q
   cases e
  ·unfold sR at q
   obtain⟨j,_,e⟩:=BR.mp q
   split at e<;>cases e
 have noA:∀(j:Nat)(a:Addr)(es:List Dt),(ds.map Sl.some++sR ρ js)[j]? = some (.arg a es)→False:=fun j a es q=>by
  have q:=BH q
  rcases B7.mp q with q|q
  ·obtain⟨_,_,e⟩:=BR.mp q
   cases e
  ·unfold sR at q
   obtain⟨j,_,e⟩:=BR.mp q
   split at e<;>cases e
 refine⟨by unfold sR qR;rw[List.length_append,List.length_append,List.length_map,List.length_map,List.length_map,List.length_map,i.length],fun j e q=>?_,fun j ds q=>(no j ds q).elim,fun j j' ds ds' _ q _=>(no j ds q).elim,Same.refl _,(fun _ _ q=>nomatch q),fun j a ds q=>(noA j a ds q).elim,fun j φ q=>(noO j φ q).elim⟩
 by_cases hj:j<ds.length
 ·rw[B2 (by rw[Bs];exact hj),Bx]at q
  obtain⟨d,hd,e1⟩:=BU.mp q
  cases e1
  obtain⟨v,hv,iv⟩:=i.get hd
  exact⟨v,by rw[B2 (by rw[Bs,←i.length];exact hj),Bx,hv];rfl,iv⟩
 ·have hj:ds.length≤j:=Nat.le_of_not_lt hj
  rw[B1 (by rw[Bs];exact hj),Bs]at q
  rw[B1 (by rw[Bs,←i.length];exact hj),Bs,←i.length]
  unfold sR at q
  rw[Bx]at q
  obtain⟨k,hk,e2⟩:=BU.mp q
  split at e2
  ·rename_i d' hd
   cases e2
   obtain⟨u,hu,iu⟩:=r.at_ k e hd
   refine⟨u,?_,Is.mono0 s2 iu⟩
   unfold qR
   rw[Bx,hk]
   show some ((σ[k]?).getD none)=_
   rw[hu]
   rfl
  ·cases e2
abbrev DTI:=DS→(Nat→(Nat→Dt→Prop)→Prop)→Prop
def LiI(K:Bq)(Z:Hp)(wi:TI)(di:DTI):Prop:=∀{F:Hp}(ρ:DS)(σ:St)(W:Vw)(Q:Nat→(Nat→Dt→Prop)→Prop),Rl K Z F W ρ σ→di ρ Q→∀R:It→Hp→Prop,
 (∀(J:It)(n:Nat)(vals:Nat→Dt→Prop)(W1:Vw),Le W W1→n≤100000→(∀W2:Vw,Same W1.g W2.g→(∀i,i<n→J.go i W2.h∧∀v H3,J.yld i W2.h v H3→∃W3:Vw,Le W2 W3∧W3.h=H3∧∃e,vals i e∧Is K W3.g e v)∧J.stop n W2.h)→Q n vals→R J W1.h)→wi σ W.h R
def DI(X:Cx)(tg iter:Expr)(di:DTI):Prop:=∃wi,PI X tg iter wi∧LiI X.K (Zx X) wi di
def LiG(K:Bq)(k:Nat)(gt:TG)(dg:Dt→List Dt→Prop):Prop:=∀(e:Dt)(v:V)(σ0 τ:St)(W:Vw)(as:List Dt),σ0.length=k→Is K W.g e v→dg e as→∀Q:St→Hp→Prop,
 (∀vs,AllIs K W.g as vs→vs.length=k→Q (vs.map some++τ) W.h)→gt v (σ0++τ) W.h Q
def h_:Dt→List Dt→Prop:=fun e as=>as=[e]
def vX{K:Bq}:LiG K 1 (iQ 0) h_:=by
 rintro e v σ0 τ W as hl i rfl Q q
 match σ0,hl with
 | [a],_=>exact q [v] (allIs_cons.mpr ⟨v,[],rfl,i,allIs_nil.mpr rfl⟩) rfl
def DC(X:Cx)(ifs:List Expr)(t:DTT):Prop:=∃tt,PC X ifs tt∧LiT X.K (Zx X) tt t
def tV:DTT:=fun _ Q=>Q true
def sQ{X:Cx}:DC X [] tV:=⟨_,Up,fun _ _ W _ _ h _ k=>k true W (Le.refl W) h⟩
def ZH(K:Bq)(t:DTT):TT:=fun σ H R=>∃(F:Hp)(ρ:DS)(W:Vw)(Q:Bool→Prop),W.h=H∧Rl K (fun _=>none) F W ρ σ∧t ρ Q∧∀d W',Le W W'→Q d→R d W'.h
def DC.up{X:Cx}{ifs:List Expr}{t:DTT}(h:DC X ifs t)(hz:X.stack.length=X.outer.length:=by rfl):PC X ifs (ZH X.K t):=by
 obtain⟨te,p,l⟩:=h
 intro f' s σ H R E hE I q
 obtain⟨F,ρ,W,Q,rfl,r,h,k⟩:=q
 have r':Rl X.K (Zx X) F W ρ σ:=by unfold Zx;rw[if_pos (Or.inl hz)];exact r
 exact p f' s σ W.h R E hE I (l ρ σ W Q r' h R k)
def nh{K:Bq}{t:DTT}:LiT K (fun _=>none) (ZH K t) t:=fun ρ σ H Q r h R k=>⟨_,ρ,H,Q,rfl,r,h,k⟩
def vd(js:List Nat)(di:DTI)(dg:Dt→List Dt→Prop)(tt:DTT)(te:DTE):DTE:=fun ρ Q=>di ρ fun n vals=>∃Pv:Nat→List Dt→Prop,Pv 0 []∧
 (∀(i:Nat) e es,i<n→vals i e→Pv i es→∃as,dg e as∧tt (as.map Sl.some++sR ρ js) fun b=>if b=true then te (as.map Sl.some++sR ρ js) fun y=>Pv (i+1) (es++[y]) else Pv (i+1) es)∧∀es,Pv n es→Q (.lst es)
def ni{K:Bq}{wi:TI}{gt:TG}{tt:TT}{te:TE}{di:DTI}{dg:Dt→List Dt→Prop}{dt:DTT}{u:DTE}{k:Nat}{js:List Nat}(h1:LiI K Z wi di)(hg:LiG K k gt dg)(ht':LiT K (fun _=>none) tt dt)(h2:LiE K (fun _=>none) te u):LiF K Z (gY wi gt tt te k js) (vd js di dg dt u):=by
 intro F ρ σ H Q r h R kk
 refine h1 ρ σ H _ r h _ fun J n vals W1 s1 hn hJ zz=>?_
 obtain⟨Pv,h0,ht,hd⟩:=zz
 have r1:=r.mono s1
 refine⟨n,Cj hn (by decide),fun D hD=>?_⟩
 have gD:W1.g D=none:=W1.sub.free hD
 have stp:∀{W2 W3:Vw}{ys:List V}{es:List Dt},Same W1.g W2.g∧Same W1.h (fun b=>if b=D then none else W2.h b)∧(∀b,W1.h b≠none→W1.g b=none→W2.g b=none)∧W2.h D=some (.lst ys)∧W2.g D=none∧AllIs K W2.g es ys→Le W2 W3→
   Same W1.g W3.g∧Same W1.h (fun b=>if b=D then none else W3.h b)∧(∀b,W1.h b≠none→W1.g b=none→W3.g b=none)∧W3.h D=some (.lst ys)∧W3.g D=none∧AllIs K W3.g es ys:=by
  rintro W2 W3 ys es ⟨s2,sh,sn,q1,q2,q3⟩ s3
  refine⟨s2.trans s3.g,fun b o q=>?_,fun b z1 z2=>?_,s3.h _ _ q1,s3.n D (by rw[q1];intro z;cases z) q2,q3.mono s3⟩
  ·have q':(if b=D then none else W2.h b)=some o:=sh b o q
   have hb:b≠D:=fun e=>by rw[e,hD]at q;cases q
   rw[if_neg hb]at q'
   show(if b=D then none else W3.h b)=some o
   rw[if_neg hb]
   exact s3.h _ _ q'
  ·have hb:b≠D:=fun e=>z1 (e ▸ hD)
   have z3:=sn b z1 z2
   refine s3.n b ?_ z3
   cases q:W1.h b with
   | none=>exact absurd q z1
   | some o=>
    have q':(if b=D then none else W2.h b)=some o:=sh b o q
    rw[if_neg hb]at q'
    rw[q']
    intro z;cases z
 refine⟨fun i ys H2=>∃(W2:Vw)(es:List Dt),W2.h=H2∧(Same W1.g W2.g∧Same W1.h (fun b=>if b=D then none else W2.h b)∧(∀b,W1.h b≠none→W1.g b=none→W2.g b=none)∧W2.h D=some (.lst ys)∧W2.g D=none∧AllIs K W2.g es ys)∧ys.length≤i∧Pv i es,fun i v ys H2=>∃(W2:Vw)(es:List Dt)(e:Dt),W2.h=H2∧(Same W1.g W2.g∧Same W1.h (fun b=>if b=D then none else W2.h b)∧(∀b,W1.h b≠none→W1.g b=none→W2.g b=none)∧W2.h D=some (.lst ys)∧W2.g D=none∧AllIs K W2.g es ys)∧ys.length≤i∧Pv i es∧vals i e∧Is K W2.g e v,?_,?_,?_,?_,?_,?_⟩
 ·refine⟨W1.mine D (.lst []) gD,[],rfl,⟨Same.refl _,fun b o q=>?_,fun b _ q=>q,zB,gD,allIs_nil.mpr rfl⟩,By _,h0⟩
  have hb:b≠D:=fun e=>by rw[e,hD]at q;cases q
  show(if b=D then none else upd W1.h D (.lst []) b)=some o
  rw[if_neg hb,zC hb]
  exact q
 ·rintro i ys _ _ ⟨W2,es,rfl,⟨s2,_,_,q1,q2,_⟩,q4,_⟩
  exact⟨q1,q4⟩
 ·rintro i ys _ hi ⟨W2,es,rfl,hW2,q4,q5⟩
  obtain⟨g1,g2⟩:=(hJ W2 hW2.1).1 i hi
  refine⟨g1,fun v H3 y=>?_⟩
  obtain⟨W3,s3,e3,e,he,ie⟩:=g2 v H3 y
  exact⟨W3,es,e,e3,stp hW2 s3,q4,q5,he,ie⟩
 ·rintro ys _ ⟨W2,es,rfl,⟨s2,_⟩,_⟩
  exact(hJ W2 s2).2
 ·rintro i v ys _ σ0 hi ⟨W2,es,e,rfl,hW2,q4,q5,he,ie⟩ hσ0
  obtain⟨as,da,w⟩:=ht i e es hi he q5
  refine hg e v σ0 _ W2 as hσ0 ie da _ fun vs ivs lvs=>⟨⟨vs.map some,rfl,by rw[Bs];exact lvs⟩,?_⟩
  refine ht' (F:=W2.h) (as.map Sl.some++sR ρ js) (vs.map some++qR σ js) W2 _ (d8 r1 hW2.1 ivs) w _ fun b W3 s3 w3=>?_
  have hW3:=stp hW2 s3
  cases b with
  | false=>exact⟨W3,es,rfl,hW3,Nat.le_succ_of_le q4,w3⟩
  | true=>
   show te _ _ _
   refine h2 (F:=W3.h) (as.map Sl.some++sR ρ js) (vs.map some++qR σ js) W3 _ (d8 r1 hW3.1 (ivs.mono s3)) w3 _ fun y w W4 s4 i4 q6=>?_
   obtain⟨a1,a2,a3,a4,a5,a6⟩:=stp hW3 s4
   refine⟨a4,W4.mine D (.lst (ys++[w])) a5,es++[y],rfl,⟨a1,fun b o q=>?_,a3,zB,a5,a6.append (allIs_cons.mpr ⟨w,[],rfl,i4,allIs_nil.mpr rfl⟩)⟩,by rw[Bv];exact Nat.succ_le_succ q4,q6⟩
   have q':(if b=D then none else W4.h b)=some o:=a2 b o q
   have hb:b≠D:=fun e=>by rw[e,hD]at q;cases q
   rw[if_neg hb]at q'
   show(if b=D then none else upd W4.h D (.lst (ys++[w])) b)=some o
   rw[if_neg hb,zC hb]
   exact q'
 ·rintro ys _ ⟨W2,es,rfl,⟨s2,sh,sn,q1,q2,q3⟩,_,q5⟩
  refine kk es D ys W2 (s1.trans ⟨s2,fun b o q=>?_,sn⟩) (s1.h.free hD) q1 q2 q3 (hd es q5)
  have q':(if b=D then none else W2.h b)=some o:=sh b o q
  have hb:b≠D:=fun e=>by rw[e,hD]at q;cases q
  rwa [if_neg hb]at q'
def h8(ta:DTE):DTI:=fun ρ Q=>ta ρ fun d=>∃ds,xc d=some ds∧ds.length≤100000∧Q ds.length fun i e=>ds[i]? = some e
def UY(ta:DTE):DTI:=fun ρ Q=>ta ρ fun d=>∃m:Int,d=.int m∧-(2^62)≤m∧m≤100000∧Q m.toNat fun i e=>e=.int i
section
variable{X:Cx}{fr:Fr}{osc scope:Scope}{bs caps:List Str}{js:List Nat}{N0:List Str}{L:Addr}{tg iter elt a:Expr}{ifs:List Expr}{ta te:DTE}{di:DTI}{tt:DTT}{dg:Dt→List Dt→Prop}{gt:TG}{p0 pos pos1:Pos}
def cB(h:DE X iter ta):DI X tg iter (h8 ta):=by
 obtain⟨te,p,l⟩:=h
 refine⟨_,kf p,fun ρ σ W Q r h R k=>l ρ σ W _ r h _ fun d v W1 s1 i1 zz=>?_⟩
 obtain⟨ds,el,hl,q⟩:=zz
 obtain⟨a,xs,rfl,hq,ha⟩:=sN i1 el
 refine⟨a,rfl,⟨xs,hq W1 (Same.refl _)⟩,k _ _ _ W1 s1 hl (fun W2 s2=>⟨fun i hi=>?_,?_⟩) q⟩
 ·rw[ha.length]at hi
  have hv:=Bu hi
  refine⟨⟨xs,_,hq W2 s2,hv⟩,fun v' H3 ⟨e1,e2⟩=>⟨W2,Le.refl _,e1.symm,?_⟩⟩
  obtain⟨e,he,ie⟩:=ha.get' (e2 xs (hq W2 s2))
  exact⟨e,he,Is.mono0 s2 ie⟩
 ·exact⟨xs,hq W2 s2,by rw[ha.length];exact By _⟩
def hG(hg:Gl X "range")(hm:X.mg "range"=none)(h:DE X a ta)(hst:starEach [a] X.env=[(false,eval a X.env)]:=by rfl)(hst2:starEach [a] X.env=(false,eval a X.env)::starEach [] X.env:=by rfl):DI X tg (.Call (.Name "range" p0) [a] [] pos1) (UY ta):=by
 obtain⟨te,p,l⟩:=h
 refine⟨_,bw hg hm p hst hst2,fun ρ σ W Q r h R k=>l ρ σ W _ r h _ fun d v W1 s1 i1 zz=>?_⟩
 obtain⟨m,ed,m1,m2,q⟩:=zz
 subst ed
 refine⟨m,is_int.mp i1,m1,by omega,k _ _ (fun i e=>e=.int i) W1 s1 (by omega) (fun W2 s2=>⟨fun i hi=>⟨hi,fun v H3 ⟨e1,e2⟩=>⟨W2,Le.refl _,e1.symm,.int i,rfl,?_⟩⟩,By _⟩) q⟩
 rw[Int.zero_add]at e2
 exact is_int.mpr e2
theorem u6(hc:X.calm=true)(S:rK osc scope bs caps js N0=true)(hN0:X.N=N0)(he':X.env.scope=osc)(hcs:X.env.cells=cellsFrom (L+1) osc.names [])(hl:DI X tg iter di)
  (hg:∀C s H fp f',PG (zG X scope (ve X.env.cells scope.names) bs caps C s H fp f') tg gt) (lg:LiG X.K bs.length gt dg)
  (ht:∀C s H fp f',DC (zG X scope (ve X.env.cells scope.names) bs caps C s H fp f') ifs tt)
  (he:∀C s H fp f',DE (zG X scope (ve X.env.cells scope.names) bs caps C s H fp f') elt te) (hs:∀y,foldedSetIterable iter X.env y=pure y:=by intro _;rfl):
  DF X (.ListComp elt [⟨tg,iter,ifs,0⟩] scope pos) (vd js di dg tt te):=by
 obtain⟨wi,p,l⟩:=hl
 exact⟨_,Zk hc (jh (hN0 ▸ S) he' hcs) p hg (fun C s H fp f'=>(ht C s H fp f').up) (fun C s H fp f'=>(he C s H fp f').up) hs,ni l lg nh kI⟩
theorem i6{y:Str}{i:Nat}{py spos:Pos}(hc:X.calm=true)(S:rK osc scope bs caps js N0=true)(hN0:X.N=N0)(he':X.env.scope=osc)(hcs:X.env.cells=cellsFrom (L+1) osc.names [])(hN:X.N.Nodup)(hi:X.N[i]? = some y)(hy:Loc X.env.scope y)(hl:DI X tg iter di)
  (hg:∀C s H fp f',PG (zG X scope (ve X.env.cells scope.names) bs caps C s H fp f') tg gt) (lg:LiG X.K bs.length gt dg)
  (ht:∀C s H fp f',DC (zG X scope (ve X.env.cells scope.names) bs caps C s H fp f') ifs tt)
  (he:∀C s H fp f',DE (zG X scope (ve X.env.cells scope.names) bs caps C s H fp f') elt te)
  (hsw:swapsWith (.ListComp elt [⟨tg,iter,ifs,0⟩] scope pos) (some (.Name y py)) spos.line X.env=pure true:=by rfl) (hs:∀y,foldedSetIterable iter X.env y=pure y:=by intro _;rfl)
  (hf:X.fn y=true∨X.env.scope.names.lookup y=some .local:=by walk_at "f"):
  DSt X fr (.Assign [.Name y py] (.ListComp elt [⟨tg,iter,ifs,0⟩] scope pos) spos) (cI i (vd js di dg tt te)):=by
 obtain⟨wi,p,l⟩:=hl
 refine⟨_,qX hc (jh (hN0 ▸ S) he' hcs) hN hi hy p hg (fun C s H fp f'=>(ht C s H fp f').up) (fun C s H fp f'=>(he C s H fp f').up) hsw hs hf,fun W0 G ρ σ W D D' a s h=>ni l lg nh kI ρ σ W _ a.rl h _ fun es q xs W1 s1 h0 h1 h2 i1 zz=>?_⟩
 obtain⟨ds,ed,q1⟩:=zz
 cases ed
 exact s.nx _ _ W1 (a.own s1 i h0 h1 h2 i1) q1
theorem k_{y:Str}{i:Nat}{py spos:Pos}(hc:X.calm=true)(S:rK osc scope bs caps js N0=true)(hN0:X.N=N0)(he':X.env.scope=osc)(hcs:X.env.cells=cellsFrom (L+1) osc.names [])(hN:X.N.Nodup)(hi:X.N[i]? = some y)(hy:Loc X.env.scope y)(hl:DI X tg iter di)
  (hg:∀C s H fp f',PG (zG X scope (ve X.env.cells scope.names) bs caps C s H fp f') tg gt) (lg:LiG X.K bs.length gt dg)
  (ht:∀C s H fp f',DC (zG X scope (ve X.env.cells scope.names) bs caps C s H fp f') ifs tt)
  (he:∀C s H fp f',DE (zG X scope (ve X.env.cells scope.names) bs caps C s H fp f') elt te)
  (hsw:swapsWith (.ListComp elt [⟨tg,iter,ifs,0⟩] scope pos) (some (.Name y py)) spos.line X.env=pure true:=by rfl) (hs:∀y,foldedSetIterable iter X.env y=pure y:=by intro _;rfl)
  (hf:X.fn y=true∨X.env.scope.names.lookup y=some .local:=by walk_at "f"):
  DSt X fr (.Assign [.Name y py] (.ListComp elt [⟨tg,iter,ifs,0⟩] scope pos) spos) (MD i (vd js di dg tt te)):=by
 obtain⟨wi,p,l⟩:=hl
 exact⟨_,qX (te:=ZI X.K te) (tt:=ZH X.K tt) hc (jh (hN0 ▸ S) he' hcs) hN hi hy p hg (fun C s H fp f'=>(ht C s H fp f').up) (fun C s H fp f'=>(he C s H fp f').up) hsw hs hf,fun W0 G ρ σ W D D' a s h=>LiF.le (ni l lg (nh (t:=tt)) (kI (t:=te))) ρ σ W _ a.rl h _ fun d v W1 s1 i1 q1=>s.nx _ _ W1 ((a.step s1).set i i1) q1⟩
end
end OD
namespace OD
variable{Z:Hp}
open PySem PySem.Spec PyProof.Rows L2
section
variable{K:Bq}{F:Hp}{W W' W0:Vw}
def NewL.mono{d:Dt}{v:V}(h:NewL K F W d v)(s:Le W W'):NewL K F W' d v:=by
 obtain⟨es,p,xs,h1,h2,h3,h4,h5,h6⟩:=h
 exact⟨es,p,xs,h1,h2,h3,s.h _ _ h4,s.n p (by rw[h4];intro z;cases z) h5,h6.mono s⟩
def Prt.mono{b:Bool}{d:Dt}{v:V}(h:Prt K F W b d v)(s:Le W W'):Prt K F W' b d v:=by
 cases b with
 | false=>exact Is.mono h s
 | true=>
  rcases h with h|⟨h1,h2⟩
  ·exact .inl (h.mono s)
  ·exact .inr ⟨h1,Is.mono h2 s⟩
theorem Prt.frz{b:Bool}{d:Dt}{u:V}(le:Le W0 W)(h:Prt K W0.h W b d u):∃W1:Vw,W1.h=W.h∧Same W.g W1.g∧Le W0 W1∧Is K W1.g d u∧
  ∀b2 d2 u2,Prt K W0.h W b2 d2 u2→(∀es fs,b=true→b2=true→d=.lst es→d2=.lst fs→u≠u2)→Prt K W0.h W1 b2 d2 u2:=by
 cases b with
 | false=>exact⟨W,rfl,Same.refl _,le,h,fun _ _ _ k _=>k⟩
 | true=>
  rcases h with ⟨es,p,xs,rfl,rfl,h3,h4,h5,h6⟩|⟨_,h2⟩
  ·refine⟨W.frz p _ h4,rfl,ya h5 _,qH le h3 h4 h5,is_lst.mpr ⟨p,xs,rfl,zB,AllIs.mono0 (ya h5 _) h6⟩,fun b2 d2 u2 k ne=>?_⟩
   cases b2 with
   | false=>exact Is.mono0 (ya h5 _) k
   | true=>
    rcases k with ⟨fs,q,ys,rfl,rfl,k3,k4,k5,k6⟩|⟨k1,k2⟩
    ·have hq:q≠p:=fun z=>ne es fs rfl rfl rfl rfl (by rw[z])
     exact .inl ⟨fs,q,ys,rfl,rfl,k3,k4,(zC hq).trans k5,AllIs.mono0 (ya h5 _) k6⟩
    ·exact .inr ⟨k1,Is.mono0 (ya h5 _) k2⟩
  ·exact⟨W,rfl,Same.refl _,le,h2,fun _ _ _ k _=>k⟩
def Tld.frz{fr:Fr}{d:Dt}{v:V}(le:Le W0 W)(h:Tld K W0.h W fr d v):∃W1:Vw,W1.h=W.h∧Le W0 W1∧Is K W1.g d v:=by
 match fr,h with
 | .d,h=>exact⟨W,rfl,le,h⟩
 | .l,⟨es,p,xs,e1,e2,h3,h4,h5,h6⟩=>
  subst e1;subst e2
  exact⟨W.frz p _ h4,rfl,qH le h3 h4 h5,is_lst.mpr ⟨p,xs,rfl,zB,AllIs.mono0 (ya h5 _) h6⟩⟩
 | .t a b,⟨d1,d2,q,u1,u2,e1,e2,hq,p1,p2,ne⟩=>
  subst e1;subst e2
  obtain⟨W1,e1,s1,le1,i1,k1⟩:=p1.frz le
  obtain⟨W2,e2,s2,le2,i2,_⟩:=(k1 b d2 u2 p2 ne).frz le1
  exact⟨W2,e2.trans e1,le2,is_tup.mpr ⟨q,_,rfl,s2 _ _ (s1 _ _ hq),allIs_cons.mpr ⟨u1,_,rfl,Is.mono0 s2 i1,allIs_cons.mpr ⟨u2,_,rfl,i2,allIs_nil.mpr rfl⟩⟩⟩⟩
end
def gu(K:Bq)(fr:Fr)(S:DSp):Sp:=fun vs H Q _=>∃(W:Vw)(ds:List Dt)(Qd:Dt→Prop),W.h=H∧AllIs K W.g ds vs∧S ds Qd∧∀d v W',Le W W'→Tld K W.h W' fr d v→Qd d→Q v W'.h
structure TOk(P:Program)(w:World)(K:Bq)(mg:be)(base:Heap)(n:Nat)(x:Str)(fr:Fr)(S:DSp):Prop where
 ex:∃f fd ps,mg x=some (.ref f)∧PySem.W.keepIn K (.ref f)=true∧Binds K fd ps []∧FnOk P w K mg base CX0 n f fd ps (gu K fr S)
section
variable{P:Program}{w:World}{K:Bq}{mg:be}{base:Heap}{fr:Fr}
def TOk.dok{x:Str}{n:Nat}{S:DSp}(h:TOk P w K mg base n x fr S):DOk P w K mg base n x S:=
 let⟨f,fd,ps,h1,h2,h3,h4⟩:=h.ex; ⟨f,fd,ps,h1,h2,h3,h4.imp fun vs H Q E ⟨W,ds,Qd,a,b,c,k⟩=>⟨W,ds,Qd,a,b,c,fun d v W' le t q=>by
  obtain⟨W1,e1,le1,i1⟩:=t.frz le
  rw[←e1]
  exact k d v W1 le1 i1 q⟩⟩
theorem okT{x qual:Str}{st:Stmt}{f:Addr}{fd:FuncData}{N ps:List Str}{k:Nat}{S:DSp}(F:Fun K x qual st f fd)(sc:zk N ps (defScope st))(len:∀ds Q,S ds Q→ds.length=ps.length)
  (hbody:∀(cdv:Value)(A:Around)(outer:List Env)(s:Shared)(H:Hp)(E:XK),Room k (A.deeper (envOfC qual (defScope st) s.heap.objs.size f cdv))→∀(ds:List Dt)(Q:Dt→Prop),S ds Q→
   ∃t,DSs (ub CX0 P w K mg base N qual (defScope st) f cdv A outer s H E).nox fr (defBody st) t∧t { nx:=fun _=>False,rt:=Q } (wH N.length ds)):FnOk P w K mg base CX0 (k+1) f fd ps (gu K fr S):=by
 refine F.ok sc (fun vs H Q E h=>?_) (fun cdv A outer s H vs Q E hr h=>?_)
 ·obtain⟨W,ds,Qd,_,ia,hS,_⟩:=h
  rw[←ia.length]
  exact len ds Qd hS
 obtain⟨W,ds,Qd,rfl,ia,hS,kk⟩:=h
 obtain⟨t,⟨ts,p,l⟩,ht⟩:=hbody cdv A outer s W.h E hr ds Qd hS
 exact⟨ts,p,l W W.g (wH N.length ds) (start N vs) W { nx:=fun _=>False,rt:=Qd } _ (nK ia (gO (C0 _))) ⟨fun ρ σ W' a q=>q.elim,kk,fun _ _ _ _ q=>q.elim,fun _ _ _ _ q=>q.elim⟩ ht⟩
def TOk.mk'{x qual:Str}{st:Stmt}{f:Addr}{fd:FuncData}{ps:List Str}{n:Nat}{S:DSp}(F:Fun K x qual st f fd)(hm:mg x=some (.ref f))(hb:Binds K fd ps [])(h:FnOk P w K mg base CX0 n f fd ps (gu K fr S)):TOk P w K mg base n x fr S:=
 ⟨f,fd,ps,hm,F.kp,hb,h⟩
end
def LiR(K:Bq)(Z:Hp)(fr:Fr)(te:TE)(t:DTE):Prop:=
 ∀{F:Hp}(ρ:DS)(σ:St)(H:Vw)(Q:Dt→Prop),Rl K Z F H ρ σ→t ρ Q→∀R:VK,(∀d v H',Le H H'→Tld K H.h H' fr d v→Q d→R v H'.h)→te σ H.h R
def DR(X:Cx)(fr:Fr)(e:Expr)(t:DTE):Prop:=∃te,PE X e te∧LiR X.K (Zx X) fr te t
def LiP(K:Bq)(Z:Hp)(b:Bool)(te:TE)(t:DTE):Prop:=
 ∀{F:Hp}(ρ:DS)(σ:St)(H:Vw)(Q:Dt→Prop),Rl K Z F H ρ σ→t ρ Q→∀R:VK,(∀d v H',Le H H'→Prt K F H' b d v→Q d→R v H'.h)→te σ H.h R
def DP(X:Cx)(b:Bool)(e:Expr)(t:DTE):Prop:=∃te,PE X e te∧LiP X.K (Zx X) b te t
def VW{K:Bq}{F G:Hp}{W:Vw}{fr:Fr}{d:Dt}{v:V}(z:∀p,F p=none→G p=none)(h:Tld K F W fr d v):Tld K G W fr d v:=by
 have pp:∀{b:Bool}{d:Dt}{v:V},Prt K F W b d v→Prt K G W b d v:=fun{b d v} h=>by
  cases b with
  | false=>exact h
  | true=>exact h.imp (fun h=>h.le z) id
 match fr,h with
 | .d,h=>exact h
 | .l,h=>exact NewL.le h z
 | .t a b,⟨d1,d2,q,u1,u2,e1,e2,hq,p1,p2,ne⟩=>exact⟨d1,d2,q,u1,u2,e1,e2,hq,pp p1,pp p2,ne⟩
section
variable{X:Cx}{fr:Fr}{a b:Bool}{e e1 e2:Expr}{es:List Expr}{t t1 t2:DTE}{ta:DTA}{n:Nat}{x:Str}{S:DSp}{p pos p0 p1:Pos}{i:Nat}
def X0(G:TOk X.prog X.w X.K X.mg X.base n x fr S)(hr:Room n X.A)(hg:Gl X x)(ha:DA X (e::es) ta)(hdb:ug x:=by decide)
  (he:J' X.env e es:=by rfl) (hpl:K' X.env pos es:=by rfl):DR X fr (.Call (.Name x p) (e::es) [] pos) (Ym S ta):=by
 obtain⟨f,fd,ps,hm,hk,hb,F⟩:=G.ex
 obtain⟨te,p1,l1⟩:=ha
 refine⟨_,oi F hr hg hm hk hb .nil oX p1 hdb he hpl,fun ρ σ H Q r h R k=>l1 ρ σ H _ r h _ fun ds vs H1 s1 i1 q1=>?_⟩
 rw[Cm]
 exact⟨H1,ds,Q,rfl,i1,q1,fun d v H2 s2 t2 q2=>k d v H2 (s1.trans s2) (VW (fun _ z=>s1.h.free z) t2) q2⟩
def Hw(t:DTE):DTE:=fun ρ Q=>t ρ fun d=>∃d1 es,d=.tup [d1,.lst es]∧Q (.lst es)
def UU{jj}(h:DR X (.t a true) e t)(hs:rQ (.Constant (.int 1) jj p0)):DF X (.Subscript e (.Constant (.int 1) jj p0) pos) (Hw t):=by
 obtain⟨te,p1,l1⟩:=h
 refine⟨_,cc ZK p1 Zi hs,fun ρ σ H Q r h R k=>l1 ρ σ H _ r h _ fun d v H1 s1 ⟨d1,d2,q,u1,u2,e1,e2,hq,pt1,pt2,ne⟩ ⟨d1',es,ed,qq⟩=>?_⟩
 subst e2
 rw[ed]at e1
 cases e1
 rcases pt2 with ⟨fs,p,xs,e1,e2,h3,h4,h5,h6⟩|⟨z,_⟩
 ·cases e1;subst e2
  exact .inr (.inl ⟨q,_,1,_,rfl,rfl,.of (H1.sub _ _ hq),rfl,k es p xs H1 s1 h3 h4 h5 h6 qq⟩)
 ·cases z
def Hs(h:DE X e t):DP X false e t:=let⟨te,p,l⟩:=h; ⟨te,p,fun ρ σ H Q r h R k=>l ρ σ H Q r h R k⟩
def Hr(h:DF X e t):DP X true e t:=let⟨te,p,l⟩:=h; ⟨te,p,fun ρ σ H Q r h R k=>l ρ σ H Q r h R fun es q xs H' s h0 h1 h2 i z=>k (.lst es) (.ref q) H' s (.inl ⟨es,q,xs,rfl,rfl,r.fr.free h0,h1,h2,i⟩) z⟩
def HB(i:Nat):DTE:=fun ρ Q=>∃ds,ρ[i]? = some (.own ds)∧Q (.lst ds)
def VD(t1 t2:DTE):DTS:=fun D ρ=>t1 ρ fun d1=>t2 ρ fun d2=>D.rt (.tup [d1,d2])
def XX{x1}(h1:DP X a e1 t1)(h2:DP X b e2 t2)(hne:a=false∨b=false:=by first|exact .inl rfl|exact .inr rfl)
  (hst:starEach [e1,e2] X.env=(false,eval e1 X.env)::starEach [e2] X.env:=by rfl) (hst2:starEach [e2] X.env=(false,eval e2 X.env)::starEach [] X.env:=by rfl):
  DSt X (.t a b) (.Return (some (.Tuple [e1,e2] x1 p0)) pos) (VD t1 t2):=by
 obtain⟨te1,q1,l1⟩:=h1
 obtain⟨te2,q2,l2⟩:=h2
 refine⟨_,oV (fJ (zL q1 (zL q2 yh hst2) hst)),fun W0 G ρ σ W D D' at_ s h=>?_⟩
 refine l1 ρ σ W _ at_.rl h _ fun d1 u1 W1 s1 pt1 h=>?_
 refine l2 ρ σ W1 _ (at_.rl.mono s1) h _ fun d2 u2 W2 s2 pt2 q=>?_
 refine⟨by show 2≤_;decide,fun p hp=>?_⟩
 have s3:=sO hp (.tup [u1,u2])
 refine s.tl (.tup [d1,d2]) (.ref p) (W2.new p (.tup [u1,u2])) ((at_.le.trans s1).trans (s2.trans s3)) ⟨d1,d2,p,u1,u2,rfl,rfl,zB,(pt1.mono s2).mono s3,pt2.mono s3,fun _ _ z1 z2=>?_⟩ q
 rcases hne with z|z
 ·rw[z1]at z;cases z
 ·rw[z2]at z;cases z
def Z4{x1}(i:Nat)(h2:DF X e2 t2)(hN:X.N[i]? = some x:=by rfl)(hv:Vis X.env.scope x:=by walk_at "v")(hd:ug x:=by decide)
  (hcd:we x:=by decide)
  (hst:starEach [.Name x p1,e2] X.env=(false,eval (.Name x p1) X.env)::starEach [e2] X.env:=by rfl) (hst2:starEach [e2] X.env=(false,eval e2 X.env)::starEach [] X.env:=by rfl):
  DSt X (.t true true) (.Return (some (.Tuple [.Name x p1,e2] x1 p0)) pos) (VD (HB i) t2):=by
 obtain⟨te2,q2,l2⟩:=h2
 refine⟨_,oV (fJ (zL (xa hN hv hd hcd) (zL q2 yh hst2) hst)),fun W0 G ρ σ W D D' at_ s h=>?_⟩
 obtain⟨ds,e,h⟩:=h
 obtain⟨c,xs,e1,k2,k3,k4,k5⟩:=at_.rl.ow i ds e
 refine⟨.ref c,e1,l2 ρ σ W _ at_.rl h _ fun es q ys W2 s2 h0 h1 h2 i2 qq=>?_⟩
 refine⟨by show 2≤_;decide,fun p hp=>?_⟩
 have s3:=sO hp (.tup [.ref c,.ref q])
 have n1:NewL X.K W0.h W (.lst ds) (.ref c):=⟨ds,c,xs,rfl,rfl,k4,k2,k3,k5⟩
 have n2:NewL X.K W0.h W2 (.lst es) (.ref q):=⟨es,q,ys,rfl,rfl,at_.le.h.free h0,h1,h2,i2⟩
 refine s.tl _ (.ref p) (W2.new p (.tup [.ref c,.ref q])) (at_.le.trans (s2.trans s3)) ⟨_,_,p,_,_,rfl,rfl,zB,.inl ((n1.mono s2).mono s3),.inl (n2.mono s3),fun _ _ _ _ _ _ z=>?_⟩ qq
 cases z
 rw[h0]at k2
 cases k2
end
end OD
namespace L2
open PySem PySem.Spec PyProof.Rows
def Cx.arg(X:Cx):Cx:={ X with fn:=fun y=>!(y == "") }
section
variable{X:Cx}{f':am}{σ:St}{H:Hp}{s:Shared}
def Inv.arg(I:Inv X f' σ H s)(hf:∀y,X.fn y=true):Inv X.arg f' σ H s:=
 ⟨⟨I.ok.mod,I.ok.kind,I.ok.glob,I.ok.blt,I.ok.above,I.ok.inj,I.ok.has,fun x c _=>I.ok.cab x c (hf x),I.ok.hd,I.ok.frames,I.ok.stk,I.ok.exf,I.ok.bs,I.ok.bsz,I.ok.noex,I.ok.exfs,I.ok.funs,I.ok.frf⟩,I.os,I.bare,I.base,I.loc,I.cell,I.free,I.freeC,I.pin,I.hok,I.len⟩
def Inv.outA(ok:X.Ok)(I:Inv X.arg f' σ H s):Inv X f' σ H s:=⟨ok,I.os,I.bare,I.base,I.loc,I.cell,I.free,I.freeC,I.pin,I.hok,I.len⟩
def SP.outA{D:tT}{f:Flow}{s':Shared}(ok:X.Ok)(h:SP X.arg f' D f s'):SP X f' D f s':=by
 cases f with
 | next=>obtain⟨σ',H',I,q⟩:=h;exact⟨σ',H',I.outA ok,q⟩
 | brk=>obtain⟨σ',H',I,q⟩:=h;exact⟨σ',H',I.outA ok,q⟩
 | cont=>obtain⟨σ',H',I,q⟩:=h;exact⟨σ',H',I.outA ok,q⟩
 | ret u=>obtain⟨v,σ',H',I,r,q⟩:=h;exact⟨v,σ',H',I.outA ok,r,q⟩
def PSs.outA{sts:List Stmt}{ts:TS}(h:PSs X.arg sts ts)(hf:∀y,X.fn y=true):PSs X sts ts:=fun f' s σ H D I q=>thn (h f' s σ H D (I.arg hf) q) fun _ _ z=>SP.outA I.ok z
def ZQ:Ly X (fun o i H Q=>∃p xs k v,o=.ref p∧i=.int k∧0≤k∧H p=some (.lst xs)∧xs[k.toNat]? = some v∧Q v H):=by
 intro f' s σ H o i ov iv Q I ro ri h
 obtain⟨p,xs,k,v,rfl,rfl,h0,hp,hv,q⟩:=h
 cases ro
 obtain⟨t,rfl⟩:=ri
 obtain⟨its,r,pl,hz⟩:=I.list (.of hp)
 obtain⟨w,ew,rw'⟩:=r.get hv
 have hl:=r.length
 have hn:=uS
 have hk:k.toNat<xs.length:=by
  rcases Ca k.toNat xs.length with z|z
  ·exact z
  ·rw[BG z]at hv;cases hv
 exact wpAny_getItem_list pl.isList h0 (by omega) (by simpa using ew) ⟨v,H,I,rw',q⟩
end
end L2
namespace OD
variable{Z:Hp}
open PySem PySem.Spec PyProof.Rows L2
def VQ{X:Cx}:Zx X.arg=fun _=>none:=if_pos (.inr (by show(!(("":Str) == ""))=false;decide))
def Vw.del(W:Vw)(a:Addr)(hg:W.g a=none):Vw:=⟨W.g,fun b=>if b=a then none else W.h b,fun b o q=>by
 have:b≠a:=fun e=>by rw[e,hg]at q;cases q
 show(if b=a then none else W.h b)=some o
 rw[if_neg this]
 exact W.sub _ _ q⟩
def u7{W:Vw}{a b:Addr}{hg:W.g a=none}(h:b≠a):(W.del a hg).h b=W.h b:=if_neg h
def Yb(W:Vw)(a:Addr)(hg:W.g a=none):Le (W.del a hg) W:=⟨Same.refl _,fun b o q=>by
 by_cases e:b=a
 ·subst e
  have q:(if b=b then none else W.h b)=some o:=q
  rw[if_pos rfl]at q
  cases q
 ·rw[←u7 (hg:=hg) e];exact q,fun _ _ h=>h⟩
def Le.undel{W0 W W':Vw}{a:Addr}{hg:W.g a=none}(l0:Le W0 W)(h0:W0.h a=none)(l:Le (W.del a hg) W'):Le W0 W':=
 ⟨l0.g.trans l.g,fun b o q=>by
  have e:b≠a:=fun e=>by rw[e,h0]at q;cases q
  exact l.h b o ((u7 e).trans (l0.h b o q)),fun b h1 h2=>by
  have e:b≠a:=fun e=>h1 (e ▸ h0)
  exact l.n b (by rw[u7 e];exact fun z=>h1 (l0.h.free z)) (l0.n b h1 h2)⟩
theorem Rl.lent{K:Bq}{F:Hp}{W W':Vw}{ρ:DS}{σ:St}(r:Rl K Z F W ρ σ){i:Nat}{ds fs:List Dt}{a:Addr}{ys:List V}(hi:ρ[i]? = some (.own ds))(ha:σ[i]? = some (some (.ref a)))(hg:W.g a=none)(hF:F a=none)
  (le:Le (W.del a hg) W') (h1:W'.h a=some (.lst ys)) (h2:W'.g a=none) (h3:AllIs K W'.g fs ys):Rl K Z F W' (ρ.set i (.own fs)) σ:=by
 have other:∀j gs,j≠i→ρ[j]? = some (.own gs)→σ[j]?≠some (some (.ref a)):=fun j gs hj q z=>r.ne j i gs ds hj q hi (z.trans ha.symm)
 have keep:∀b xs,b≠a→W.h b=some (.lst xs)→W.g b=none→W'.h b=some (.lst xs)∧W'.g b=none:=fun b xs hb q1 q2=>
  ⟨le.h b _ ((u7 hb).trans q1),le.n b (by rw[u7 hb,q1];intro z;cases z) q2⟩
 refine⟨by rw[B_];exact r.len,fun j e q=>?_,fun j gs q=>?_,fun j k gs gs' hjk q1 q2=>?_,fun p o q=>?_,r.z,fun j c gs q=>?_,?_⟩
 ·rcases zA q with ⟨_,_,e1⟩|⟨hij,q⟩
  ·cases e1
  ·obtain⟨v,e1,e2⟩:=r.at_ j e q
   exact⟨v,e1,Is.mono0 le.g e2⟩
 ·rcases zA q with ⟨rfl,_,e1⟩|⟨hij,q⟩
  ·cases e1
   exact⟨a,ys,ha,h1,h2,hF,h3⟩
  ·obtain⟨b,xs,e1,e2,e3,e4,e5⟩:=r.ow j gs q
   have hb:b≠a:=fun z=>other j gs (fun z=>hij z.symm) q (z ▸ e1)
   obtain⟨k1,k2⟩:=keep b xs hb e2 e3
   exact⟨b,xs,e1,k1,k2,e4,AllIs.mono0 le.g e5⟩
 ·have k1:∃hs,ρ[j]? = some (.own hs):=by
   rcases zA q1 with ⟨rfl,_,_⟩|⟨_,q⟩
   ·exact⟨_,hi⟩
   ·exact⟨_,q⟩
  have k2:∃hs,ρ[k]? = some (.own hs):=by
   rcases zA q2 with ⟨rfl,_,_⟩|⟨_,q⟩
   ·exact⟨_,hi⟩
   ·exact⟨_,q⟩
  obtain⟨_,k1⟩:=k1
  obtain⟨_,k2⟩:=k2
  exact r.ne j k _ _ hjk k1 k2
 ·have e:p≠a:=fun e=>by rw[e,hF]at q;cases q
  exact le.h p o ((u7 e).trans (r.fr p o q))
 ·rcases zA q with ⟨_,_,e1⟩|⟨hij,q⟩
  ·cases e1
  obtain⟨⟨xs,g1,g2,g3,g4,g5⟩,k1,k2⟩:=r.ar j c gs q
  have hc:c≠a:=fun z=>k1 i ds hi (by rw[z];exact ha)
  obtain⟨m1,m2⟩:=keep c xs hc g2 g3
  refine⟨⟨xs,g1,m1,m2,g4,AllIs.mono0 le.g g5⟩,fun k es' q'=>?_,fun k c' es' q'=>?_⟩
  ·rcases zA q' with ⟨rfl,_,_⟩|⟨_,q'⟩
   ·exact k1 i ds hi
   ·exact k1 k es' q'
  ·rcases zA q' with ⟨_,_,e1⟩|⟨hik,q'⟩
   ·cases e1
   exact k2 k c' es' q'
 ·obtain⟨a',xs0,e1,e2,_⟩:=r.ow i ds hi
  rw[ha]at e1
  cases e1
  refine Obs.slot (fun j φ q=>?_) i (fun φ z=>by cases z)
  obtain⟨⟨b,o,g1,g2,g3,g4,g5,g6⟩,k⟩:=r.ob j φ q
  have hb:b≠a:=fun z=>g3 xs0 (by rw[z,e2]at g2;exact(Option.some.inj g2).symm)
  exact⟨⟨b,o,g1,le.h b _ ((u7 hb).trans g2),g3,le.n b (by rw[u7 hb,g2];intro z;cases z) g4,g5,φ.mono le.g g6⟩,k⟩
theorem Rl.putA{K:Bq}{F:Hp}{W:Vw}{ρ:DS}{σ:St}(r:Rl K Z F W ρ σ){i:Nat}{ds es:List Dt}{a:Addr}{ys:List V}(hi:ρ[i]? = some (.arg a ds))(hg:W.g a=none)(hF:F a=none)(h3:AllIs K W.g es ys):
  Rl K Z F (W.mine a (.lst ys) hg) (ρ.set i (.arg a es)) σ:=by
 obtain⟨⟨xs,ha,hh,_⟩,no,on⟩:=r.ar i a ds hi
 refine⟨by rw[B_];exact r.len,fun j e q=>?_,fun j fs q=>?_,fun j k fs fs' hjk q1 q2=>?_,fun p o q=>?_,r.z,fun j c fs q=>?_,(r.ob.mine hh hg).slot i (fun φ z=>by cases z)⟩
 ·rcases zA q with ⟨_,_,e1⟩|⟨hij,q⟩
  ·cases e1
  ·exact r.at_ j e q
 ·rcases zA q with ⟨_,_,e1⟩|⟨hij,q⟩
  ·cases e1
  ·obtain⟨b,xs,e1,e2,e3,e4,e5⟩:=r.ow j fs q
   have hb:b≠a:=fun z=>no j fs q (z ▸ e1)
   exact⟨b,xs,e1,(zC hb).trans e2,e3,e4,e5⟩
 ·rcases zA q1 with ⟨_,_,e1⟩|⟨_,q1⟩
  ·cases e1
  rcases zA q2 with ⟨_,_,e1⟩|⟨_,q2⟩
  ·cases e1
  exact r.ne j k _ _ hjk q1 q2
 ·have e:p≠a:=fun e=>by rw[e,hF]at q;cases q
  exact(zC (H:=W.h) (o:=.lst ys) e).trans (r.fr p o q)
 ·rcases zA q with ⟨rfl,hl,e1⟩|⟨hij,q⟩
  ·cases e1
   refine⟨⟨ys,ha,zB,hg,hF,h3⟩,fun k es' q'=>?_,fun k c' es' q'=>?_⟩
   ·rcases zA q' with ⟨_,_,e1⟩|⟨_,q'⟩
    ·cases e1
    ·exact no k es' q'
   ·rcases zA q' with ⟨rfl,_,_⟩|⟨hik,q'⟩
    ·rfl
    ·exact on k c' es' q'
  ·exact absurd (on j c fs q) (fun z=>hij z.symm)
theorem At.putA{K:Bq}{W0 W:Vw}{G:Hp}{ρ:DS}{σ:St}(at_:At K Z W0 G W ρ σ){i:Nat}{ds es:List Dt}{a:Addr}{ys:List V}(hi:ρ[i]? = some (.arg a ds))(hg:W.g a=none)(hF:W0.h a=none)(h3:AllIs K W.g es ys):
  At K Z W0 G (W.mine a (.lst ys) hg) (ρ.set i (.arg a es)) σ:=
 ⟨⟨at_.le.g,fun b o q=>by
   have:b≠a:=fun e=>by rw[e,hF]at q;cases q
   show upd W.h a _ b=some o
   rw[zC this];exact at_.le.h _ _ q,at_.le.n⟩,at_.gs,at_.rl.putA hi hg hF h3⟩
abbrev ASp:=Dt→List Dt→List Dt→(List Dt→Prop)→Prop
def lI(K:Bq)(S:ASp):Sp:=fun vs H Q _=>∃(W:Vw)(d0:Dt)(es0 ds:List Dt)(Qd:List Dt→Prop)(v0:V)(a:Addr)(xs vs':List V)(hg:W.g a=none),W.h=H∧vs=v0::.ref a::vs'∧W.h a=some (.lst xs)∧Is K W.g d0 v0∧AllIs K W.g es0 xs∧AllIs K W.g ds vs'∧S d0 es0 ds Qd∧
 ∀es ys W',Le (W.del a hg) W'→W'.h a=some (.lst ys)→W'.g a=none→AllIs K W'.g es ys→Qd es→Q .non W'.h
structure AOk(P:Program)(w:World)(K:Bq)(mg:be)(base:Heap)(n:Nat)(x:Str)(S:ASp):Prop where
 ex:∃f fd ps,mg x=some (.ref f)∧PySem.W.keepIn K (.ref f)=true∧Binds K fd ps []∧FnOk P w K mg base CX0 n f fd ps (lI K S)
def qS(n:Nat)(d0:Dt)(a:Addr)(es0 ds:List Dt):DS:=.some d0::.arg a es0::(ds.map Sl.some++List.replicate (n-(ds.length+2)) Sl.none)
section
variable{P:Program}{w:World}{K:Bq}{mg:be}{base:Heap}
theorem br{W:Vw}{N:List Str}{d0:Dt}{v0:V}{a:Addr}{es0 ds:List Dt}{xs vs:List V}(hg:W.g a=none)(ha:W.h a=some (.lst xs))(i0:Is K W.g d0 v0)(i1:AllIs K W.g es0 xs)(i2:AllIs K W.g ds vs):
  Rl K (fun _=>none) (W.del a hg).h W (qS N.length d0 a es0 ds) (L2.start N (v0::.ref a::vs)):=by
 have hl:=i2.length
 have cls:∀(i:Nat)(y:Sl),(ds.map Sl.some++List.replicate (N.length-(ds.length+2)) Sl.none)[i]? = some y→(∃d,ds[i]? = some d∧y=.some d)∨y=.none:=fun i y e=>by
  by_cases hi:i<ds.length
  ·rw[B2 (by rw[Bs];exact hi),Bx]at e
   obtain⟨d',h1,h2⟩:=BU.mp e
   exact .inl ⟨d',h1,h2.symm⟩
  ·rw[B1 (by rw[Bs];omega),CP]at e
   split at e
   ·exact .inr (Option.some.inj e).symm
   ·cases e
 have noOwn:∀(i:Nat)(es:List Dt),(qS N.length d0 a es0 ds)[i]? = some (.own es)→False:=fun i es e=>by
  match i,e with
  | 0,e=>cases e
  | 1,e=>cases e
  | i+2,e=>
   rcases cls i _ e with ⟨_,_,e1⟩|e1<;>cases e1
 have noObj:∀(i:Nat)(φ:ObP),(qS N.length d0 a es0 ds)[i]? = some (.obj φ)→False:=fun i φ e=>by
  match i,e with
  | 0,e=>cases e
  | 1,e=>cases e
  | i+2,e=>
   rcases cls i _ e with ⟨_,_,e1⟩|e1<;>cases e1
 have dela:(W.del a hg).h a=none:=if_pos rfl
 refine⟨?_,fun i d e=>?_,fun i es e=>(noOwn i es e).elim,fun i j es fs _ e _=>(noOwn i es e).elim,(Yb W a hg).h,(fun _ _ q=>nomatch q),fun i c es e=>?_,fun i φ e=>(noObj i φ e).elim⟩
 ·unfold L2.start qS
  rw[BM,BM,Bv,Bv,Bs,Bs,Cs,Cs,BM,BM,hl]
  omega
 ·match i,e with
  | 0,e=>cases e;exact⟨v0,rfl,i0⟩
  | 1,e=>cases e
  | i+2,e=>
   rcases cls i _ e with ⟨d',q,e1⟩|e1
   ·cases e1
    obtain⟨v,h1,h2⟩:=i2.get q
    refine⟨v,?_,h2⟩
    have hi:i<vs.length:=by
     rcases Ca i vs.length with h|h
     ·exact h
     ·rw[BG h]at h1;cases h1
    unfold L2.start
    show(vs.map some++_)[i]? = _
    rw[B2 (by rw[Bs];exact hi),Bx,h1]
    rfl
   ·cases e1
 ·have hone:∀(j:Nat)(b:Addr)(es:List Dt),(qS N.length d0 a es0 ds)[j]? = some (.arg b es)→j=1∧b=a∧es=es0:=fun j b es e=>by
   match j,e with
   | 0,e=>cases e
   | 1,e=>cases e;exact⟨rfl,rfl,rfl⟩
   | j+2,e=>rcases cls j _ e with ⟨_,_,e1⟩|e1<;>cases e1
  obtain⟨rfl,rfl,rfl⟩:=hone i c es e
  exact⟨⟨xs,rfl,ha,hg,dela,i1⟩,fun j es e=>(noOwn j es e).elim,fun j b es e=>(hone j b es e).1⟩
theorem okA{x qual:Str}{st:Stmt}{f:Addr}{fd:FuncData}{N ps:List Str}{k:Nat}{S:ASp}(F:Fun K x qual st f fd)(sc:zk N ps (defScope st))(len:∀d0 es0 ds Q,S d0 es0 ds Q→ds.length+2=ps.length)
  (hbody:∀(cdv:Value)(A:Around)(outer:List Env)(s:Shared)(H:Hp)(E:XK),Room k (A.deeper (envOfC qual (defScope st) s.heap.objs.size f cdv))→∀(d0:Dt)(es0 ds:List Dt)(Q:List Dt→Prop)(a:Addr),S d0 es0 ds Q→
   ∃t,DSs (ub CX0 P w K mg base N qual (defScope st) f cdv A outer s H E).nox.arg .d (defBody st) t∧t { nx:=fun ρ=>∃es,ρ[1]? = some (.arg a es)∧Q es,rt:=fun _=>False } (qS N.length d0 a es0 ds)):FnOk P w K mg base CX0 (k+1) f fd ps (lI K S):=by
 refine F.ok sc (fun vs H Q E h=>?_) (fun cdv A outer s H vs Q E hr h=>?_)
 ·obtain⟨W,d0,es0,ds,Qd,v0,a,xs,vs',hg,rfl,rfl,h1,h2,h3,h4,hS,_⟩:=h
  rw[BM,BM,←h4.length]
  exact len _ _ _ _ hS
 obtain⟨W,d0,es0,ds,Qd,v0,a,xs,vs',hg,rfl,rfl,h1,h2,h3,h4,hS,kk⟩:=h
 obtain⟨t,⟨ts,p,l⟩,ht⟩:=hbody cdv A outer s W.h E hr d0 es0 ds Qd a hS
 rw[VQ]at l
 refine⟨ts,p.outA (fun _=>rfl),l (W.del a hg) W.g _ (start N (v0::.ref a::vs')) W { nx:=fun ρ=>∃es,ρ[1]? = some (.arg a es)∧Qd es,rt:=fun _=>False } _ ⟨Yb W a hg,Same.refl _,br hg h1 h2 h3 h4⟩ ⟨fun ρ σ W' at_ zz=>?_,fun _ _ _ _ _ q=>q.elim,fun _ _ _ _ q=>q.elim,fun _ _ _ _ q=>q.elim⟩ ht⟩
 obtain⟨es,e,q⟩:=zz
 obtain⟨⟨ys,_,g2,g3,_,g5⟩,_,_⟩:=at_.rl.ar 1 a es e
 exact kk es ys W' at_.le g2 g3 g5 q
def AOk.mk'{x qual:Str}{st:Stmt}{f:Addr}{fd:FuncData}{ps:List Str}{n:Nat}{S:ASp}(F:Fun K x qual st f fd)(hm:mg x=some (.ref f))(hb:Binds K fd ps [])(h:FnOk P w K mg base CX0 n f fd ps (lI K S)):AOk P w K mg base n x S:=
 ⟨f,fd,ps,hm,F.kp,hb,h⟩
end
section
variable{X:Cx}{fr:Fr}{e e0 k:Expr}{es:List Expr}{t te tk:DTE}{ta:DTA}{n:Nat}{x y:Str}{S:ASp}{p pos p0 p1 p2:Pos}{i:Nat}
def Th(i:Nat)(S:ASp)(t:DTE)(ta:DTA):DTS:=fun D ρ=>∃ds,ρ[i]? = some (.own ds)∧t ρ fun d0=>ta ρ fun fs=>S d0 ds fs fun es=>D.nx (ρ.set i (.own es))
def i8(i:Nat)(G:AOk X.prog X.w X.K X.mg X.base n x S)(hr:Room n X.A)(hg:Gl X x)(h0:DE X e0 t)(ha:DA X es ta)(hN:X.N[i]? = some y:=by rfl)(hv:Vis X.env.scope y:=by walk_at "v")(hd:ug y:=by decide)
  (hcd:we y:=by decide) (hdb:ug x:=by decide)
  (he:starEach (e0::.Name y p1::es) X.env=(false,eval e0 X.env)::starEach (.Name y p1::es) X.env:=by rfl) (he2:starEach (.Name y p1::es) X.env=(false,eval (.Name y p1) X.env)::starEach es X.env:=by rfl)
  (hpl:(backTo p2 (starEach (.Name y p1::es) X.env)).any (·.1)=false:=by rfl) (hs:swapsWith (.Call (.Name x p) (e0::.Name y p1::es) [] p2) none pos.line X.env=pure false:=by rfl):
  DSt X fr (.Expr (.Call (.Name x p) (e0::.Name y p1::es) [] p2) pos) (Th i S t ta):=by
 obtain⟨f,fd,ps,hm,hk,hb,F⟩:=G.ex
 obtain⟨tt,q0,l0⟩:=h0
 obtain⟨tts,q1,l1⟩:=ha
 refine⟨_,vT (oi F hr hg hm hk hb .nil oX (zL q0 (zL (xa hN hv hd hcd) q1 he2) he) hdb he hpl) hs,fun W0 G ρ σ W D D' at_ s h=>?_⟩
 obtain⟨ds,ei,h⟩:=h
 obtain⟨a,xs,k1,k2,k3,k4,k5⟩:=at_.rl.ow i ds ei
 refine l0 ρ σ W _ at_.rl h _ fun d0 v0 W1 s1 i0 h=>?_
 refine⟨.ref a,k1,l1 ρ σ W1 _ (at_.rl.mono s1) h _ fun fs vs W2 s2 i2 h=>?_⟩
 have s12:=s1.trans s2
 have hg2:W2.g a=none:=s12.n a (by rw[k2];intro z;cases z) k3
 show lI X.K S ((v0::.ref a::vs)++[]) W2.h _ E0
 rw[Cm]
 refine⟨W2,d0,ds,fs,_,v0,a,xs,vs,hg2,rfl,rfl,s12.h _ _ k2,i0.mono s2,k5.mono s12,i2,h,fun es ys W' le m1 m2 m3 q=>?_⟩
 have a2:=at_.step s12
 exact s.nx _ _ W' ⟨a2.le.undel k4 le,a2.gs.trans le.g,a2.rl.lent ei k1 hg2 k4 le m1 m2 m3⟩ q
def MP(i:Nat):DTE:=fun ρ Q=>∃a ds,ρ[i]? = some (.arg a ds)∧Q (.int ds.length)
def X3(i:Nat)(hg:Gl X "len")(hm:X.mg "len"=none)(hN:X.N[i]? = some x:=by rfl)(hv:Vis X.env.scope x:=by walk_at "v")(hd:ug x:=by decide)
  (hcd:we x:=by decide) (hs:starEach [.Name x p1] X.env=(false,eval (.Name x p1) X.env)::starEach [] X.env:=by rfl) (hpl:K' X.env pos []:=by rfl):
  DE X (.Call (.Name "len" p0) [.Name x p1] [] pos) (MP i):=by
 refine⟨_,xo uc hg hm PySem.boot_len (zL (xa hN hv hd hcd) yh hs) (by decide) (by decide) hs hpl,fun ρ σ H Q r h R k=>?_⟩
 obtain⟨a,ds,e,q⟩:=h
 obtain⟨⟨xs,e1,e2,e3,e4,e5⟩,_,_⟩:=r.ar i a ds e
 exact⟨.ref a,e1,a,xs,rfl,.inl (.of e2),by rw[←e5.length];exact k _ _ H (Le.refl H) (is_int.mpr rfl) q⟩
def Lf(i:Nat)(te:DTE):DTS:=fun D ρ=>∃a ds,ρ[i]? = some (.arg a ds)∧te ρ fun d=>ds.length≤100000∧D.nx (ρ.set i (.arg a (ds++[d])))
def XZ(i:Nat)(h:DE X e te)(hN:X.N[i]? = some x:=by rfl)(hv:Vis X.env.scope x:=by walk_at "v")(hd:ug x:=by decide)
  (hcd:we x:=by decide) (hst:starEach [e] X.env=(false,eval e X.env)::starEach [] X.env:=by rfl) (hpl:K' X.env p2 []:=by rfl)
  (hfew:((backTo p2 (starEach [e] X.env)).all (fun x=>!x.1)&&(backToKw p2 (keywordEach [] X.env)).all (fun x=>x.1.isSome)
   && decide ([e].length+([]:List Keyword).length+(if([]:List Keyword).isEmpty then 0 else 1)<30))=true:=by rfl)
  (hbase:attributeBase (.Name x p0) "append" X.env (eval (.Name x p0) X.env)=eval (.Name x p0) X.env:=by rfl) (hline:(p1.endLine==p2.line)=true:=by rfl)
  (hs:swapsWith (.Call (.Attribute (.Name x p0) "append" p1) [e] [] p2) none pos.line X.env=pure false:=by rfl):
  DSt X fr (.Expr (.Call (.Attribute (.Name x p0) "append" p1) [e] [] p2) pos) (Lf i te):=by
 obtain⟨tt,p,l⟩:=h
 refine⟨_,vT (oW PySem.F.plainAttrs_list PySem.F.slot_list_append PySem.F.type_list_append qF (xa hN hv hd hcd) (zL p yh hst) hbase hfew hline hst hpl) hs,fun W0 G ρ σ W D D' at_ s h=>?_⟩
 obtain⟨b,ds,ei,h⟩:=h
 obtain⟨⟨xs,e1,e2,e3,e4,e5⟩,_,_⟩:=at_.rl.ar i b ds ei
 refine⟨.ref b,e1,.inl ⟨rfl,xs,.of e2⟩,l ρ σ W _ at_.rl h _ fun d v W1 s1 i1 zz=>?_⟩
 obtain⟨hl,q1⟩:=zz
 have a1:=at_.step s1
 have hg1:W1.g b=none:=s1.n b (by rw[e2];intro z;cases z) e3
 refine⟨b,xs,v,rfl,rfl,s1.h _ _ e2,by rw[←e5.length];exact Cj hl (by decide),?_⟩
 exact s.nx _ _ _ (a1.putA ei hg1 e4 ((e5.mono s1).append (allIs_cons.mpr ⟨v,[],rfl,i1,allIs_nil.mpr rfl⟩))) q1
def Ld(i:Nat)(g:Int→Int→Int)(tk te:DTE):DTS:=fun D ρ=>∃a ds,ρ[i]? = some (.arg a ds)∧tk ρ fun z=>∃n m,z=.int n∧0≤n∧ds[n.toNat]? = some (.int m)∧te ρ fun d=>∃y,d=.int y∧D.nx (ρ.set i (.arg a (ds.set n.toNat (.int (g m y)))))
def UK{n:Int}{k:Nat}(h0:0≤n)(h:n.toNat<k):ixN k n=some n.toNat:=by
 unfold ixN
 rw[if_pos h0,if_pos (by omega)]
def rF(i:Nat){op:Operator}{g:Int→Int→Int}(ho:PIp X op (ipI g))(hk:DE X k tk)(h:DE X e te)(hN:X.N[i]? = some x:=by rfl)(hv:Vis X.env.scope x:=by walk_at "v")(hd:ug x:=by decide)
  (hcd:we x:=by decide)
  (ha:∀ov iv new,augStore k ov iv new=(do holding [new,ov,iv] (setItem ov iv new);release [new,ov,iv] [];pure .next):=by intros;rfl):
  DSt X fr (.AugAssign (.Subscript (.Name x p0) k p1) op e pos) (Ld i g tk te):=by
 obtain⟨tt,p,l⟩:=h
 obtain⟨tk',pk,lk⟩:=hk
 refine⟨_,Xf (xa hN hv hd hcd) pk ZQ p ho aK ha,fun W0 G ρ σ W D D' at_ s h=>?_⟩
 obtain⟨b,ds,ei,h⟩:=h
 obtain⟨⟨xs,e1,e2,e3,e4,e5⟩,_,_⟩:=at_.rl.ar i b ds ei
 refine⟨.ref b,e1,lk ρ σ W _ at_.rl h _ fun z v W1 s1 i1 zz=>?_⟩
 obtain⟨n,m,ez,h0,hm,q1⟩:=zz
 subst ez
 obtain rfl:=is_int.mp i1
 obtain⟨u,hu,iu⟩:=e5.get hm
 obtain rfl:=is_int.mp iu
 refine⟨b,xs,n,.int m,rfl,rfl,h0,s1.h _ _ e2,hu,l ρ σ W1 _ (at_.rl.mono s1) q1 _ fun d v W2 s2 i2 zz=>?_⟩
 obtain⟨y,ed,q2⟩:=zz
 subst ed
 have s12:=s1.trans s2
 have hg2:W2.g b=none:=s12.n b (by rw[e2];intro z;cases z) e3
 have hl:n.toNat<xs.length:=by
  rcases Ca n.toNat xs.length with z|z
  ·exact z
  ·rw[BG z]at hu;cases hu
 refine⟨m,y,rfl,is_int.mp i2,b,xs,n,n.toNat,rfl,rfl,s12.h _ _ e2,UK h0 hl,?_⟩
 exact s.nx _ _ _ ((at_.step s12).putA ei hg2 e4 ((e5.mono s12).set n.toNat (is_int.mpr rfl))) q2
def HL(i:Nat)(te:DTE):DTS:=fun D ρ=>∃ds,ρ[i]? = some (.own ds)∧te ρ fun d=>∃es,d=.lst es∧ds.length+es.length≤16000000∧D.nx (ρ.set i (.own (ds++es)))
def US(i:Nat)(h:DE X e te)(hN:X.N[i]? = some x:=by rfl)(hv:Vis X.env.scope x:=by walk_at "v")(hd:ug x:=by decide)
  (hcd:we x:=by decide) (hst:starEach [e] X.env=(false,eval e X.env)::starEach [] X.env:=by rfl) (hpl:K' X.env p2 []:=by rfl)
  (hfew:((backTo p2 (starEach [e] X.env)).all (fun x=>!x.1)&&(backToKw p2 (keywordEach [] X.env)).all (fun x=>x.1.isSome)
   && decide ([e].length+([]:List Keyword).length+(if([]:List Keyword).isEmpty then 0 else 1)<30))=true:=by rfl)
  (hbase:attributeBase (.Name x p0) "extend" X.env (eval (.Name x p0) X.env)=eval (.Name x p0) X.env:=by rfl) (hline:(p1.endLine==p2.line)=true:=by rfl)
  (hs:swapsWith (.Call (.Attribute (.Name x p0) "extend" p1) [e] [] p2) none pos.line X.env=pure false:=by rfl):
  DSt X fr (.Expr (.Call (.Attribute (.Name x p0) "extend" p1) [e] [] p2) pos) (HL i te):=by
 obtain⟨tt,p,l⟩:=h
 refine⟨_,vT (oW PySem.F.plainAttrs_list PySem.F.slot_list_extend PySem.F.type_list_extend bG (xa hN hv hd hcd) (zL p yh hst) hbase hfew hline hst hpl) hs,fun W0 G ρ σ W D D' at_ s h=>?_⟩
 obtain⟨ds,ei,h⟩:=h
 obtain⟨b,xs,e1,e2,e3,e4,e5⟩:=at_.rl.ow i ds ei
 refine⟨.ref b,e1,.inl ⟨rfl,xs,.of e2⟩,l ρ σ W _ at_.rl h _ fun d v W1 s1 i1 zz=>?_⟩
 obtain⟨es,ed,hl,q1⟩:=zz
 subst ed
 obtain⟨c,zs,rfl,hc,ic⟩:=is_lst.mp i1
 have a1:=at_.step s1
 have hg1:W1.g b=none:=s1.n b (by rw[e2];intro z;cases z) e3
 refine⟨b,c,xs,zs,rfl,rfl,s1.h _ _ e2,W1.sub _ _ hc,by rw[←e5.length,←ic.length];exact BS hl (by decide),?_⟩
 exact s.nx _ _ _ (a1.put ei e1 hg1 e4 ((e5.mono s1).append ic)) q1
def LN:Dt→Bool
 | .tup ds=>ds.all mM
 | d=>mM d
theorem jO{K:Bq}{G G':Hp}:∀{ds:List Dt}{vs:List V},ds.all mM=true→AllIs K G ds vs→AllIs K G' ds vs
 | [],_,_,h=>allIs_nil.mpr (allIs_nil.mp h)
 | d::ds,_,z,h=>by
  obtain⟨x,r,rfl,h1,h2⟩:=allIs_cons.mp h
  rw[C3,BL]at z
  exact allIs_cons.mpr ⟨x,r,rfl,lS z.1 h1,jO z.2 h2⟩
def La(t:DTE):DTE:=fun ρ Q=>t (ρ.map fz) fun d=>LN d=true∧Q d
def cH(h:DE X e t):DE X e (La t):=by
 obtain⟨te,p,l⟩:=h
 refine⟨te,p,fun ρ σ H Q r hq R k=>?_⟩
 obtain⟨W',e,sg,r',gl⟩:=r.bor
 have:=l (ρ.map fz) σ W' _ r' hq R fun d v H1 s1 i1 ⟨hs,q1⟩=>by
  obtain⟨H2,e2,_,s2⟩:=nJ e s1 sg
  cases d with
  | tup ds=>
   obtain⟨p,xs,rfl,hp,ia⟩:=is_tup.mp i1
   have sub:Same (upd H.g p (.tup xs)) H1.h:=fun b o q=>by
    by_cases hb:b=p
    ·subst hb;rw[zB]at q;rw[←Option.some.inj q];exact H1.sub _ _ hp
    ·rw[zC hb]at q;exact H1.sub _ _ (s1.g _ _ (sg _ _ q))
   have le:Le H ⟨upd H.g p (.tup xs),H1.h,sub⟩:=⟨fun b o q=>by
     show upd H.g p (.tup xs) b=some o
     by_cases hb:b=p
     ·subst hb
      rw[zB]
      have:=s1.g _ _ (sg _ _ q)
      rw[hp]at this
      exact this
     ·rw[zC hb];exact q,e ▸ s1.h,fun b z1 z2=>by
     show upd H.g p (.tup xs) b=none
     have hb:b≠p:=fun hb=>by
      subst hb
      cases hw:W'.g b with
      | none=>
       have:=s1.n b (by rw[e];exact z1) hw
       rw[hp]at this
       cases this
      | some o=>
       rcases gl b o hw with z|⟨ys,rfl⟩
       ·rw[z2]at z;cases z
       ·have:=s1.g _ _ hw
        rw[hp]at this
        cases this
     rw[zC hb];exact z2⟩
   exact k (.tup ds) (.ref p) ⟨upd H.g p (.tup xs),H1.h,sub⟩ le (is_tup.mpr ⟨p,xs,rfl,zB,jO hs ia⟩) q1
  | _=>
   rw[←e2]
   first|(refine k _ v H2 s2 (lS ?_ i1) q1;exact hs)|cases hs
 rw[e]at this
 exact this
end
end OD
namespace OD
open PySem PySem.Spec PyProof.Rows L2
abbrev DTB:=Prop→(Addr→Prop)→DS→Prop
end OD
namespace OD
open PySem L2 PyProof.Rows
section
def UN{α:Type}{l:List α}{y:α}{i:Nat}(q:l[i]? = some y):i<l.length:=by
 rcases Ca i l.length with h|h
 ·exact h
 ·rw[BG h]at q;cases q
abbrev DTG:=List Dt→Dt→DTS
end
open PySem L2
section
variable{js:List Nat}{ta te:DTE}{X:Cx}{e:Expr}{fr:Fr}{st:Stmt}{i:Nat}
def each_t{s:DS}{P R:Prop}:(tV s fun b=>if b=true then P else R)=P:=by show(if true=true then P else R)=P;rw[if_pos rfl]
def Wy{e:Dt}{s:List Dt→DS}{P R:List Dt→Prop}(h:∃as,h_ e as∧tV (s as) fun b=>if b=true then P as else R as):P [e]:=by
 obtain⟨as,z,h⟩:=h
 cases z
 exact each_t.mp h
def Yr:Yj js ta te=vd js (UY ta) h_ tV te:=funext fun ρ=>funext fun Q=>congrArg (ta ρ) (funext fun d=>propext
 ⟨fun⟨m,Pv,h1,h2,h3,h4,h5,h6⟩=>⟨m,h1,h2,h3,Pv,h4,fun i e es hi he hp=>⟨_,rfl,each_t.mpr (he ▸ h5 i es hi hp)⟩,h6⟩,
  fun⟨m,h1,h2,h3,Pv,h4,h5,h6⟩=>⟨m,Pv,h1,h2,h3,h4,fun i es hi hp=>Wy (h5 i _ es hi rfl hp),h6⟩⟩)
def gg:jg js ta te=vd js (h8 ta) h_ tV te:=funext fun ρ=>funext fun Q=>congrArg (ta ρ) (funext fun d=>propext
 ⟨fun⟨ds,Pv,h1,h3,h4,h5,h6⟩=>⟨ds,h1,h3,Pv,h4,fun i e es _ he hp=>⟨_,rfl,each_t.mpr (h5 i e es he hp)⟩,h6⟩,
  fun⟨ds,h1,h3,Pv,h4,h5,h6⟩=>⟨ds,Pv,h1,h3,h4,fun i e es he hp=>Wy (h5 i e es (UN he) he hp),h6⟩⟩)
def Ys:Yk ta te=vd [] (h8 ta) h_ tV te:=(show Yk ta te=jg [] ta te from rfl).trans gg
def VG(h:DF X e (vd js (UY ta) h_ tV te)):DF X e (Yj js ta te):=Yr ▸ h
def Ll(h:DF X e (vd js (h8 ta) h_ tV te)):DF X e (jg js ta te):=gg ▸ h
def Lk(h:DSt X fr st (cI i (vd [] (h8 ta) h_ tV te))):DSt X fr st (cI i (Yk ta te)):=Ys ▸ h
end
open PySem PySem.Spec PyProof.Rows L2
abbrev DTC:=(DS→Prop)→(Addr→Prop)→DS→Prop
end OD
namespace OD
open PySem L2 PyProof.Rows
section
variable{X:Cx}{ta:DTA}{x:Str}{p pos:Pos}
def MT(ta:DTE):DTE:=fun ρ Q=>ta ρ fun d=>∃x,d=.str x∧Q (.bl true)
theorem ox{a:Expr}{ta:DTE}{p':Pos}(hm:X.mg "isinstance"=none)(hmc:X.mg "str"=none)(ha:DE X a ta)
  (hg:Gl X "isinstance":=by rfl) (hgc:Gl X "str":=by rfl)
  (hs:starEach [a,.Name "str" p'] X.env=(false,eval a X.env)::starEach [.Name "str" p'] X.env:=by rfl) (hs2:starEach [.Name "str" p'] X.env=(false,eval (.Name "str" p') X.env)::starEach [] X.env:=by rfl)
  (hpl:K' X.env pos [.Name "str" p']:=by rfl):
  DE X (.Call (.Name "isinstance" p) [a,.Name "str" p'] [] pos) (MT ta):=by
 obtain⟨te,p1,l1⟩:=ha
 have pc:PE X (.Name "str" p') (tC (.ty "str")):=ce hgc hmc PyProof.Rows.boot_str rfl (by decide) (by decide)
 refine⟨_,xo gi hg hm boot_isinstance (zL p1 (zL pc yh hs2) hs) (by decide) (by decide) hs hpl,fun ρ σ H Q r h R k=>l1 ρ σ H _ r h _ fun d v H1 s1 i1 zz=>?_⟩
 obtain⟨x,e,q⟩:=zz
 subst e
 obtain rfl:=is_str.mp i1
 exact⟨.str x,"str",_,true,rfl,.str x,uT,k _ _ H1 s1 (is_bl.mpr rfl) q⟩
end
end OD
namespace L2
open PySem PySem.Spec PyProof.Rows
section
variable{X:Cx}
def Vals.oneS{x:Str}{us:List Value}(h:Vals [.str x] us):∃t,us=[.str x t]:=by
 obtain⟨u,rfl,t,rfl⟩:=h.one
 exact⟨t,rfl⟩
def bF:MtR X "str.startswith" (fun x vs H Q=>∃z y,x=.str z∧vs=[.str y]∧Q (.bl (Txt.startswith z y)) H):=by
 intro f' s σ H x vs v us Q I rx rv h
 obtain⟨z,y,rfl,rfl,q⟩:=h
 obtain⟨t,rfl⟩:=rx
 obtain⟨u,rfl⟩:=rv.oneS
 exact call_gives PySem.F.slot_str_startswith (typeIs_str s z t) PySem.F.entry_str_startswith (PySem.F.args_str_startswith_2 _ _) (gives_str_startswith z y t u) ⟨.bl _,H,I,rfl,q⟩
def eB:MtR X "str.rstrip" (fun x vs H Q=>∃z y,x=.str z∧vs=[.str y]∧z.length≤sizeLine∧Q (.str (Txt.rstripChars z y)) H):=by
 intro f' s σ H x vs v us Q I rx rv h
 obtain⟨z,y,rfl,rfl,hl,q⟩:=h
 obtain⟨t,rfl⟩:=rx
 obtain⟨u,rfl⟩:=rv.oneS
 exact call_gives PySem.F.slot_str_rstrip (typeIs_str s z t) PySem.F.entry_str_rstrip (PySem.F.args_str_rstrip_2 _ _) (gives_str_rstrip_chars z y t u) (post_val_or_made (fun _=>fits_stripped _ _ _ hl) fun t' k=>⟨.str _,H,I.tok _,⟨_,rfl⟩,q⟩)
def LO:V→Option Int→Option Int→Hp→VK→Prop:=fun x lo hi H Q=>∃z,x=.str z∧z.length≤sizeLine∧Q (.str (Txt.slice z lo hi)) H
def cf{v:Value}{o:Option Int}(h:IsPart v o):∃l:Option (Int×Tok),partValue l=v∧l.map (·.1)=o:=by
 cases h with
 | none=>exact⟨none,rfl,rfl⟩
 | int i t=>exact⟨some (i,t),rfl,rfl⟩
def V2:SlR X LO:=by
 intro f' s σ H x v vl vu lo hi sl Q I rx hs pl pu h
 obtain⟨z,rfl,hl,q⟩:=h
 obtain⟨t,rfl⟩:=rx
 obtain⟨l,rfl,el⟩:=cf pl
 obtain⟨u,rfl,eu⟩:=cf pu
 have hs':s.heap.IsSlice sl l u none:=hs
 refine⟨"str",_,PySem.F.slot_str_getitem.lookup,typeIs_str s z t,wpAny_getItem_str_slice hs' rfl ?_⟩
 have key:∀t' k,EP X f' σ Q (.str (Txt.slice z (l.map (·.1)) (u.map (·.1))) t') { s with toks:=k }:=fun t' k=>⟨.str _,H,I.tok _,⟨_,rfl⟩,by rw[el,eu];exact q⟩
 exact post_val_or_str ⟨BS (Txt.slice_le z _ _) hl,key⟩
end
end L2
namespace OD
open PySem PySem.Spec PyProof.Rows L2
section
variable{X:Cx}{a b e:Expr}{ta tb:DTE}{pos p0:Pos}{x:Str}
def Mw:Dt→Dt→(Dt→Prop)→Prop:=fun d e Q=>∃x y,d=.str x∧e=.str y∧x.length+y.length≤16777216∧Q (.str (x++y))
def xb:DOp X (binaryOp .Add) Mw:=by
 refine⟨_,fN,fun H x y d e Q i1 i2 ⟨u,v,ed,ee,hl,q⟩ R k=>?_⟩
 subst ed
 subst ee
 exact⟨u,v,is_str.mp i1,is_str.mp i2,by rw[sizeLine_eq];exact hl,k _ _ H (Le.refl H) (is_str.mpr rfl) q⟩
def occ(y x:Str):Bool:=!(Builtin.Str.occurrences x y 0 x.length 1).isEmpty
def iq:DOp X (compareOp .NotIn) (gS fun y x=>.bl (!occ y x)):=by
 refine⟨_,kj,fun H x y d e Q i1 i2 ⟨u,v,ed,ee,q⟩ R k=>?_⟩
 subst ed
 subst ee
 exact⟨u,v,is_str.mp i1,is_str.mp i2,k _ _ H (Le.refl H) (is_bl.mpr rfl) q⟩
def MN(ta:DTE):DTE:=fun ρ Q=>ta ρ fun d=>∃x,d=.str x∧x.length≤16777216∧Q (.int x.length)
def jd(hg:Gl X "len")(hm:X.mg "len"=none)(ha:DE X a ta)(hs:starEach [a] X.env=(false,eval a X.env)::starEach [] X.env:=by rfl)(hpl:K' X.env pos []:=by rfl):
  DE X (.Call (.Name "len" p0) [a] [] pos) (MN ta):=by
 obtain⟨te,p1,l1⟩:=ha
 refine⟨_,xo jl hg hm PySem.boot_len (zL p1 yh hs) (by decide) (by decide) hs hpl,fun ρ σ H Q r h R k=>l1 ρ σ H _ r h _ fun d v H1 s1 i1 zz=>?_⟩
 obtain⟨x,ed,hl,q⟩:=zz
 subst ed
 exact⟨x,by rw[is_str.mp i1],by rw[sizeLine_eq];exact hl,k _ _ H1 s1 (is_int.mpr rfl) q⟩
def Hv(ta:DTE):DTE:=fun ρ Q=>ta ρ fun d=>∃i:Int,d=.int i∧i.natAbs.log2<1920∧Q (.str (toString i))
def x9(hg:Gl X "str")(hm:X.mg "str"=none)(ha:DE X a ta)(hs:starEach [a] X.env=(false,eval a X.env)::starEach [] X.env:=by rfl)(hpl:K' X.env pos []:=by rfl):
  DE X (.Call (.Name "str" p0) [a] [] pos) (Hv ta):=by
 obtain⟨te,p1,l1⟩:=ha
 refine⟨_,qx ji hg hm PyProof.Rows.boot_str (zL p1 yh hs) (by decide) (by decide) hs hpl,fun ρ σ H Q r h R k=>l1 ρ σ H _ r h _ fun d v H1 s1 i1 zz=>?_⟩
 obtain⟨i,ed,hl,q⟩:=zz
 subst ed
 exact⟨i,by rw[is_int.mp i1],hl,k _ _ H1 s1 (is_str.mpr rfl) q⟩
def HG(ta tb:DTE):DTE:=dOp (fun d e Q=>∃x i c,d=.str x∧e=.int i∧0≤i∧i<2^63∧i<x.length∧x.cps[i.toNat]? = some c∧Q (.str ⟨#[c]⟩)) ta tb
def Yi(ha:DE X a ta)(hb:DE X b tb)(hs:gN b:=by intro _ _;rfl):DE X (.Subscript a b pos) (HG ta tb):=by
 obtain⟨te,p1,l1⟩:=ha
 obtain⟨tf,p2,l2⟩:=hb
 refine⟨_,j4 p1 p2 hs,XC l1 l2 fun H x y d e Q i1 i2 ⟨z,i,c,ed,ee,h0,h1,h2,hc,q⟩ R k=>?_⟩
 subst ed
 subst ee
 exact⟨z,i,c,is_str.mp i1,is_int.mp i2,h0,h1,h2,hc,k _ _ H (Le.refl H) (is_str.mpr rfl) q⟩
def X4{y:Str}{tk:Tok}(hg:Gl X x)(hm:X.mg x=some (.str y tk))(hd:ug x:=by decide):DE X (.Name x pos) (dC (.str y)):=
 ⟨_,ki hg hm (v:=.str y) ⟨tk,rfl⟩ hd,fun ρ σ H Q r h R k=>k (.str y) (.str y) H (Le.refl H) (is_str.mpr rfl) h⟩
def dMt(f:Str→Str→Dt)(ta tb:DTE):DTE:=fun ρ Q=>ta ρ fun d=>∃x,d=.str x∧x.length≤16777216∧tb ρ fun e=>∃y,e=.str y∧Q (f x y)
variable{apos cpos:Pos}
def bY(ha:DE X a ta)(hb:DE X b tb)(hbase:attributeBase a "startswith" X.env (eval a X.env)=eval a X.env:=by rfl)
  (hfew:((backTo cpos (starEach [b] X.env)).all (fun x=>!x.1)&&(backToKw cpos (keywordEach [] X.env)).all (fun x=>x.1.isSome)
   && decide ([b].length+([]:List Keyword).length+(if([]:List Keyword).isEmpty then 0 else 1)<30))=true:=by rfl)
  (hline:(apos.endLine==cpos.line)=true:=by rfl) (hs:starEach [b] X.env=(false,eval b X.env)::starEach [] X.env:=by rfl) (hpl:K' X.env cpos []:=by rfl):
  DE X (.Call (.Attribute a "startswith" apos) [b] [] cpos) (dMt (fun x y=>.bl (Txt.startswith x y)) ta tb):=by
 obtain⟨te,p1,l1⟩:=ha
 obtain⟨tf,p2,l2⟩:=hb
 refine⟨_,oW PySem.F.plainAttrs_str PySem.F.slot_str_startswith PySem.F.type_str_startswith bF p1 (zL p2 yh hs) hbase hfew hline hs hpl,fun ρ σ H Q r h R k=>l1 ρ σ H _ r h _ fun d v H1 s1 i1 zz=>?_⟩
 obtain⟨x,ed,hl,q1⟩:=zz
 subst ed
 obtain rfl:=is_str.mp i1
 refine⟨rfl,l2 ρ σ H1 _ (r.mono s1) q1 _ fun e u H2 s2 i2 zz=>?_⟩
 obtain⟨y,ee,q2⟩:=zz
 subst ee
 obtain rfl:=is_str.mp i2
 exact⟨x,y,rfl,rfl,k _ _ H2 (s1.trans s2) (is_bl.mpr rfl) q2⟩
def e9(ha:DE X a ta)(hb:DE X b tb)(hbase:attributeBase a "rstrip" X.env (eval a X.env)=eval a X.env:=by rfl)
  (hfew:((backTo cpos (starEach [b] X.env)).all (fun x=>!x.1)&&(backToKw cpos (keywordEach [] X.env)).all (fun x=>x.1.isSome)
   && decide ([b].length+([]:List Keyword).length+(if([]:List Keyword).isEmpty then 0 else 1)<30))=true:=by rfl)
  (hline:(apos.endLine==cpos.line)=true:=by rfl) (hs:starEach [b] X.env=(false,eval b X.env)::starEach [] X.env:=by rfl) (hpl:K' X.env cpos []:=by rfl):
  DE X (.Call (.Attribute a "rstrip" apos) [b] [] cpos) (dMt (fun x y=>.str (Txt.rstripChars x y)) ta tb):=by
 obtain⟨te,p1,l1⟩:=ha
 obtain⟨tf,p2,l2⟩:=hb
 refine⟨_,oW PySem.F.plainAttrs_str PySem.F.slot_str_rstrip PySem.F.type_str_rstrip eB p1 (zL p2 yh hs) hbase hfew hline hs hpl,fun ρ σ H Q r h R k=>l1 ρ σ H _ r h _ fun d v H1 s1 i1 zz=>?_⟩
 obtain⟨x,ed,hl,q1⟩:=zz
 subst ed
 obtain rfl:=is_str.mp i1
 refine⟨rfl,l2 ρ σ H1 _ (r.mono s1) q1 _ fun e u H2 s2 i2 zz=>?_⟩
 obtain⟨y,ee,q2⟩:=zz
 subst ee
 obtain rfl:=is_str.mp i2
 exact⟨x,y,rfl,rfl,by rw[sizeLine_eq];exact hl,k _ _ H2 (s1.trans s2) (is_str.mpr rfl) q2⟩
def Hx(te:DTE)(tl th:DTO):DTE:=fun ρ Q=>te ρ fun d=>tl ρ fun l=>th ρ fun u=>∃x,d=.str x∧x.length≤16777216∧Q (.str (Txt.slice x l u))
def tL{lo hi:Option Expr}{tl th:DTO}{p2:Pos}(ha:DE X a ta)(hl:DO X lo tl)(hu:DO X hi th):DE X (.Subscript a (.Slice lo hi none p2) pos) (Hx ta tl th):=by
 obtain⟨te,p1,l1⟩:=ha
 obtain⟨tf,p2,l2⟩:=hl
 obtain⟨tg,p3,l3⟩:=hu
 refine⟨_,jZ V2 p1 p2 p3,fun ρ σ H Q r h R k=>l1 ρ σ H _ r h _ fun d v H1 s1 i1 q1=>l2 ρ σ H1 _ (r.mono s1) q1 _ fun l H2 s2 q2=>l3 ρ σ H2 _ (r.mono (s1.trans s2)) q2 _ fun u H3 s3 zz=>?_⟩
 obtain⟨x,ed,hx,q⟩:=zz
 subst ed
 exact⟨x,is_str.mp i1,by rw[sizeLine_eq];exact hx,k _ _ H3 ((s1.trans s2).trans s3) (is_str.mpr rfl) q⟩
end
end OD
namespace L2
open PySem PySem.Spec PyProof.Rows
def ItS(z:Str):It:=⟨fun i _=>i<z.cps.size,fun i H x H'=>H'=H∧∃c,z.cps[i]? = some c∧x=.str ⟨#[c]⟩,fun i _=>z.cps.size≤i⟩
theorem gW{P:Program}{w:World}{K:Bq}{tg:Expr}(it:Addr)(z:Str)(t:Tok):mz P w K tg (ItS z) [it] it (fun i h=>h.IsStrIter it "str_ascii_iterator" z t i) where
 mem:=by simp
 obj:=fun i h st b hb=>by
  have e:b=it:=by simpa using hb
  subst e
  obtain⟨o,e,c,d⟩:=st
  exact⟨o,e,fun v z=>by rw[d]at z;cases z⟩
 keep:=fun i h h' st k=>by
  obtain⟨o,e,r⟩:=st
  exact⟨o,k it (by simp) o e,r⟩
 item:=by
  intro X hP hw hK hc i f' s σ H E I hf st hg
  subst hP hw hK
  obtain⟨f0,f1,f2,f3,f4,f5⟩:=hf it (by simp)
  have hg:i<z.cps.size:=hg
  have W:=Walks.strAscii (prog:=X.prog) (w:=X.w) (I.ok.hd hc) it z t
  refine W.item i s _ _ hg st fun v h' tk hv st' kk=>?_
  obtain⟨c,u,ec,rfl⟩:=hv
  have I1:Inv X f' σ H { s with heap:=h',toks:=tk }:=I.turned (fun b o hb e=>kk b o (by simpa using hb) e) f0 f1 f3 f4 f5
  obtain⟨o,e,cl,d⟩:=id st'
  exact⟨_,rfl,iP (s:={ s with heap:=h',toks:=tk }) e cl d (by decide) ⟨.str ⟨#[c]⟩,H,I1,⟨u,rfl⟩,⟨rfl,c,ec,rfl⟩,st',fun b hb=>(hf b hb).1⟩⟩
 done:=by
  intro X hP hw hK hc i f' s σ H E I hf st hg
  subst hP hw hK
  obtain⟨f0,f1,f2,f3,f4,f5⟩:=hf it (by simp)
  have hg:z.cps.size≤i:=hg
  exact wpAny_pyNext_ascii_end (I.ok.hd hc) st (by simp;omega) fun h' eb=>⟨rfl,I.turned (t':=s.toks) (fun b o hb e=>eb b o hb e) f0 f1 f3 f4 f5⟩
 self:=fun _ _ _ _ _ st h=>wpAny_pyIter_striter_ascii st h
section
variable{X:Cx}{tg:Expr}
def Hl(tl:TE):TI:=fun σ H R=>tl σ H fun v H1=>∃z,v=.str z∧z.cps.all (· < 128)=true∧R (ItS z) H1
def Uh{l:Expr}{tl:TE}(hl:PE X l tl):PI X tg l (Hl tl):=by
 intro f' s σ H R I h
 refine thn (hl f' s σ H _ I h) fun v s1 zz=>?_
 obtain⟨x,H1,I1,r1,q1⟩:=zz
 obtain⟨z,e,ha,q⟩:=q1
 subst e
 obtain⟨t,rfl⟩:=r1
 refine wpAny_pyIter_ascii ha ?_
 refine⟨s1.heap.objs.size,[s1.heap.objs.size],_,_,H1,rfl,I1.kept (t':=s1.toks) fun b o e=>Heap.get?_push_of_some _ e,gW _ z t,⟨_,Heap.get?_push_size _ rfl,rfl,rfl⟩,fun b hb=>?_,q⟩
 have e:b=s1.heap.objs.size:=by simpa using hb
 subst e
 exact I1.fpOk (By _) (I1.hok.fresh (By _))
theorem XO{z:Str}{g:TG}{tb:TS}{D:tT}{σ:St}{H:Hp}(Pv:Nat→St→Hp→Prop)(h0:Pv 0 σ H)
  (hs:∀i c σ H,z.cps[i]? = some c→Pv i σ H→g (.str ⟨#[c]⟩) σ H fun σ2 H2=>tb { D with nx:=Pv (i+1),ct:=Pv (i+1),bk:=D.nx } σ2 H2) (hd:∀σ H,Pv z.cps.size σ H→D.nx σ H):
  ∃W:Nat→Nat→St→Hp→Prop,(∃m,W 0 m σ H)∧∀i m σ H,W i m σ H→
   ((ItS z).stop i H∧D.nx σ H)∨((ItS z).go i H∧∃N:St→Hp→Prop,(∀σ' H',N σ' H'→∃m',m'<m∧W (i+1) m' σ' H')∧∀x H',(ItS z).yld i H x H'→g x σ H' fun σ2 H2=>tb { D with nx:=N,ct:=N,bk:=D.nx } σ2 H2):=by
 refine⟨fun i m σ H=>m=z.cps.size-i∧i≤z.cps.size∧Pv i σ H,⟨z.cps.size,by simp,Nat.zero_le _,h0⟩,?_⟩
 rintro i m σ H ⟨rfl,hi,p⟩
 by_cases hlt:i<z.cps.size
 ·refine .inr ⟨hlt,Pv (i+1),fun σ' H' p'=>⟨z.cps.size-(i+1),by omega,rfl,hlt,p'⟩,fun x H' y=>?_⟩
  obtain⟨e,c,ec,y⟩:=y
  subst e y
  exact hs i c σ _ ec p
 ·have e:i=z.cps.size:=by omega
  subst e
  exact .inl ⟨By _,hd σ H p⟩
end
end L2
namespace OD
open PySem PySem.Spec PyProof.Rows L2
section
variable{X:Cx}{fr:Fr}{te:DTE}{pos:Pos}
def M0(j:Nat)(te:DTE)(tb:DTS):DTS:=fun D ρ=>te ρ fun d=>∃(x:Str)(Pv:Nat→DS→Prop),d=.str x∧x.cps.all (· < 128)=true∧Pv 0 ρ∧
 (∀i c ρ',x.cps[i]? = some c→Pv i ρ'→tb { D with nx:=Pv (i+1),ct:=Pv (i+1),bk:=D.nx } (ρ'.set j (.some (.str ⟨#[c]⟩))))∧∀ρ',Pv x.cps.size ρ'→D.nx ρ'
theorem cx{j:Nat}{x:Str}{a:Expr}{body:List Stmt}{tb:DTS}{px:Pos}(hc:X.calm=true)(hN:X.N.Nodup)(hi:X.N[j]? = some x)(hx:Loc X.env.scope x)(hp:PassesOwn (model X.prog X.w) X.A X.env X.xe)
  (h:DE X a te) (hb:DSs X fr body tb) (hs:∀x,foldedSetIterable a X.env x=pure x:=by intro _;rfl)
  (hf:X.fn x=true∨X.env.scope.names.lookup x=some .local:=by walk_at "f"):DSt X fr (.For (.Name x px) a body [] pos) (M0 j te tb):=by
 obtain⟨tt,p,l⟩:=h
 obtain⟨tbs,p2,l2⟩:=hb
 refine⟨_,vS hp hc (Uh p) (yf hN hi hx hf) p2 hs,fun W0 G ρ σ W D D' at_ s h=>l ρ σ W _ at_.rl h _ fun d v W1 s1 i1 zz=>?_⟩
 obtain⟨z,Pv,ed,hz,h0,ht,hd⟩:=zz
 subst ed
 have hg:Same G W1.g:=at_.gs.trans s1.g
 refine⟨z,is_str.mp i1,hz,XO (fun i=>InL X.K (Zx X) W0 W1 (Pv i)) ⟨ρ,W1,rfl,(at_.step s1).now,h0⟩ ?_ ?_⟩
 ·rintro i c σ' _ ec ⟨ρ',W2,rfl,a2,hp2⟩
  exact l2 W0 W1.g _ _ W2 { D with nx:=Pv (i+1),ct:=Pv (i+1),bk:=D.nx } _ (a2.set j (is_str.mpr rfl)) (yW s hg) (ht i c ρ' ec hp2)
 ·rintro σ' _ ⟨ρ',W2,rfl,a2,hp2⟩
  exact s.nx ρ' σ' W2 (a2.weak hg) (hd ρ' hp2)
end
open PySem
local macro_rules | `(tactic| walk_at "ws") => `(tactic| any_goals (first | assumption | wp_step))
def xf(c:Nat):Prop:=48≤c∧c≤57
def dgs(l:List Nat):Nat:=l.foldl (fun a c=>a*10+(c-48)) 0
def dgVal:List Nat→Int
 | 45::r=>-(dgs r:Int)
 | l=>dgs l
def Numl(l:List Nat):Prop:=l=[48]∨∃c r,49≤c∧c≤57∧(∀x∈r,xf x)∧(l=c::r∨l=45::c::r)
def Numl.mem{l:List Nat}(h:Numl l):∀c∈l,45≤c∧c≤57:=by
 rcases h with rfl|⟨c,r,c1,c2,hr,rfl|rfl⟩
 ·intro c hc
  rw[BD.mp hc];decide
 ·intro x hx
  rcases BE.mp hx with rfl|hx
  ·omega
  ·have:=hr x hx
   unfold xf at this;omega
 ·intro x hx
  rcases BE.mp hx with rfl|hx
  ·decide
  rcases BE.mp hx with rfl|hx
  ·omega
  ·have:=hr x hx
   unfold xf at this;omega
def ten{c:Nat}(h:xf c):c=48∨c=49∨c=50∨c=51∨c=52∨c=53∨c=54∨c=55∨c=56∨c=57:=by
 unfold xf at h;omega
theorem tU{p:Nat→Bool}:∀{l:List Nat},(∀x∈l,p x=true)→l.takeWhile p=l
 | [],_=>rfl
 | c::r,h=>by rw[List.takeWhile_cons,if_pos (h c BJ),tU fun x hx=>h x (BI _ hx)]
theorem cq{f:Array Nat×Bool→Nat→Option (Array Nat×Bool)}(hf:∀a b c,xf c→f (a,b) c=some (a.push (c-48),true)):∀(l:List Nat)(a:Array Nat)(b:Bool),(∀x∈l,xf x)→l.foldlM f (a,b)=some (a++(l.map (· - 48)).toArray,b || !l.isEmpty)
 | [],a,b,_=>by simp
 | c::r,a,b,h=>by
  rw[List.foldlM_cons,hf a b c (h c BJ)]
  show r.foldlM f (a.push (c-48),true)=_
  rw[cq hf r _ _ fun x hx=>h x (BI _ hx)]
  simp
def bV{p:Nat→Bool}(hp:∀c,xf c→p c=false):∀(l:List Nat),(∀x∈l,xf x)→l≠[]→(l.reverse.dropWhile p).reverse=l:=fun l h hn=>by
 cases e:l.reverse with
 | nil=>simp at e;exact absurd e hn
 | cons c r=>
  rw[List.dropWhile_cons,hp c (h c (by rw[←B',e];exact BJ))]
  simp only[Bool.false_eq_true,if_false]
  rw[←e,CV]
theorem mR{N:Type}{R inv lib:N}{tl:Nat→N}{val:Int→N}{p:Nat→Bool}{f:Array Nat×Bool→Nat→Option (Array Nat×Bool)}{g:Array Nat×Bool→Option (Array Nat)}{cs:List Nat}{neg:Bool}
  (hR:R=(match(cs.reverse.dropWhile p).reverse.foldlM f (#[],false) >>= g with
   | none=>inv
   | some ds=>if(![2,4,8,16,32].contains 10&&0 != 0&&decide (ds.size>0))=true then tl ds.size else if(10==10&&decide (ds.size>6000))=true then lib else
    if(false&&ds.foldl (fun acc d=>acc*10+d) 0 != 0)=true then inv else val (if neg=true then -((ds.foldl (fun acc d=>acc*10+d) 0:Nat):Int) else((ds.foldl (fun acc d=>acc*10+d) 0:Nat):Int))))
  (hf:∀a b c,xf c→f (a,b) c=some (a.push (c-48),true)) (hp:∀c,xf c→p c=false) (hg:∀a,g (a,true)=some a) (hd:∀x∈cs,xf x) (hn:cs≠[]) (hl:cs.length≤640):
  R=val (if neg=true then -(dgs cs:Int) else dgs cs):=by
 rw[hR,bV hp cs hd hn,cq hf cs _ _ hd]
 have e:(false || !cs.isEmpty)=true:=by cases cs<;>first|rfl|exact absurd rfl hn
 rw[e]
 show(match g (#[]++(cs.map (· - 48)).toArray,true) with|none=>inv|some ds=>_)=_
 rw[hg]
 have sz:(#[]++(cs.map (· - 48)).toArray:Array Nat).size=cs.length:=by simp
 have fo:(#[]++(cs.map (· - 48)).toArray:Array Nat).foldl (fun acc d=>acc*10+d) 0=dgs cs:=by simp[dgs,List.foldl_map]
 show(if(![2,4,8,16,32].contains 10&&0 != 0&&decide ((#[]++(cs.map (· - 48)).toArray:Array Nat).size>0))=true then _ else _)=_
 rw[if_neg (by simp),if_neg (by rw[sz];simp;omega),if_neg (by simp),fo]
theorem meets_int_new_str(x:Str)(t:Tok)(hx:Numl x.cps.toList)(hl:x.cps.toList.length≤640):
  Meets (Builtin.«int.__new__» ⟨[.type "int",.str x t],[]⟩) (Made.int (dgVal x.cps.toList)).spec:=
 Meets.of_wp fun prog w A R s h=>by
  obtain⟨hp,g,d,tk,os⟩:=s
  have hm:=hx.mem
  have ha:x.cps.all (· < 128)=true:=by
   rw[←Array.all_toList,Co]
   intro c hc
   have:=hm c hc
   exact decide_eq_true (by omega)
  have hz:x.cps.toList.takeWhile (· != 0)=x.cps.toList:=tU fun c hc=>by
   have:=hm c hc
   simp
   omega
  clear hm
  have f1:=F.conv_sub_int
  have f2:=F.madeHere_int
  have f3:typeLookup (.type "str") "__int__"=pure none:=by rw[typeLookup_type,builtinLookup_eq_fast];kernel_rfl
  have f4:typeLookup (.type "str") "__index__"=pure none:=by rw[typeLookup_type,builtinLookup_eq_fast];kernel_rfl
  have f5:typeLookup (.type "str") "__trunc__"=pure none:=by rw[typeLookup_type,builtinLookup_eq_fast];kernel_rfl
  iterate 48 walk_at "ws"
  simp only[ha,if_true]
  repeat walk_at "ws"
  simp only[hz,hl,if_true]
  repeat walk_at "ws"
  generalize x.cps.toList=l at *
  rcases hx with rfl|⟨c,r,c1,c2,hr,rfl|rfl⟩
  ·split
   ·rename_i heq
    injection heq
   ·rename_i heq
    injection heq
   ·rename_i heq
    injection heq with heq
    subst heq
    repeat walk_at "ws"
    exact⟨_,rfl,h⟩
   ·rename_i heq
    injection heq
  all_goals
   have nn:c=49∨c=50∨c=51∨c=52∨c=53∨c=54∨c=55∨c=56∨c=57:=by omega
   have hd:∀x∈c::r,xf x:=fun x hx=>by
    rcases BE.mp hx with rfl|hx
    ·exact⟨by omega,by omega⟩
    ·exact hr x hx
   have hl':(c::r).length≤640:=by simp only[List.length_cons]at hl ⊢; omega
  ·have hv:(if false=true then -(dgs (c::r):Int) else dgs (c::r))=dgVal (c::r):=by
    rcases nn with rfl|rfl|rfl|rfl|rfl|rfl|rfl|rfl|rfl<;>rfl
   split
   all_goals
    rename_i heq
    have e:=(mR (neg:=false) (cs:=c::r) (by rcases nn with rfl|rfl|rfl|rfl|rfl|rfl|rfl|rfl|rfl<;>rfl) (fun a b c h=>by rcases ten h with rfl|rfl|rfl|rfl|rfl|rfl|rfl|rfl|rfl|rfl<;>rfl) (fun c h=>by rcases ten h with rfl|rfl|rfl|rfl|rfl|rfl|rfl|rfl|rfl|rfl<;>rfl) (fun a=>rfl) hd (fun z=>nomatch z) hl').symm.trans heq
   ·injection e
   ·injection e
   ·injection e with e
    rw[hv]at e
    subst e
    repeat walk_at "ws"
    exact⟨_,rfl,h⟩
   ·injection e
  ·split
   all_goals
    rename_i heq
    have e:=(mR (neg:=true) (cs:=c::r) (by rcases nn with rfl|rfl|rfl|rfl|rfl|rfl|rfl|rfl|rfl<;>rfl) (fun a b c h=>by rcases ten h with rfl|rfl|rfl|rfl|rfl|rfl|rfl|rfl|rfl|rfl<;>rfl) (fun c h=>by rcases ten h with rfl|rfl|rfl|rfl|rfl|rfl|rfl|rfl|rfl|rfl<;>rfl) (fun a=>rfl) hd (fun z=>nomatch z) hl').symm.trans heq
   ·injection e
   ·injection e
   ·injection e with e
    subst e
    repeat walk_at "ws"
    exact⟨_,rfl,h⟩
   ·injection e
end OD
namespace L2
open PySem PySem.Spec PyProof.Rows
section
variable{X:Cx}
def jm:tu X (.type "int") (fun xs H Q=>∃z,xs=[.str z]∧OD.Numl z.cps.toList∧z.cps.toList.length≤640∧Q (.int (OD.dgVal z.cps.toList)) H):=by
 intro f' s σ H xs us Q I r h
 obtain⟨z,rfl,hn,hl,q⟩:=h
 obtain⟨t,rfl⟩:=r.oneS
 exact call_int_1 (OD.meets_int_new_str z t hn hl) ⟨rfl,.int _,H,I.tok _,⟨_,rfl⟩,q⟩
theorem mD:∀{ts:List Str}{us:List Value},Vals (ts.map V.str) us→∃l,us=strValues l∧l.map (·.1)=ts
 | [],us,h=>by cases h;exact⟨[],rfl,rfl⟩
 | x::ts,us,h=>by
  cases h with
  | cons r h=>
   obtain⟨t,rfl⟩:=r
   obtain⟨l,rfl,e⟩:=mD h
   exact⟨(x,t)::l,rfl,by rw[Cg,e]⟩
def XA:MtR X "str.join" (fun x vs H Q=>∃z p ts,x=.str z∧vs=[.ref p]∧SqL X.K H p (ts.map V.str)∧JoinOk z ts=true∧Q (.str (Txt.join z ts)) H):=by
 intro f' s σ H x vs v us Q I rx rv h
 obtain⟨z,p,ts,rfl,rfl,hq,hok,q⟩:=h
 obtain⟨t,rfl⟩:=rx
 obtain⟨u,rfl,ru⟩:=rv.one
 cases ru
 obtain⟨its,r,pl,hz⟩:=I.list hq
 obtain⟨l,rfl,rfl⟩:=mD r
 exact SC.join pl.isList rfl hok fun t' k=>⟨.str _,H,I.tok _,⟨_,rfl⟩,q⟩
theorem mG:∀(tk:Nat)(ts:List Str),Vals (ts.map V.str) (strsFrom tk ts)
 | _,[]=>.nil
 | tk,x::r=>.cons ⟨tk,rfl⟩ (mG (tk+1) r)
def ZF:MtR X "str.split" (fun x vs H Q=>∃z y,x=.str z∧vs=[.str y]∧(y.length==0)=false∧z.length≤100000∧∀p,H p=none→Q (.ref p) (upd H p (.lst ((Txt.split z y).map V.str)))):=by
 intro f' s σ H x vs v us Q I rx rv h
 obtain⟨z,y,rfl,rfl,hy,hz,q⟩:=h
 obtain⟨t,rfl⟩:=rx
 obtain⟨u,rfl⟩:=rv.oneS
 have hs:z.length≤sizeLine:=by rw[sizeLine_eq];omega
 have q:=q _ I.fresh
 unfold Txt.split at q
 cases h1:(decide (z.length<y.length)||decide (Builtin.Str.strKind z<Builtin.Str.strKind y))
 ·rw[h1,if_neg Bw]at q
  cases hf:(Builtin.Str.occurrences z y 0 z.length (z.length+1)).isEmpty
  ·rw[hf,if_neg Bw]at q
   have hn:(Builtin.Str.partsBetween z (Builtin.Str.occurrences z y 0 z.length (z.length+1)) y.length).length≤sizeLine:=by
    rw[length_partsBetween,sizeLine_eq]
    have:=StrLaws.occ_length_le z y 0 z.length (z.length+1)
    omega
   refine call_meets PySem.F.slot_str_split (typeIs_str s z t) PySem.F.entry_str_split (PySem.F.args_str_split_2 _ _) (meets_str_split_sep z y t u h1 hy hf hs hn) ?_
   exact⟨.ref _,_,I.lnew (mG _ _) (by rw[Bs];exact hn),rfl,q⟩
  ·rw[hf,if_pos rfl]at q
   refine call_meets PySem.F.slot_str_split (typeIs_str s z t) PySem.F.entry_str_split (PySem.F.args_str_split_2 _ _) (meets_str_split_not_found z y t u h1 hy hf) ?_
   exact⟨.ref _,_,I.lnew (its:=[Value.str z t]) (t':=s.toks) (ys:=[V.str z]) (.cons ⟨t,rfl⟩ .nil) (by rw[sizeLine_eq];show 1≤16777216;decide),rfl,q⟩
 ·rw[h1,if_pos rfl]at q
  refine call_meets PySem.F.slot_str_split (typeIs_str s z t) PySem.F.entry_str_split (PySem.F.args_str_split_2 _ _) (meets_str_split_cannot_occur z y t u h1) ?_
  exact⟨.ref _,_,I.lnew (its:=[Value.str z t]) (t':=s.toks) (ys:=[V.str z]) (.cons ⟨t,rfl⟩ .nil) (by rw[sizeLine_eq];show 1≤16777216;decide),rfl,q⟩
end
end L2
namespace OD
open PySem PySem.Spec PyProof.Rows L2
section
variable{X:Cx}{a b e:Expr}{ta tb:DTE}{p pos p0:Pos}{x:Str}
def hZ{y:Str}(hg:Gl X x)(hm:∃tk,X.mg x=some (.str y tk))(hd:ug x:=by decide):DE X (.Name x pos) (dC (.str y)):=by
 obtain⟨tk,hm⟩:=hm
 exact X4 hg hm hd
def MV(ta:DTE):DTE:=fun ρ Q=>ta ρ fun d=>∃x:Str,d=.str x∧Numl x.cps.toList∧x.cps.toList.length≤640∧Q (.int (dgVal x.cps.toList))
def cG(hg:Gl X "int")(hm:X.mg "int"=none)(ha:DE X a ta)(hs:starEach [a] X.env=(false,eval a X.env)::starEach [] X.env:=by rfl)(hpl:K' X.env pos []:=by rfl):
  DE X (.Call (.Name "int" p0) [a] [] pos) (MV ta):=by
 obtain⟨te,p1,l1⟩:=ha
 refine⟨_,qx jm hg hm lB (zL p1 yh hs) (by decide) (by decide) hs hpl,fun ρ σ H Q r h R k=>l1 ρ σ H _ r h _ fun d v H1 s1 i1 zz=>?_⟩
 obtain⟨x,ed,hn,hl,q⟩:=zz
 subst ed
 exact⟨x,by rw[is_str.mp i1],hn,hl,k _ _ H1 s1 (is_int.mpr rfl) q⟩
variable{apos cpos:Pos}
def MR(ta tb:DTE):DTE:=fun ρ Q=>ta ρ fun d=>∃x,d=.str x∧tb ρ fun e=>∃ts:List Str,xc e=some (ts.map Dt.str)∧JoinOk x ts=true∧Q (.str (Txt.join x ts))
theorem gj{K:Bq}{H:Hp}:∀{ts:List Str}{xs:List V},AllIs K H (ts.map Dt.str) xs→xs=ts.map V.str
 | [],xs,h=>allIs_nil.mp h
 | x::ts,xs,h=>by
  obtain⟨v,r,rfl,h1,h2⟩:=allIs_cons.mp h
  rw[gj h2,is_str.mp h1]
  rfl
def wV(ha:DE X a ta)(hb:DE X b tb)(hbase:attributeBase a "join" X.env (eval a X.env)=eval a X.env:=by rfl)
  (hfew:((backTo cpos (starEach [b] X.env)).all (fun x=>!x.1)&&(backToKw cpos (keywordEach [] X.env)).all (fun x=>x.1.isSome)
   && decide ([b].length+([]:List Keyword).length+(if([]:List Keyword).isEmpty then 0 else 1)<30))=true:=by rfl)
  (hline:(apos.endLine==cpos.line)=true:=by rfl) (hs:starEach [b] X.env=(false,eval b X.env)::starEach [] X.env:=by rfl) (hpl:K' X.env cpos []:=by rfl):
  DE X (.Call (.Attribute a "join" apos) [b] [] cpos) (MR ta tb):=by
 obtain⟨te,p1,l1⟩:=ha
 obtain⟨tf,p2,l2⟩:=hb
 refine⟨_,oW PySem.F.plainAttrs_str PySem.F.slot_str_join PySem.F.type_str_join XA p1 (zL p2 yh hs) hbase hfew hline hs hpl,fun ρ σ H Q r h R k=>l1 ρ σ H _ r h _ fun d v H1 s1 i1 zz=>?_⟩
 obtain⟨x,ed,q1⟩:=zz
 subst ed
 obtain rfl:=is_str.mp i1
 refine⟨rfl,l2 ρ σ H1 _ (r.mono s1) q1 _ fun e u H2 s2 i2 zz=>?_⟩
 obtain⟨ts,ee,hok,q2⟩:=zz
 obtain⟨p,xs,rfl,h1,h2⟩:=kH i2 ee
 obtain rfl:=gj h2
 exact⟨x,p,ts,rfl,rfl,h1,hok,k _ _ H2 (s1.trans s2) (is_str.mpr rfl) q2⟩
def UX(ta tb:DTE):DTE:=fun ρ Q=>ta ρ fun d=>∃x,d=.str x∧x.length≤100000∧tb ρ fun e=>∃y,e=.str y∧(y.length==0)=false∧Q (.lst ((Txt.split x y).map Dt.str))
theorem jG{K:Bq}{H:Hp}:∀ts:List Str,AllIs K H (ts.map Dt.str) (ts.map V.str)
 | []=>allIs_nil.mpr rfl
 | x::ts=>allIs_cons.mpr ⟨_,_,rfl,is_str.mpr rfl,jG ts⟩
def u5(ha:DE X a ta)(hb:DE X b tb)(hbase:attributeBase a "split" X.env (eval a X.env)=eval a X.env:=by rfl)
  (hfew:((backTo cpos (starEach [b] X.env)).all (fun x=>!x.1)&&(backToKw cpos (keywordEach [] X.env)).all (fun x=>x.1.isSome)
   && decide ([b].length+([]:List Keyword).length+(if([]:List Keyword).isEmpty then 0 else 1)<30))=true:=by rfl)
  (hline:(apos.endLine==cpos.line)=true:=by rfl) (hs:starEach [b] X.env=(false,eval b X.env)::starEach [] X.env:=by rfl) (hpl:K' X.env cpos []:=by rfl):
  DF X (.Call (.Attribute a "split" apos) [b] [] cpos) (UX ta tb):=by
 obtain⟨te,p1,l1⟩:=ha
 obtain⟨tf,p2,l2⟩:=hb
 refine⟨_,oW PySem.F.plainAttrs_str PySem.F.slot_str_split PySem.F.type_str_split ZF p1 (zL p2 yh hs) hbase hfew hline hs hpl,fun ρ σ H Q r h R k=>l1 ρ σ H _ r h _ fun d v H1 s1 i1 zz=>?_⟩
 obtain⟨x,ed,hl,q1⟩:=zz
 subst ed
 obtain rfl:=is_str.mp i1
 refine⟨rfl,l2 ρ σ H1 _ (r.mono s1) q1 _ fun e u H2 s2 i2 zz=>?_⟩
 obtain⟨y,ee,hy,q2⟩:=zz
 subst ee
 obtain rfl:=is_str.mp i2
 refine⟨x,y,rfl,rfl,hy,hl,fun p hp=>?_⟩
 exact k _ p _ (H2.mine p _ (H2.sub.free hp)) ((s1.trans s2).trans (tF hp _)) ((s1.trans s2).h.free hp) zB (H2.sub.free hp) (jG _) q2
def Sc:Option Int→Dt
 | none=>.non
 | some i=>.int i
def Xq:Option Int→V
 | none=>.non
 | some i=>.int i
theorem gk{K:Bq}{H:Hp}:∀{os:List (Option Int)}{xs:List V},AllIs K H (os.map Sc) xs→xs=os.map Xq
 | [],xs,h=>allIs_nil.mp h
 | o::os,xs,h=>by
  obtain⟨v,r,rfl,h1,h2⟩:=allIs_cons.mp h
  rw[gk h2]
  cases o with
  | none=>rw[is_non.mp h1];rfl
  | some i=>rw[is_int.mp h1];rfl
theorem ld:∀os:List (Option Int),(os.map Xq).all ui=true
 | []=>rfl
 | o::os=>by rw[Cg,C3,ld os];cases o<;>rfl
theorem iI:∀os:List (Option Int),inV .non (os.map Xq)=os.any Option.isNone
 | []=>rfl
 | o::os=>by
  have ih:=iI os
  unfold inV at ih ⊢
  rw[Cg,C4,C4,ih]
  cases o<;>rfl
def Sm:DOp X (compareOp .In) (fun d e Q=>∃ds,∃os:List (Option Int),d=.non∧oK e=some ds∧ds=os.map Sc∧Q (.bl (os.any Option.isNone))):=by
 refine⟨_,mP,fun H x y d e Q i1 i2 q R k=>?_⟩
 obtain⟨ds,os,rfl,e1,rfl,q⟩:=q
 obtain⟨p,xs,rfl,h1,h2⟩:=rX i2 e1
 obtain rfl:=gk h2
 obtain rfl:=is_non.mp i1
 refine⟨p,_,rfl,h1,rfl,ld os,?_⟩
 show R (.bl (inV .non (os.map Xq))) H.h
 rw[iI]
 exact k _ _ H (Le.refl H) (is_bl.mpr rfl) q
end
section
variable{X:Cx}{a e:Expr}{tg:Expr}{ta:DTA}{te:DTE}{p0 pos1 rpos tpos:Pos}{h₀:ExceptHandler}{hs:List ExceptHandler}
def MF(ta:DTA):DTI:=fun ρ Q=>ta ρ fun ds=>∃d xs,ds=[d]∧xc d=some xs∧xs.length≤100000∧Q xs.length fun i e=>xs.reverse[i]? = some e
def e7(hg:Gl X "reversed")(hm:X.mg "reversed"=none)(h:DA X [a] ta)(hst:starEach [a] X.env=(false,eval a X.env)::starEach [] X.env:=by rfl)(hpl:K' X.env pos1 []:=by rfl):DI X tg (.Call (.Name "reversed" p0) [a] [] pos1) (MF ta):=by
 obtain⟨te,p,l⟩:=h
 refine⟨_,Zg hg hm p hst hpl,fun ρ σ W Q r h R k=>l ρ σ W _ r h _ fun ds vs W1 s1 i1 zz=>?_⟩
 obtain⟨d,xs,ed,el,hl,q⟩:=zz
 subst ed
 obtain⟨v1,rfl,j1⟩:=i1.one
 obtain⟨l1,us,rfl,hq,ha⟩:=sN j1 el
 refine⟨l1,us,rfl,hq W1 (Same.refl _),k _ _ _ W1 s1 hl (fun W2 s2=>⟨fun i hi=>?_,?_⟩) q⟩
 ·rw[ha.length]at hi
  have hv:us.reverse[i]? = some (us.reverse[i]'(by rw[BQ];exact hi)):=Bu _
  refine⟨⟨us,_,rfl,hq W2 s2,hv⟩,fun v' H3 ⟨e1,e2⟩=>⟨W2,Le.refl _,e1.symm,?_⟩⟩
  obtain⟨e,he,ie⟩:=ha.rev.get' (e2 us (hq W2 s2))
  exact⟨e,he,Is.mono0 s2 ie⟩
 ·exact⟨us,rfl,hq W2 s2,by rw[ha.length];exact By _⟩
def eX(he:DE X.nox e te):DSt X .d (.Try [.Return (some e) rpos] (h₀::hs) [] [] tpos) (UZ te):=by
 obtain⟨tt,p,l⟩:=he
 refine⟨Tw tt,fun f' s σ H D I h=>?_,fun W0 G ρ σ W D D' a s h=>l ρ σ W _ a.rl h _ fun d v W1 s1 i1 q1=>s.tl d v W1 (a.le.trans s1) i1 q1⟩
 refine wpAny_Try_except (wpAny_execs_cons (wpAny_Return_some (wpAny_mono (p f' s σ H _ (I.wish _) h) (fun v s1 zz=>?_) fun _ _ z=>z.elim)))
 obtain⟨x,H1,I1,r1,q1⟩:=zz
 exact⟨x,σ,H1,I1.unwish,r1,q1⟩
end
end OD
namespace L2
open PySem PySem.Spec PyProof.Rows
section
variable{P:Program}{w:World}
theorem items_int:∀{l:List Int}{its:List Value},Vals (l.map V.int) its→ItemsAre (intKind P w) l its
 | [],_,.nil=>.nil
 | n::l,_,.cons ⟨t,e⟩ r=>by
  subst e
  exact .cons (by simp[intKind,Value.isInt]) (items_int r)
end
end L2
namespace OD
open PySem PySem.Spec PyProof.Rows L2
def noObj(ρ:DS):Bool:=ρ.all fun s=>match s with|.obj _=>false|_=>true
section
def XG{W W2:Vw}{p:Addr}{o o':HO}(h0:W.h p=none)(s:Le (W.mine p o (W.sub.free h0)) W2)(hg:W2.g p=none):Le W (W2.mine p o' hg):=by
 have s0:=(tF h0 o).trans s
 refine⟨s0.g,fun b u q=>?_,s0.n⟩
 have:b≠p:=fun z=>by rw[z,h0]at q;cases q
 show upd W2.h p o' b=some u
 rw[zC this];exact s0.h _ _ q
end
end OD
namespace L2
open PySem PySem.Spec PyProof.Rows
def wI(P:Program)(w:World)(a:Addr)(ks:List (Str×Value)):Heap→Prop:=fun h=>(a==sysModules)=false∧ks.length≤sizeLine∧h.DictOf (PySem.strKind P w) a ks
def i_{P:Program}{w:World}{a:Addr}{ks:List (Str×Value)}{H:Hp}{h:Heap}(x:wI P w a ks h):ObjOk P w H h a (.ext (wI P w a ks)):=by
 refine⟨x,?_,fun h1 h2 ⟨y1,y2,o,es,ep,z1,z2⟩ k=>⟨y1,y2,o,es,ep,k o z1,z2⟩⟩
 obtain⟨_,_,o,_,_,e,_⟩:=x
 exact⟨o,e⟩
section
variable{X:Cx}{e1 e2 e3:Expr}{t1 t2 t3:TE}{a b c:Str}{j1 j2 j3:Nat}{q1 q2 q3 dp:Pos}
def tD3(P:Program)(w:World)(a b c:Str)(t1 t2 t3:TE):TE:=fun σ H Q=>∀p,H p=none→t1 σ (upd H p (.ext (wI P w p []))) fun v1 H1=>t2 σ H1 fun v2 H2=>t3 σ H2 fun v3 H3=>H3 p=some (.ext (wI P w p []))∧∀r1 r2 r3,RelV v1 r1→RelV v2 r2→RelV v3 r3→Q (.ref p) (upd H3 p (.ext (wI P w p [(a,r1),(b,r2),(c,r3)])))
def lN{P:Program}{w:World}{z:Str}{t:Tok}:(PySem.strKind P w).is z (.str z t)=true:=by
 show Value.isStrOf z (.str z t)=true
 simp[Value.isStrOf]
theorem T9(n1:a≠b)(n2:a≠c)(n3:b≠c)(h1:PE X e1 t1)(h2:PE X e2 t2)(h3:PE X e3 t3):
  PE X (.Dict [some (.Constant (.str a) j1 q1),some (.Constant (.str b) j2 q2),some (.Constant (.str c) j3 q3)] [e1,e2,e3] dp) (tD3 X.prog X.w a b c t1 t2 t3):=by
 intro f' s σ H Q I h
 have hb:sysModules<s.heap.objs.size:=Ce (by decide) (I.mod.glob.keeps I.bk).lt
 have hm:(s.heap.objs.size==sysModules)=false:=beq_eq_false_iff_ne.mpr (Ne.symm (BY hb))
 have h:=h _ (I.hok.fresh (By s.heap.objs.size))
 have I1:=I.laid (a:=s.heap.objs.size) (o:=.ext (wI X.prog X.w s.heap.objs.size [])) (h':=s.heap.push { cls:=.type "dict",data:=.dict #[] }) (t':=s.toks) (fun _ _ q=>Heap.get?_push_of_some _ q) (Nat.le_refl _) (i_ ⟨hm,Nat.zero_le _,Heap.DictOf.new s.heap⟩)
 refine wpAny_Dict_any rfl rfl (fun z=>nomatch z) (by show 3≤15;decide) (pairTrees_cons_walk (thn (kh f' _ σ _ (fun y H'=>y=V.str a∧t1 σ H' _) I1 ⟨rfl,h⟩) fun k1 s1 ⟨y1,H1,J1,ry1,ey1,g1⟩=>thn (h1 f' s1 σ H1 _ J1 g1) fun u1 s2 ⟨v1,H2,J2,rv1,g2⟩=>
  pairTrees_cons_walk (thn (kh f' s2 σ H2 (fun y H'=>y=V.str b∧t2 σ H' _) J2 ⟨rfl,g2⟩) fun k2 s3 ⟨y2,H3,J3,ry2,ey2,g3⟩=>thn (h2 f' s3 σ H3 _ J3 g3) fun u2 s4 ⟨v2,H4,J4,rv2,g4⟩=>
   pairTrees_cons_walk (thn (kh f' s4 σ H4 (fun y H'=>y=V.str c∧t3 σ H' _) J4 ⟨rfl,g4⟩) fun k3 s5 ⟨y3,H5,J5,ry3,ey3,g5⟩=>thn (h3 f' s5 σ H5 _ J5 g5) fun u3 s6 ⟨v3,H6,J6,rv3,e,g6⟩=>pairTrees_nil_walk ?_))))
 subst ey1;subst ey2;subst ey3
 obtain⟨t1',rfl⟩:=ry1
 obtain⟨t2',rfl⟩:=ry2
 obtain⟨t3',rfl⟩:=ry3
 obtain⟨z1,z2,dd⟩:=(show ObjOk X.prog X.w H6 s6.heap s.heap.objs.size (.ext (wI X.prog X.w s.heap.objs.size [])) from J6.hok _ _ e).1
 refine PySem.wpAny_storeAll (knd:=PySem.strKind X.prog X.w) _ [(a,u1),(b,u2),(c,u3)] [] s6 _ ⟨lN,rfl,lN,rfl,lN,rfl,trivial⟩ dd (by show 0+3≤sizeLine;decide) fun h' dd' hs=>?_
 have em:merged ([]:List (Str×Value)) [(a,u1),(b,u2),(c,u3)]=[(a,u1),(b,u2),(c,u3)]:=by
  simp[merged,stored,n1,n2,n3,Ne.symm n1,Ne.symm n2,Ne.symm n3]
 rw[em]at dd'
 have he:∃q,h'.get? s.heap.objs.size=some q:=let⟨q,_,_,hq,_⟩:=dd'; ⟨q,hq⟩
 exact⟨.ref s.heap.objs.size,_,J6.write (x:=s.heap.objs.size) (e:=s.heap.objs.size) (by rw[e];exact True.intro) (.inl rfl) (fun b q hb z=>(hs.2 b hb).trans z) he (i_ ⟨z1,by show 3≤sizeLine;decide,dd'⟩),rfl,g6 u1 u2 u3 rv1 rv2 rv3⟩
def Mm:IxR X (fun x y H Q=>∃p ks z v,x=.ref p∧y=.str z∧H p=some (.ext (wI X.prog X.w p ks))∧(∃r,valueAt ks z=some r∧RelV v r)∧Q v H):=by
 intro value slice f' s σ H x y v u Q I rx ry h hs
 obtain⟨p,ks,z,w,rfl,rfl,e,⟨r,hr,rw'⟩,q⟩:=h
 cases(show v=Value.ref p from rx)
 obtain⟨t,rfl⟩:=ry
 obtain⟨z1,z2,dd⟩:=(show ObjOk X.prog X.w H s.heap p (.ext (wI X.prog X.w p ks)) from I.hok p _ e).1
 exact subscriptTail_builtinR (x:=r) dd.mapOf.typeIs PySem.F.slot_dict_getitem.lookup (wpAny_getItem_of (knd:=PySem.strKind X.prog X.w) (k:=z) lN dd.mapOf hr ⟨rfl,w,H,I.tok _,rw',q⟩) hs
end
end L2
namespace OD
open PySem PySem.Spec PyProof.Rows L2
section
variable{X:Cx}{e1 e2 e3 key:Expr}{t1 t2 t3 tk:DTE}{a b c:Str}{j1 j2 j3:Nat}{q1 q2 q3 dp pos:Pos}
def dD3(a b c:Str)(t1 t2 t3 tk:DTE):DTE:=fun ρ Q=>t1 ρ fun d1=>t2 ρ fun d2=>t3 ρ fun d3=>tk ρ fun d=>∃z,d=.str z∧((z=a∧Q d1)∨(z=b∧Q d2)∨(z=c∧Q d3))
theorem MC(n1:a≠b)(n2:a≠c)(n3:b≠c)(h1:DE X e1 t1)(h2:DE X e2 t2)(h3:DE X e3 t3)(hk:DE X key tk)(hs:rQ key):
  DE X (.Subscript (.Dict [some (.Constant (.str a) j1 q1),some (.Constant (.str b) j2 q2),some (.Constant (.str c) j3 q3)] [e1,e2,e3] dp) key pos) (dD3 a b c t1 t2 t3 tk):=by
 obtain⟨s1,p1,l1⟩:=h1
 obtain⟨s2,p2,l2⟩:=h2
 obtain⟨s3,p3,l3⟩:=h3
 obtain⟨sk,pk,lk⟩:=hk
 refine⟨_,cc Mm (T9 n1 n2 n3 p1 p2 p3) pk hs,fun ρ σ W Q r h R k p hp=>?_⟩
 have g0:=W.sub.free hp
 have le0:=tF hp (.ext (wI X.prog X.w p []))
 refine l1 ρ σ (W.mine p (.ext (wI X.prog X.w p [])) g0) _ (r.mono le0) h _ fun d1 v1 W1 w1 i1 h=>l2 ρ σ W1 _ ((r.mono le0).mono w1) h _ fun d2 v2 W2 w2 i2 h=>l3 ρ σ W2 _ (((r.mono le0).mono w1).mono w2) h _ fun d3 v3 W3 w3 i3 h=>?_
 have w:=(w1.trans w2).trans w3
 have hp3:W3.h p=some (.ext (wI X.prog X.w p [])):=w.h _ _ zB
 have hg3:W3.g p=none:=w.n p (by show upd _ _ _ p≠none;rw[zB];intro z;cases z) g0
 refine⟨hp3,fun r1 r2 r3 f1 f2 f3=>?_⟩
 have le:=XG (o':=.ext (wI X.prog X.w p [(a,r1),(b,r2),(c,r3)])) hp w hg3
 refine lk ρ σ (W3.mine p (.ext (wI X.prog X.w p [(a,r1),(b,r2),(c,r3)])) hg3) _ (r.mono le) h _ fun d y W4 w4 i4 zz=>?_
 obtain⟨z,ez,hz⟩:=zz
 subst ez
 obtain rfl:=is_str.mp i4
 have hp4:W4.h p=some (.ext (wI X.prog X.w p [(a,r1),(b,r2),(c,r3)])):=w4.h _ _ zB
 have sg:Same W3.g W4.g:=w4.g
 rcases hz with ⟨rfl,q⟩|⟨rfl,q⟩|⟨rfl,q⟩
 ·exact⟨p,_,z,v1,rfl,rfl,hp4,⟨r1,by simp[valueAt],f1⟩,k d1 v1 W4 (le.trans w4) (Is.mono0 sg (i1.mono (w2.trans w3))) q⟩
 ·exact⟨p,_,z,v2,rfl,rfl,hp4,⟨r2,by simp[valueAt,n1],f2⟩,k d2 v2 W4 (le.trans w4) (Is.mono0 sg (i2.mono w3)) q⟩
 ·exact⟨p,_,z,v3,rfl,rfl,hp4,⟨r3,by simp[valueAt,n2,n3],f3⟩,k d3 v3 W4 (le.trans w4) (Is.mono0 sg i3) q⟩
end
end OD
namespace L2
open PySem PySem.Spec PyProof.Rows
section
variable{X:Cx}{e:Expr}{te:TE}{apos cpos p0:Pos}{x:Str}{a:Addr}{o:Obj}{kvs:List (Str×Value)}
def Xn(hg:Gl X x)(hm:X.mg x=some (.ref a))(ho:X.K.lookup a=some o)(hd:o.IsDictOf (strKind X.prog X.w) kvs)(ha:(a==sysModules)=false)(he:PE X e te)(hdb:ug x:=by decide)
  (hbase:attributeBase (.Name x p0) "get" X.env (eval (.Name x p0) X.env)=eval (.Name x p0) X.env:=by rfl)
  (hfew:((backTo cpos (starEach [e] X.env)).all (fun x=>!x.1)&&(backToKw cpos (keywordEach [] X.env)).all (fun x=>x.1.isSome)
   && decide ([e].length+([]:List Keyword).length+(if([]:List Keyword).isEmpty then 0 else 1)<30))=true:=by rfl)
  (hline:(apos.endLine==cpos.line)=true:=by rfl) (hs:starEach [e] X.env=[(false,eval e X.env)]:=by rfl):
  PE X (.Call (.Attribute (.Name x p0) "get" apos) [e] [] cpos) (fun σ H Q=>te σ H fun y H1=>∃k,y=.str k∧∃v,RelV v ((valueAt kvs k).getD .none)∧Q v H1):=by
 intro f' s σ H Q I h
 refine wpAny_Call_method_late hbase hfew hline rfl (thn (ki (v:=.ref a) hg hm rfl hdb f' s σ H (fun x H1=>x=.ref a∧te σ H1 fun y H1=>∃k,y=.str k∧∃v,RelV v ((valueAt kvs k).getD .none)∧Q v H1) I ⟨rfl,h⟩) fun v s1 zz=>?_)
 obtain⟨x,H1,I1,r1,ex,q1⟩:=zz
 subst ex
 cases(show v=Value.ref a from r1)
 have hd':∀{h:Heap},h.get? a=some o→h.DictOf (strKind X.prog X.w) a kvs:=fun hh=>Heap.dictOf_iff.mpr ⟨o,hh,hd⟩
 have h1:=(hd' (I1.kIn a o ho)).mapOf
 obtain⟨es,ep,hx,_⟩:=hd
 refine⟨"dict","dict.get",PySem.F.plainAttrs_dict,PySem.F.slot_dict_get,PySem.F.type_dict_get,h1.typeIs,fun b eb=>by cases eb;exact⟨o,I1.kIn a o ho,hx.2.1⟩,?_⟩
 rw[hs]
 refine wpAny_dict_get1 (knd:=strKind X.prog X.w) ha (thn (he f' s1 σ H1 _ I1 q1) fun u s2 zz=>?_)
 obtain⟨y,H2,I2,r2,k,ey,v,rv,q⟩:=zz
 subst ey
 obtain⟨t,rfl⟩:=(show ∃t,u=.str k t from r2)
 exact⟨k,_,strKind_is _ _ _ _,(hd' (I2.kIn a o ho)).mapOf,v,H2,I2.tok _,rv,q⟩
end
end L2
namespace OD
open PySem PySem.Spec PyProof.Rows L2
def xT(ns:List (Str×Int))(k:Str):Dt:=((ns.find? fun p=>decide (p.1=k)).map fun p=>Dt.int p.2).getD .non
structure GDi(P:Program)(w:World)(K:Bq)(mg:be)(x:Str)(ns:List (Str×Int)):Prop where
 ex:∃a o kvs,mg x=some (.ref a)∧K.lookup a=some o∧o.IsDictOf (strKind P w) kvs∧(a==sysModules)=false∧∀k,(∃i,xT ns k=.int i∧RelV (.int i) ((valueAt kvs k).getD .none))∨(xT ns k=.non∧(valueAt kvs k).getD .none=.none)
section
variable{X:Cx}{e:Expr}{t:DTE}{apos cpos p0:Pos}{x:Str}{ns:List (Str×Int)}
def MX(ns:List (Str×Int))(t:DTE):DTE:=fun ρ Q=>t ρ fun d=>∃k,d=.str k∧Q (xT ns k)
def X5(G:GDi X.prog X.w X.K X.mg x ns)(hg:Gl X x)(he:DE X e t)(hdb:ug x:=by decide)
  (hbase:attributeBase (.Name x p0) "get" X.env (eval (.Name x p0) X.env)=eval (.Name x p0) X.env:=by rfl)
  (hfew:((backTo cpos (starEach [e] X.env)).all (fun x=>!x.1)&&(backToKw cpos (keywordEach [] X.env)).all (fun x=>x.1.isSome)
   && decide ([e].length+([]:List Keyword).length+(if([]:List Keyword).isEmpty then 0 else 1)<30))=true:=by rfl)
  (hline:(apos.endLine==cpos.line)=true:=by rfl) (hs:starEach [e] X.env=[(false,eval e X.env)]:=by rfl):
  DE X (.Call (.Attribute (.Name x p0) "get" apos) [e] [] cpos) (MX ns t):=by
 obtain⟨a,o,kvs,h1,h2,h3,h4,h5⟩:=G.ex
 obtain⟨te,p,l⟩:=he
 refine⟨_,Xn hg h1 h2 h3 h4 p hdb hbase hfew hline hs,fun ρ σ W Q r h R k=>l ρ σ W _ r h _ fun d v W1 s1 i1 zz=>?_⟩
 obtain⟨kk,ed,q1⟩:=zz
 subst ed
 refine⟨kk,is_str.mp i1,?_⟩
 rcases h5 kk with ⟨i,e1,e2⟩|⟨e1,e2⟩
 ·rw[e1]at q1
  exact⟨.int i,e2,k _ _ W1 s1 (is_int.mpr rfl) q1⟩
 ·rw[e1]at q1
  rw[e2]
  exact⟨.non,rfl,k _ _ W1 s1 (is_non.mpr rfl) q1⟩
end
end OD
namespace L2
open PySem PySem.Spec PyProof.Rows
def bW{P:Program}{w:World}(l:List (Str×Tok×Value)){ep:Nat}(hn:(l.map (·.1)).Nodup):Obj.IsDictOf (strKind P w) ⟨.type "dict",none,.dict (l.map fun p=>(⟨PyData.keyHash w.params p.1,.str p.1 p.2.1,p.2.2⟩:DictEntry)).toArray ep,#[]⟩ (l.map fun p=>(p.1,p.2.2)):=by
 refine⟨_,_,⟨rfl,rfl,rfl⟩,rfl,fun e he=>?_,?_,?_⟩
 ·obtain⟨p,_,rfl⟩:=BR.mp (List.mem_toArray.mp he)
  exact⟨p.1,strKind_is _ _ _ _,rfl⟩
 ·rw[List.toList_toArray]
  induction l with
  | nil=>exact .nil
  | cons p l ih=>exact .cons (strKind_is _ _ _ _) rfl (ih (List.nodup_cons.mp hn).2)
 ·rw[Cy]
  exact hn
end L2
namespace OD
open PySem PySem.Spec PyProof.Rows L2
theorem mT(k:Str):∀l:List (Str×Tok×Int×Tok),(∃i,xT (l.map fun p=>(p.1,p.2.2.1)) k=.int i∧RelV (.int i) ((valueAt (l.map fun p=>(p.1,Value.int p.2.2.1 p.2.2.2)) k).getD .none))∨(xT (l.map fun p=>(p.1,p.2.2.1)) k=.non∧(valueAt (l.map fun p=>(p.1,Value.int p.2.2.1 p.2.2.2)) k).getD .none=.none)
 | []=>.inr ⟨rfl,rfl⟩
 | p::l=>by
  by_cases e:p.1=k
  ·refine .inl ⟨p.2.2.1,?_,p.2.2.2,?_⟩
   ·simp[xT,e]
   ·simp[valueAt,e]
  ·have ih:=mT k l
   have e1:xT ((p::l).map fun p=>(p.1,p.2.2.1)) k=xT (l.map fun p=>(p.1,p.2.2.1)) k:=by simp[xT,e]
   have e2:valueAt ((p::l).map fun p=>(p.1,Value.int p.2.2.1 p.2.2.2)) k=valueAt (l.map fun p=>(p.1,Value.int p.2.2.1 p.2.2.2)) k:=by simp[valueAt,e]
   rw[e1,e2]
   exact ih
theorem GDi.of{P:Program}{w:World}{K:Bq}{mg:be}{x:Str}{a:Addr}{ep:Nat}(l:List (Str×Tok×Int×Tok))(hm:mg x=some (.ref a))
  (ho:K.lookup a=some ⟨.type "dict",none,.dict (l.map fun p=>(⟨PyData.keyHash w.params p.1,.str p.1 p.2.1,.int p.2.2.1 p.2.2.2⟩:DictEntry)).toArray ep,#[]⟩) (hs:(a==sysModules)=false) (hn:(l.map (·.1)).Nodup):GDi P w K mg x (l.map fun p=>(p.1,p.2.2.1)):=by
 have h:=bW (P:=P) (w:=w) (ep:=ep) (l.map fun p=>(p.1,p.2.1,Value.int p.2.2.1 p.2.2.2)) (by rw[Cy];exact hn)
 rw[Cy,Cy]at h
 exact⟨a,_,_,hm,ho,h,hs,fun k=>mT k l⟩
section
variable{X:Cx}
def Uw:DOp X (compareOp .NotIn) (fun d e Q=>∃i ds ns,d=.str i∧oK e=some ds∧ue ds=some ns∧Q (.bl (!ns.any fun a=>a==i))):=by
 refine⟨_,kl,fun H x y d e Q i1 i2 q R k=>?_⟩
 obtain⟨i,ds,ns,rfl,e1,e2,q⟩:=q
 obtain⟨p,xs,rfl,h1,h2⟩:=rX i2 e1
 obtain rfl:=sS e2 h2
 obtain rfl:=is_str.mp i1
 refine⟨p,_,rfl,h1,rfl,qM ns,?_⟩
 show R (.bl (!inV (.str i) (ns.map V.str))) H.h
 rw[nr]
 exact k _ _ H (Le.refl H) (is_bl.mpr rfl) q
end
end OD
namespace My
open PySem L2 OD
local macro_rules | `(tactic| walk_at "sc") => `(tactic| exact ⟨rfl, rfl, rfl, by decide +kernel, rfl, by decide +kernel, by decide +kernel⟩)
local macro_rules | `(tactic| walk_at "ln") => `(tactic| (intros; rename_i h; repeat (first | (obtain ⟨e, _⟩ := h; subst e; rfl) | obtain ⟨_, h⟩ := h)))
def rom{n k:Nat}{A:Around}(hr:Room k A)(h:n≤k:=by decide):Room n A:=hr.mono h
local macro_rules | `(tactic| walk_at "rd1") => `(tactic| first | refine ⟨_, rfl, ?_⟩ | refine ⟨_, _, rfl, rfl, ?_⟩ | refine ⟨_, _, _, _, rfl, rfl, rfl, ?_⟩ | refine ⟨_, _, _, rfl, rfl, rfl, ?_⟩ | refine Hh ?_ | refine Hi ?_ | refine ⟨rfl, rfl, ?_⟩ | refine ⟨rfl, ?_⟩ | refine ⟨rL (by decide), ?_⟩ | refine ⟨uj (by decide), ?_⟩ | refine ⟨ge (by decide), ?_⟩ | refine ⟨Mj (by decide), ?_⟩ | refine ⟨Xz (by decide), ?_⟩ | refine ⟨_, _, rfl, ?_⟩)
local macro_rules | `(tactic| walk_at "rd") => `(tactic| repeat (walk_at "rd1"))
def ifT{b:Bool}{A B:Prop}(e:b=true)(h:A):if b=true then A else B:=by rw[if_pos e];exact h
def ifF{b:Bool}{A B:Prop}(e:b=false)(h:B):if b=true then A else B:=by rw[if_neg (by rw[e];exact Bw)];exact h
def ifB{b:Bool}{A B:Prop}(h1:b=true→A)(h2:b=false→B):if b=true then A else B:=by
 cases b with
 | true=>exact ifT rfl (h1 rfl)
 | false=>exact ifF rfl (h2 rfl)
def eqI{a b:Int}(h:a=b):eqD (.int a) (.int b)=true:=by rw[x6];exact beq_iff_eq.mpr h
def neI{a b:Int}(h:a≠b):eqD (.int a) (.int b)=false:=by rw[x6];exact beq_eq_false_iff_ne.mpr h
def qD{a b:Int}(h:eqD (.int a) (.int b)=true):a=b:=by rw[x6]at h;exact beq_iff_eq.mp h
def sH{a b:Int}(h:eqD (.int a) (.int b)=false):a≠b:=by rw[x6]at h;exact beq_eq_false_iff_ne.mp h
def nT{b:Bool}(h:b=true):(!b)=false:=by rw[h];rfl
def nF{b:Bool}(h:b=false):(!b)=true:=by rw[h];rfl
def Wz{b:Bool}(h:(!b)=true):b=false:=by cases b<;>first|rfl|cases h
def Zw{b:Bool}(h:(!b)=false):b=true:=by cases b<;>first|rfl|cases h
def zy(ns:List Int):Dt:=.lst (ns.map Dt.int)
def trim(ns:List Int):List Int:=(ns.reverse.dropWhile (· == 0)).reverse
def cZ:DSp:=fun ds Q=>∃ns:List Int,ds=[.scr ns]∧ns.length≤63∧Q (.bl true)
def jo{xs:List Int}{k:Int}(h0:0≤k)(h:k<xs.length):atI (xs.map Dt.int) k=some (.int (xs.getD k.toNat 0)):=by
 have e:((k.toNat:Nat):Int)=k:=Int.toNat_of_nonneg h0
 have hl:k.toNat<xs.length:=by omega
 have:=ud (j:=k.toNat) (xs:=xs.map Dt.int) (v:=.int (xs.getD k.toNat 0)) (by
  rw[Bx,Bu hl,Br,Bu hl]
  rfl)
 rwa [e]at this
def xA{ns:List Int}{i:Nat}(h:i<ns.length):atI (ns.map Dt.int) (i:Int)=some (.int (ns.getD i 0)):=by
 refine ud ?_
 rw[Bx,Bu h,Br,Bu h]
 rfl
def XH{n:Nat}{k:Int}(h0:0≤k)(h:k<n):ixN n k=some k.toNat:=by
 unfold ixN
 rw[if_pos h0,if_pos h]
def ZL{n:Nat}(h:0<n):ixN n (-1)=some (n-1):=by
 unfold ixN
 rw[if_neg (by decide),if_pos (by omega)]
 congr 1
 omega
def atI_last{xs:List Int}{z:Int}:atI ((xs++[z]).map Dt.int) (-1)=some (.int z):=by
 unfold atI
 rw[ZL (by rw[Bs,Bv];exact Nat.succ_pos _)]
 show((xs++[z]).map Dt.int)[((xs++[z]).map Dt.int).length-1]? = _
 rw[Bs,Bv,B3,B1 (by rw[Bs];exact Nat.le_of_eq (Nat.add_sub_cancel ..).symm)]
 rw[List.length_map,show xs.length+[z].length-1-xs.length=0 by simp]
 rfl
def Tk{ns:List Int}{n:Nat}:(ns.map Dt.int).all (okE n)=true:=by
 rw[Co]
 intro x hx
 obtain⟨z,_,e⟩:=BR.mp hx
 subst e
 cases n<;>rfl
def kE(ns:List Int):okE 40 (zy ns)=true:=Tk (n:=39)
def Yn(ms:List Int)(lo hi:Option Int):∃ms':List Int,Yo (ms.map Dt.int) lo hi=ms'.map Dt.int∧ms'.length≤ms.length∧∀z∈ms',z∈ms:=by
 unfold Yo
 rw[←List.map_drop,←List.map_take]
 refine⟨_,rfl,?_,fun t ht=>List.mem_of_mem_drop (List.mem_of_mem_take ht)⟩
 rw[List.length_take,List.length_drop]
 omega
def ZR{ns:List Int}{i:Nat}{x:Dt}(h:(ns.map Dt.int)[i]? = some x):x=.int (ns.getD i 0)∧i<ns.length:=by
 rw[Bx]at h
 cases q:ns[i]? with
 | none=>rw[q]at h;cases h
 | some z=>
  rw[q]at h
  have hl:i<ns.length:=by
   rcases Ca i ns.length with h|h
   ·exact h
   ·rw[BG h]at q;cases q
  rw[Br,q]
  exact⟨(Option.some.inj h).symm,hl⟩
def vw(xs:List Int)(z:Int):xs.map Dt.int++[.int z]=(xs++[z]).map Dt.int:=by rw[B3];rfl
def ux(xs:List Int)(j:Nat)(z:Int):(xs.map Dt.int).set j (.int z)=(xs.set j z).map Dt.int:=by rw[List.map_set]
def lu(xs:List Int):(xs.map Dt.int).dropLast=xs.dropLast.map Dt.int:=by rw[List.map_dropLast]
def zH(xs:List Int):(xs.map Dt.int).length=xs.length:=Bs _
def jF:trim []=[]:=rfl
def vh(xs:List Int):trim (xs++[0])=trim xs:=by
 unfold trim
 rw[CF]
 rfl
def sY{xs:List Int}{z:Int}(h:z≠0):trim (xs++[z])=xs++[z]:=by
 unfold trim
 rw[CF]
 show(List.dropWhile _ (z::xs.reverse)).reverse=_
 rw[List.dropWhile_cons,if_neg (by simpa using h),List.reverse_cons,List.reverse_reverse]
def zU(xs:List Int):xs=[]∨∃l z,xs=l++[z]:=by
 rcases List.eq_nil_or_concat xs with h|⟨l,z,h⟩
 ·exact .inl h
 ·exact .inr ⟨l,z,by rw[h,List.concat_eq_append]⟩
def wb(xs:List Int):(trim xs).length≤xs.length:=by
 unfold trim
 rw[BQ]
 refine BS (List.dropWhile_sublist _).length_le ?_
 rw[BQ]
 exact By _
theorem jC{i:Nat}{D:nS}{ρ:DS}{ms:List Int}(hi:ρ[i]? = some (.own (ms.map Dt.int)))(q:D.nx (ρ.set i (.own ((trim ms).map Dt.int)))):
  df (Ti (VC i) (pd (dOp gEq (MS i (Tc (dC (Dt.int 1)))) (dC (Dt.int 0))))) (U_ i) D ρ:=by
 have hl:i<ρ.length:=by
  rcases Ca i ρ.length with h|h
  ·exact h
  ·rw[BG h]at hi;cases hi
 refine⟨fun m ρ'=>∃l:List Int,ρ'=ρ.set i (.own (l.map Dt.int))∧l.length=m∧trim l=trim ms,⟨_,ms,?_,rfl,rfl⟩,?_⟩
 ·apply List.ext_getElem?
  intro j
  by_cases hj:i=j
  ·subst hj;rw[B0 hl];exact hi
  ·rw[BK hj]
 ·rintro m ρ' ⟨l,rfl,rfl,ht⟩
  have hg:(ρ.set i (.own (l.map Dt.int)))[i]? = some (.own (l.map Dt.int)):=B0 hl
  refine⟨_,hg,?_⟩
  rcases zU l with rfl|⟨l',z,rfl⟩
  ·refine ifF rfl (ifF rfl ?_)
   rw[←ht,jF]at q
   exact q
  ·refine ifT (by simp) ?_
   refine⟨_,hg,_,rfl,_,_,rfl,atI_last,rfl,rfl,_,rfl,?_⟩
   by_cases hz:z=0
   ·refine ifT (eqI hz) ?_
    subst hz
    refine⟨_,hg,by simp,l'.length,by rw[List.length_append];exact Nat.lt_succ_self _,l',?_,rfl,?_⟩
    ·rw[lu,List.dropLast_concat,List.set_set]
    ·rw[←ht,vh]
   ·refine ifF (neI hz) ?_
    rw[←ht,sY hz]at q
    exact q
inductive Kd where|plain|below|balanced|growing|falling|pairs
def Kd.num:Kd→Int
 | .plain=>0|.below=>1|.balanced=>2|.growing=>3|.falling=>4|.pairs=>5
def Kd.fld:Kd→Str
 | .plain=>"base" | .below=>"base" | .balanced=>"half" | .growing=>"first" | .falling=>"most" | .pairs=>"most"
def Kd.lo:Kd→Int
 | .plain=>2|.below=>2|.balanced=>1|.growing=>2|.falling=>1|.pairs=>1
def Kd.hi:Kd→Int
 | .plain=>60|.below=>60|.balanced=>30|.growing=>60|.falling=>9|.pairs=>9
def Kd.ok(k:Kd)(n:Int):Prop:=k.lo≤n∧n≤k.hi
def whole:Dt→Option Bool
 | .int _=>some true
 | .bl _=>some false
 | .tup _=>some false
 | .lst _=>some false
 | _=>none
def x_:DSp:=fun ds Q=>∃d b,ds=[d]∧whole d=some b∧Q (.bl b)
def xC:DSp:=fun ds Q=>∃n lo hi,ds=[.int n,.int lo,.int hi]∧lo≤n∧n≤hi∧Q (.int n)
inductive Nm where|i (n:Int)|p (a b:Int)
deriving DecidableEq
def Nm.dt:Nm→Dt
 | .i n=>.int n
 | .p a b=>.tup [.int a,.int b]
def Nm.re:Nm→Int
 | .i n=>n
 | .p a _=>a
def Nm.im:Nm→Int
 | .i _=>0
 | .p _ b=>b
def Nm.mul:Nm→Nm→Nm
 | .i a,.i b=>.i (a*b)
 | m,n=>.p (m.re*n.re-m.im*n.im) (m.re*n.im+m.im*n.re)
def Nm.mulOk(m n:Nm):Prop:=IntMulOk m.re n.re∧IntMulOk m.im n.im∧IntMulOk m.re n.im∧IntMulOk m.im n.re
def o_:Dt→Option Nm
 | .int a=>some (.i a)
 | .tup [.int a,.int b]=>some (.p a b)
 | _=>none
def vy:DSp:=fun ds Q=>∃d m,ds=[d]∧o_ d=some m∧Q (.tup [.int m.re,.int m.im])
def nP:DSp:=fun ds Q=>∃d e m n,ds=[d,e]∧o_ d=some m∧o_ e=some n∧m.mulOk n∧Q (m.mul n).dt
def xF{d:Dt}{m:Nm}(h:o_ d=some m):d=m.dt:=by
 unfold o_ at h
 split at h
 ·cases h;rfl
 ·cases h;rfl
 ·cases h
def ym(m:Nm):o_ m.dt=some m:=by cases m<;>rfl
def sG(m:Nm):okE 40 m.dt=true:=by cases m<;>rfl
def small{n:Int}(h0:-1000000≤n)(h1:n≤1000000)(c:Int):IntMulOk c n:=Mj (by rw[decide_eq_true_iff];omega)
def yJ{n:Int}(h0:-1000000≤n)(h1:n≤1000000)(c:Int):IntMulOk n c:=Xz (by rw[decide_eq_true_iff];omega)
def Kd.four:Kd→Bool
 | .plain=>true|.below=>true|.balanced=>true|.growing=>true|_=>false
def Kd.five:Kd→Bool
 | .falling=>false|_=>true
def Kd.low:Kd→Int→Int→Int
 | .balanced,n,_=>-n
 | _,_,_=>0
def Kd.high:Kd→Int→Int→Int
 | .plain,n,_=>n-1
 | .below,n,_=>n-1
 | .balanced,n,_=>n
 | .growing,n,p=>n+p-1
 | .falling,n,_=>n
 | .pairs,n,_=>n*n
def Kd.rat:Kd→Int→Int→Int
 | .plain,n,_=>n
 | .below,n,_=>-n
 | .balanced,n,_=>2*n+1
 | .growing,n,p=>n+p
 | _,_,_=>0
def Kd.ratN:Kd→Int→Int→Nm
 | .pairs,n,_=>.p (-n) 1
 | k,n,p=>.i (k.rat n p)
def Nm.add:Nm→Nm→Nm
 | .i a,.i b=>.i (a+b)
 | m,n=>.p (m.re+n.re) (m.im+n.im)
def rP:DSp:=fun ds Q=>∃d e m n,ds=[d,e]∧o_ d=some m∧o_ e=some n∧Q (m.add n).dt
def Kd.zero:Kd→Nm
 | .pairs=>.p 0 0
 | _=>.i 0
def wtF(n:Int):Nat→Int×Int
 | 0=>(1,1)
 | j+1=>((wtF n j).2,n*(wtF n j).2+(wtF n j).1)
def wtR(k:Kd)(n:Int):Nat→Nm
 | 0=>k.zero.add (.i 1)
 | j+1=>(k.ratN n j).mul (wtR k n j)
def wt:Kd→Int→Nat→Nm
 | .falling,n,j=>.i (wtF n j).2
 | k,n,j=>wtR k n j
def wts(k:Kd)(n:Int)(m:Nat):List Dt:=(List.range m).map fun j=>(wt k n j).dt
def jx(k:Kd)(n:Int)(m:Nat):wts k n (m+1)=wts k n m++[(wt k n m).dt]:=by
 unfold wts
 rw[List.range_succ,B3]
 rfl
def wa(k:Kd)(n:Int)(m:Nat):(wts k n m).length=m:=by
 unfold wts
 rw[Bs,Ch]
def VR{k:Kd}{n:Int}{m j:Nat}(h:j<m):(wts k n m)[j]? = some (wt k n j).dt:=by
 unfold wts
 rw[Bx,CA h]
 rfl
def xq{k:Kd}{n:Int}(h:k.ok n):1≤n∧n≤60:=by
 obtain⟨h1,h2⟩:=h
 cases k<;>simp only[Kd.lo,Kd.hi]at *<;>omega
def fH{k:Kd}{n p:Int}(h:k.ok n)(p0:0≤p)(p1:p≤1000):-1000000≤(k.ratN n p).re∧(k.ratN n p).re≤1000000∧-1000000≤(k.ratN n p).im∧(k.ratN n p).im≤1000000:=by
 obtain⟨h1,h2⟩:=xq h
 cases k<;>simp only[Kd.ratN,Kd.rat,Nm.re,Nm.im]<;>omega
def Y9{k:Kd}{n p:Int}(h:k.ok n)(p0:0≤p)(p1:p≤1000)(m:Nm):(k.ratN n p).mulOk m:=by
 obtain⟨a,b,c,d⟩:=fH h p0 p1
 exact⟨yJ a b _,yJ c d _,yJ a b _,yJ c d _⟩
def dA{k:Kd}{n:Int}{j:Nat}(h:k.five=true):wt k n j=wtR k n j:=by cases k<;>first|rfl|cases h
def Vp{a:Int}{k:Nat}(h:a.natAbs<2^k):Builtin.Int.intBits a≤k:=by
 rw[intBits_le_iff]
 exact h
def bdN(m:Nm)(k:Nat):Prop:=m.re.natAbs<2^k∧m.im.natAbs<2^k
def nc{a b:Int}{i j:Nat}(h:a.natAbs<2^i)(h':b.natAbs<2^j)(hij:i+j≤134217728):IntMulOk a b:=IntMulOk.of_le (Vp h) (Vp h') hij
def ZE{m n:Nm}{i j:Nat}(h:bdN m i)(h':bdN n j)(hij:i+j≤134217728):m.mulOk n:=⟨nc h.1 h'.1 hij,nc h.2 h'.2 hij,nc h.1 h'.2 hij,nc h.2 h'.1 hij⟩
def yu(k:Kd)(n:Int)(ns:List Int):Nat→Nm
 | 0=>k.zero
 | j+1=>(yu k n ns j).add ((Nm.i (ns.getD j 0)).mul (wt k n j))
def bdR(ns:List Int):Prop:=∀t∈ns,t.natAbs<2^5000
def ka{ns:List Int}{i:Nat}{x:Dt}(h:(ns.map Dt.int)[i]? = some x):x=.int (ns.getD i 0)∧i<ns.length:=by
 rw[Bx]at h
 cases q:ns[i]? with
 | none=>rw[q]at h;cases h
 | some z=>
  rw[q]at h
  have hl:i<ns.length:=by
   rcases Ca i ns.length with h|h
   ·exact h
   ·rw[BG h]at q;cases q
  rw[Br,q]
  exact⟨(Option.some.inj h).symm,hl⟩
def We{ns:List Int}(h:bdR ns)(i:Nat):(ns.getD i 0).natAbs<2^5000:=by
 rw[Br]
 cases q:ns[i]? with
 | none=>exact Nat.two_pow_pos 5000
 | some z=>exact h z (BH q)
def dz{k:Kd}{n:Int}{m i:Nat}{y:Dt}(h:(wts k n m)[i]? = some y):y=(wt k n i).dt:=by
 have hl:i<m:=by
  rcases Ca i m with q|q
  ·exact q
  ·rw[BG (by rw[wa];exact q)]at h;cases h
 rw[VR hl]at h
 exact(Option.some.inj h).symm
theorem ai{n:Int}(h1:1≤n)(h2:n≤60):∀j:Nat,(wtF n j).1.natAbs<2^(12*j+1)∧(wtF n j).2.natAbs<2^(12*j+1)
 | 0=>⟨(by decide:(1:Int).natAbs<2^1),(by decide:(1:Int).natAbs<2^1)⟩
 | j+1=>by
  obtain⟨a,b⟩:=ai h1 h2 j
  have pw:2^(12*(j+1)+1)=2^(12*j+1)*4096:=by rw[show 12*(j+1)+1=(12*j+1)+12 by omega,Ct]
  rw[pw]
  unfold wtF
  dsimp only
  generalize 2^(12 * j + 1)=B at *
  have hm:(n*(wtF n j).2).natAbs≤60*(wtF n j).2.natAbs:=by
   rw[Cf]
   exact Cu _ (by omega)
  have hs:=Int.natAbs_add_le (n*(wtF n j).2) (wtF n j).1
  exact⟨by omega,by omega⟩
def UA(r w:Nm):(r.mul w).re=r.re*w.re-r.im*w.im:=by cases r<;>cases w<;>simp[Nm.mul,Nm.re,Nm.im]
def UB(r w:Nm):(r.mul w).im=r.re*w.im+r.im*w.re:=by cases r<;>cases w<;>simp[Nm.mul,Nm.re,Nm.im]
theorem ah{k:Kd}{n:Int}(h:k.ok n):∀j:Nat,j≤1000→bdN (wtR k n j) (12*j+1)
 | 0,_=>by cases k<;>exact⟨(by decide:(1:Int).natAbs<2^1),(by decide:(0:Int).natAbs<2^1)⟩
 | j+1,hj=>by
  obtain⟨a,b⟩:=ah h j (by omega)
  have pw:2^(12*(j+1)+1)=2^(12*j+1)*4096:=by rw[show 12*(j+1)+1=(12*j+1)+12 by omega,Ct]
  obtain⟨r1,r2,r3,r4⟩:=fH (p:=(j:Int)) h (by omega) (by omega)
  have hr:(k.ratN n j).re.natAbs≤2000∧(k.ratN n j).im.natAbs≤1:=by
   obtain⟨h1,h2⟩:=xq h
   cases k<;>simp only[Kd.ratN,Kd.rat,Nm.re,Nm.im]<;>constructor<;>omega
  unfold bdN
  rw[pw]
  unfold wtR
  generalize 2^(12 * j + 1)=B at *
  generalize k.ratN n j=r at *
  generalize wtR k n j=w at *
  obtain⟨c,d⟩:=hr
  have m1:(r.re*w.re).natAbs≤2000*w.re.natAbs:=by rw[Cf];exact Cu _ c
  have m2:(r.im*w.im).natAbs≤1*w.im.natAbs:=by rw[Cf];exact Cu _ d
  have m3:(r.re*w.im).natAbs≤2000*w.im.natAbs:=by rw[Cf];exact Cu _ c
  have m4:(r.im*w.re).natAbs≤1*w.re.natAbs:=by rw[Cf];exact Cu _ d
  have s1:(r.re*w.re-r.im*w.im).natAbs≤(r.re*w.re).natAbs+(r.im*w.im).natAbs:=by omega
  have s2:=Int.natAbs_add_le (r.re*w.im) (r.im*w.re)
  rw[UA,UB]
  exact⟨by omega,by omega⟩
def Ts{k:Kd}{n:Int}(h:k.ok n){j:Nat}(hj:j≤1000):bdN (wt k n j) (12*j+1):=by
 by_cases h5:k.five=true
 ·rw[dA h5];exact ah h j hj
 ·cases k with
  | falling=>
   obtain⟨h1,h2⟩:=xq h
   exact⟨(ai h1 h2 j).2,show(0:Int).natAbs<_ from Nat.two_pow_pos _⟩
  | _=>exact absurd rfl h5
def HP{a:Int}{i:Nat}(h:a.natAbs<2^i):bdN (.i a) i:=⟨h,Nat.two_pow_pos _⟩
theorem wt4{k:Kd}{n:Int}(h:k.four=true):∀j,∃w,wtR k n j=.i w
 | 0=>by cases k<;>cases h<;>exact⟨_,rfl⟩
 | j+1=>by
  obtain⟨w,e⟩:=wt4 (n:=n) h j
  unfold wtR
  rw[e]
  cases k<;>cases h<;>exact⟨_,rfl⟩
theorem wt2{n:Int}:∀j,∃x y,wtR .pairs n j=.p x y
 | 0=>⟨_,_,rfl⟩
 | j+1=>by
  obtain⟨x,y,e⟩:=wt2 (n:=n) j
  unfold wtR
  rw[e]
  exact⟨_,_,rfl⟩
def wtI{k:Kd}{n:Int}(h:k≠.pairs)(j:Nat):∃w,wt k n j=.i w:=by
 cases k with
 | pairs=>exact absurd rfl h
 | falling=>exact⟨_,rfl⟩
 | _=>exact wt4 rfl _
def sF(k:Kd)(n:Int)(j:Nat)(t:Nm):Int:=match k with
 | .pairs=>(t.re+n*t.im).fmod (n*n+1)
 | k=>k.low n j+(t.re-k.low n j).fmod (k.high n j-k.low n j+1)
def sC(k:Kd)(n:Int)(j:Nat)(t:Nm):Nm:=match k with
 | .pairs=>.p (((t.re-sF .pairs n j t)*(-n)-t.im*(-1)).fdiv (n*n+1)) (((t.re-sF .pairs n j t)*(-1)+t.im*(-n)).fdiv (n*n+1))
 | k=>.i ((t.re-sF k n j t).fdiv (k.rat n j))
def Nm.ty(k:Kd)(m:Nm):Prop:=match k with
 | .pairs=>∃a b,m=.p a b
 | _=>∃a,m=.i a
def tot(k:Kd)(m:Nm):Prop:=k≠.pairs→∃a,m=.i a
def cAt(k:Kd)(n:Int)(ts:List Nm):Nat→Nm
 | 0=>k.zero
 | j+1=>sC k n j ((cAt k n ts j).add (ts.getD j (.i 0)))
def fAt(k:Kd)(n:Int)(ts:List Nm)(j:Nat):Int:=sF k n j ((cAt k n ts j).add (ts.getD j (.i 0)))
def vt(k:Kd)(n:Int)(ts:List Nm)(j:Nat):List Int:=(List.range j).map (fAt k n ts)
def crs(k:Kd)(n:Int)(ts:List Nm)(j:Nat):List Nm:=(List.range j).map (cAt k n ts)
def yI:Kd→Nm→Bool
 | .below,.i _=>true
 | .balanced,.i _=>true
 | .pairs,.p _ _=>true
 | .pairs,.i _=>false
 | _,.i a=>decide (0≤a)
 | _,.p _ _=>false
structure Fin(k:Kd)(n:Int)(ts:List Nm)(J:Nat):Prop where
 le:ts.length≤J
 z:cAt k n ts J=k.zero
 nz:∀j,ts.length≤j→j<J→cAt k n ts j≠k.zero∧yI k (cAt k n ts j)=true
def wN(k:Kd)(n:Int)(ts:List Nm):Nat→Nm
 | 0=>k.zero
 | j+1=>(wN k n ts j).add ((ts.getD j (.i 0)).mul (wt k n j))
def wF(k:Kd)(n:Int)(f:Nat→Int):Nat→Nm
 | 0=>k.zero
 | j+1=>(wF k n f j).add ((Nm.i (f j)).mul (wt k n j))
def zS(m n:Nm):(m.add n).re=m.re+n.re:=by cases m<;>cases n<;>simp[Nm.add,Nm.re]
def ye(m n:Nm):(m.add n).im=m.im+n.im:=by cases m<;>cases n<;>simp[Nm.add,Nm.im]
def zE(r w:Nm):(r.mul w).re=r.re*w.re-r.im*w.im:=by cases r<;>cases w<;>simp[Nm.mul,Nm.re,Nm.im]
def zI(r w:Nm):(r.mul w).im=r.re*w.im+r.im*w.re:=by cases r<;>cases w<;>simp[Nm.mul,Nm.re,Nm.im]
def xH{k:Kd}{m:Nm}(h:k≠.pairs)(t:m.ty k):∃a,m=.i a:=by
 cases k<;>first|exact t|exact absurd rfl h
def vz{k:Kd}{a:Int}(h:k≠.pairs):(Nm.i a).ty k:=by
 cases k<;>first|exact⟨_,rfl⟩|exact absurd rfl h
def yZ(k:Kd):(k.zero).ty k:=by cases k<;>first|exact⟨_,rfl⟩|exact⟨_,_,rfl⟩
def zY(k:Kd):(k.zero).re=0:=by cases k<;>rfl
def z_(k:Kd):(k.zero).im=0:=by cases k<;>rfl
def wD{k:Kd}{m m':Nm}(t:m.ty k)(t':m'.ty k)(h1:m.re=m'.re)(h2:m.im=m'.im):m=m':=by
 by_cases hk:k=.pairs
 ·subst hk
  obtain⟨a,b,rfl⟩:=t
  obtain⟨a',b',rfl⟩:=t'
  simp only[Nm.re,Nm.im]at h1 h2
  rw[h1,h2]
 ·obtain⟨a,rfl⟩:=xH hk t
  obtain⟨a',rfl⟩:=xH hk t'
  simp only[Nm.re]at h1
  rw[h1]
def aN(k:Kd)(n:Int)(j:Nat)(t:Nm):(sC k n j t).ty k:=by
 cases k<;>first|exact⟨_,rfl⟩|exact⟨_,_,rfl⟩
theorem wK(k:Kd)(n:Int)(ts:List Nm):∀j,(cAt k n ts j).ty k
 | 0=>yZ k
 | j+1=>aN k n j _
def uf{k:Kd}{c t:Nm}(h:c.ty k)(h':tot k t):(c.add t).ty k:=by
 by_cases hk:k=.pairs
 ·subst hk
  obtain⟨a,b,rfl⟩:=h
  cases t<;>exact⟨_,_,rfl⟩
 ·obtain⟨a,rfl⟩:=xH hk h
  obtain⟨b,rfl⟩:=h' hk
  exact vz hk
def xJ{k:Kd}{ts:List Nm}(h:∀t∈ts,tot k t)(j:Nat):tot k (ts.getD j (.i 0)):=by
 rw[Br]
 cases q:ts[j]? with
 | none=>exact fun _=>⟨0,rfl⟩
 | some t=>exact h t (BH q)
def bg{lo t n:Int}(hn:0<n):lo≤lo+(t-lo).fmod n∧lo+(t-lo).fmod n≤lo+n-1∧(lo+(t-lo).fmod n)+((t-(lo+(t-lo).fmod n)).fdiv n)*n=t:=by
 have h0:=Bz (t-lo) hn
 have h1:=BF (t-lo) hn
 have e:t-(lo+(t-lo).fmod n)=n*(t-lo).fdiv n:=by
  have:=Int.fmod_def (t-lo) n
  omega
 refine⟨by omega,by omega,?_⟩
 have d:(t-(lo+(t-lo).fmod n)).fdiv n=(t-lo).fdiv n:=by
  rw[e]
  exact CO _ (by omega)
 rw[d,Ci]
 omega
def bh{lo t n:Int}(hn:0<n):lo≤lo+(t-lo).fmod n∧lo+(t-lo).fmod n≤lo+n-1∧(lo+(t-lo).fmod n)+((t-(lo+(t-lo).fmod n)).fdiv (-n))*(-n)=t:=by
 have h0:=Bz (t-lo) hn
 have h1:=BF (t-lo) hn
 have e:t-(lo+(t-lo).fmod n)=(-n)*(-((t-lo).fdiv n)):=by
  have:=Int.fmod_def (t-lo) n
  rw[CM]
  omega
 refine⟨by omega,by omega,?_⟩
 have d:(t-(lo+(t-lo).fmod n)).fdiv (-n)=-((t-lo).fdiv n):=by
  rw[e]
  exact CO _ (by omega)
 rw[d,CM,Ci]
 have:=Int.fmod_def (t-lo) n
 omega
theorem oH{a b m:Int}(N:Int)(hN:N=m*m+1)(f:Int)(hf:f=(a+m*b).fmod N)(t0 t1:Int)(h0:t0=(a-f)*(-m)-b*(-1))(h1:t1=(a-f)*(-1)+b*(-m)):
  0≤f∧f≤m*m∧f-m*(t0.fdiv N)-t1.fdiv N=a∧t0.fdiv N-m*(t1.fdiv N)=b:=by
 have sq:0≤m*m:=by
  rcases Int.le_total 0 m with h|h
  ·exact BX h h
  ·exact Int.mul_nonneg_of_nonpos_of_nonpos h h
 have hp:0<N:=by omega
 have g0:=Bz (a+m*b) hp
 have g1:=BF (a+m*b) hp
 have e:=Int.fmod_def (a+m*b) N
 rw[←hf]at e g0 g1
 generalize (a+m*b).fdiv N=q at e
 have e0:t0=N*(b-m*q):=by subst hN;grind
 have e1:t1=N*(-q):=by subst hN;grind
 have d0:t0.fdiv N=b-m*q:=by rw[e0];exact CO _ (by omega)
 have d1:t1.fdiv N=-q:=by rw[e1];exact CO _ (by omega)
 rw[d0,d1]
 refine⟨g0,by omega,?_,?_⟩<;>subst hN<;>grind
def Kd.size:Kd→Int→Int→Int
 | .plain,n,_=>n
 | .below,n,_=>n
 | .balanced,n,_=>2*n+1
 | .growing,n,p=>n+p
 | _,_,_=>0
def rz{k:Kd}(h5:k.five=true)(hk:k≠.pairs):k.four=true:=by
 cases k<;>first|rfl|exact absurd rfl hk|cases h5
def lQ{k:Kd}(h:k.four=true)(n p:Int):k.high n p-k.low n p+1=k.size n p∧(k.rat n p=k.size n p∨k.rat n p=-(k.size n p)):=by
 cases k<;>cases h<;>simp only[Kd.high,Kd.low,Kd.size,Kd.rat]<;>refine⟨by omega,?_⟩<;>first|exact .inl rfl|exact .inr rfl|exact .inr trivial|exact .inl trivial
def oI{k:Kd}{n:Int}(h:k.four=true)(hn:k.ok n)(j:Nat):2≤k.size n j:=by
 obtain⟨h1,h2⟩:=hn
 cases k<;>cases h<;>simp only[Kd.lo,Kd.hi,Kd.size]at *<;>omega
theorem sZ{k:Kd}{n:Int}{j:Nat}{t:Nm}(h5:k.five=true)(hn:k.ok n)(ht:t.ty k):
  k.low n j≤sF k n j t∧sF k n j t≤k.high n j∧t.re=sF k n j t+((k.ratN n j).mul (sC k n j t)).re∧t.im=((k.ratN n j).mul (sC k n j t)).im:=by
 by_cases hk:k=.pairs
 ·subst hk
  obtain⟨g1,g2,g3,g4⟩:=oH (a:=t.re) (b:=t.im) (m:=n) (n*n+1) rfl _ rfl _ _ rfl rfl
  refine⟨g1,g2,?_,?_⟩
  ·rw[zE]
   show t.re=_+(-n*_-1*_)
   unfold sC sF Nm.re Nm.im at *
   dsimp only at *
   grind
  ·rw[zI]
   show t.im=(-n*_+1*_)
   unfold sC sF Nm.re Nm.im at *
   dsimp only at *
   grind
 ·have h4:=rz h5 hk
  obtain⟨e1,e2⟩:=lQ h4 n j
  have hp:=oI h4 hn j
  obtain⟨a,rfl⟩:=xH hk ht
  have eF:sF k n j (.i a)=k.low n j+(a-k.low n j).fmod (k.size n j):=by rw[←e1];cases k<;>first|rfl|exact absurd rfl hk
  have eC:sC k n j (.i a)=.i ((a-sF k n j (.i a)).fdiv (k.rat n j)):=by cases k<;>first|rfl|exact absurd rfl hk
  have eR:k.ratN n j=.i (k.rat n j):=by cases k<;>first|rfl|exact absurd rfl hk
  have s1:=bg (lo:=k.low n j) (t:=a) (n:=k.size n j) (by omega)
  have s2:=bh (lo:=k.low n j) (t:=a) (n:=k.size n j) (by omega)
  rw[eC,eR,eF]
  refine⟨s1.1,by have:=s1.2.1;omega,?_,rfl⟩
  show a=_+k.rat n j*_
  rw[Ci (k.rat n j)]
  rcases e2 with e|e
  ·rw[e];exact s1.2.2.symm
  ·rw[e];exact s2.2.2.symm
def xD{k:Kd}{n:Int}(h5:k.five=true)(j:Nat):wt k n (j+1)=(k.ratN n j).mul (wt k n j):=by
 cases k<;>first|rfl|cases h5
theorem bc{T1 T2 F1 F2 w1 w2 c1 c2 t1 t2 f r1 r2 d1 d2:Int}(h1:T1=F1+(w1*c1-w2*c2))(h2:T2=F2+(w1*c2+w2*c1))(s1:c1+t1=f+(r1*d1-r2*d2))(s2:c2+t2=r1*d2+r2*d1):
  T1+(t1*w1-t2*w2)=F1+(f*w1-0*w2)+((r1*w1-r2*w2)*d1-(r1*w2+r2*w1)*d2)∧T2+(t1*w2+t2*w1)=F2+(f*w2+0*w1)+((r1*w1-r2*w2)*d2+(r1*w2+r2*w1)*d1):=by
 have e1:c1=f+(r1*d1-r2*d2)-t1:=by omega
 have e2:c2=r1*d2+r2*d1-t2:=by omega
 subst e1 e2 h1 h2
 constructor<;>grind
theorem VY{k:Kd}{n:Int}{ts:List Nm}(h5:k.five=true)(hn:k.ok n)(ht:∀t∈ts,tot k t):∀j,
  (wN k n ts j).re=(wF k n (fAt k n ts) j).re+((wt k n j).mul (cAt k n ts j)).re∧(wN k n ts j).im=(wF k n (fAt k n ts) j).im+((wt k n j).mul (cAt k n ts j)).im
 | 0=>by
  unfold wN wF cAt
  rw[zE,zI,zY,z_]
  constructor<;>grind
 | j+1=>by
  obtain⟨i1,i2⟩:=VY h5 hn ht j
  obtain⟨_,_,s1,s2⟩:=sZ (j:=j) h5 hn (uf (wK k n ts j) (xJ ht j))
  have ec:cAt k n ts (j+1)=sC k n j ((cAt k n ts j).add (ts.getD j (.i 0))):=rfl
  have ef:fAt k n ts j=sF k n j ((cAt k n ts j).add (ts.getD j (.i 0))):=rfl
  rw[←ec,←ef]at s1
  rw[←ec]at s2
  rw[zS]at s1
  rw[ye]at s2
  have e1:(wN k n ts (j+1))=(wN k n ts j).add ((ts.getD j (.i 0)).mul (wt k n j)):=rfl
  have e2:(wF k n (fAt k n ts) (j+1))=(wF k n (fAt k n ts) j).add ((Nm.i (fAt k n ts j)).mul (wt k n j)):=rfl
  rw[e1,e2,xD h5]
  rw[zE]at s1
  rw[zI]at s2
  rw[zE]at i1
  rw[zI]at i2
  have R:=bc i1 i2 s1 s2
  simp only[zE,zI,zS,ye]
  exact R
def Lm{k:Kd}{c:Nm}(h:c.ty k):c.add (.i 0)=c:=by
 by_cases hk:k=.pairs
 ·subst hk
  obtain⟨a,b,rfl⟩:=h
  show Nm.p (a+0) (b+0)=_
  rw[Cp,Cp]
 ·obtain⟨a,rfl⟩:=xH hk h
  show Nm.i (a+0)=_
  rw[Cp]
def Tq{k:Kd}{c:Nm}(h:c.ty k):k.zero.add c=c:=by
 by_cases hk:k=.pairs
 ·subst hk
  obtain⟨a,b,rfl⟩:=h
  show Nm.p (0+a) (0+b)=_
  rw[Int.zero_add,Int.zero_add]
 ·obtain⟨a,rfl⟩:=xH hk h
  have:k.zero=.i 0:=by cases k<;>first|rfl|exact absurd rfl hk
  rw[this]
  show Nm.i (0+a)=_
  rw[Int.zero_add]
def Wa{k:Kd}{n:Int}{ts:List Nm}{j:Nat}(h:ts.length≤j):cAt k n ts (j+1)=sC k n j (cAt k n ts j):=by
 have e:ts.getD j (.i 0)=.i 0:=by rw[Br,BG h];rfl
 show sC k n j ((cAt k n ts j).add (ts.getD j (.i 0)))=_
 rw[e,Lm (wK k n ts j)]
def jY{s t f a:Int}(hs:2≤s)(f1:0≤f)(f2:f≤s-1)(q:t=f+s*a):2*a.natAbs≤t.natAbs+1∧(0≤t→0≤a)∧(t.natAbs≤1→0≤t→a=0):=by
 have hm:∀x:Int,0≤x→2*x≤s*x:=fun x hx=>Bt hs hx
 have e2:s*(-a)=-(s*a):=Cv ..
 have e3:s*(-a-1)=-(s*a)-s:=by rw[Int.mul_sub,Cc,e2]
 rcases(by omega:0≤a∨a≤-1) with z|z
 ·have:=hm a z
  exact⟨by omega,fun _=>z,fun _ _=>by omega⟩
 ·have:=hm (-a-1) (by omega)
  exact⟨by omega,fun _=>by omega,fun _ _=>by omega⟩
theorem mI{k:Kd}{n:Int}{j:Nat}{t a:Int}(h4:k.four=true)(hn:k.ok n)(e:sC k n j (.i t)=.i a):
  2*a.natAbs≤t.natAbs+1∧(yI k (.i t)=true→yI k (.i a)=true)∧(t.natAbs≤1→yI k (.i t)=true→a=0∨(t=-1∧a=1)):=by
 have h5:k.five=true:=by cases k<;>first|rfl|cases h4
 have hk:k≠.pairs:=fun z=>by rw[z]at h4;cases h4
 obtain⟨f1,f2,q,_⟩:=sZ (j:=j) h5 hn (t:=.i t) (vz hk)
 rw[e,zE]at q
 have hs:=oI h4 hn j
 obtain⟨h1,h2⟩:=hn
 generalize sF k n j (.i t)=f at *
 cases k with
 | falling=>cases h4
 | pairs=>cases h4
 | plain=>
  simp only[Kd.ratN,Kd.rat,Nm.re,Nm.im,Kd.low,Kd.high,Kd.size,yI,decide_eq_true_iff]at *
  obtain⟨p1,p2,p3⟩:=jY (t:=t) (a:=a) hs f1 f2 (by omega)
  exact⟨p1,p2,fun x y=>.inl (p3 x y)⟩
 | below=>
  simp only[Kd.ratN,Kd.rat,Nm.re,Nm.im,Kd.low,Kd.high,Kd.size,yI]at *
  have q':t=f-n*a:=by rw[q,CW];omega
  have hm:∀x:Int,0≤x→2*x≤n*x:=fun x hx=>Bt hs hx
  have e1:n*(a-1)=n*a-n:=by rw[Int.mul_sub,Cc]
  have e2:n*(-a)=-(n*a):=Cv ..
  have e3:n*(-a-1)=-(n*a)-n:=by rw[Int.mul_sub,Cc,e2]
  refine⟨?_,fun _=>trivial,fun h3 _=>?_⟩
  ·rcases(by omega:1≤a∨a=0∨a≤-1) with z|z|z
   ·have:=hm (a-1) (by omega);omega
   ·omega
   ·have:=hm (-a) (by omega);omega
  ·rcases(by omega:2≤a∨a=1∨a=0∨a≤-1) with z|z|z|z
   ·have:=hm (a-1) (by omega);omega
   ·subst z;omega
   ·exact .inl z
   ·have:=hm (-a) (by omega);omega
 | balanced=>
  simp only[Kd.ratN,Kd.rat,Nm.re,Nm.im,Kd.low,Kd.high,Kd.size,yI,Kd.lo]at *
  have q':t=f+2*(n*a)+a:=by rw[q,CH,Int.mul_assoc];omega
  have hm:∀x:Int,0≤x→x≤n*x:=fun x hx=>by
   have:=Bt h1 hx
   omega
  have e1:n*(a-1)=n*a-n:=by rw[Int.mul_sub,Cc]
  have e2:n*(-a)=-(n*a):=Cv ..
  have e3:n*(-a-1)=-(n*a)-n:=by rw[Int.mul_sub,Cc,e2]
  have key:2*a.natAbs≤t.natAbs:=by
   rcases(by omega:1≤a∨a=0∨a≤-1) with z|z|z
   ·have:=hm (a-1) (by omega);have:=hm a (by omega);omega
   ·omega
   ·have:=hm (-a-1) (by omega);have:=hm (-a) (by omega);omega
  exact⟨by omega,fun _=>trivial,fun _ _=>.inl (by omega)⟩
 | growing=>
  simp only[Kd.ratN,Kd.rat,Nm.re,Nm.im,Kd.low,Kd.high,Kd.size,yI,decide_eq_true_iff]at *
  obtain⟨p1,p2,p3⟩:=jY (t:=t) (a:=a) (s:=n+(j:Int)) hs f1 (by omega) (by omega)
  exact⟨p1,p2,fun x y=>.inl (p3 x y)⟩
def Wk{k:Kd}(h4:k.four=true):k.zero=.i 0:=by cases k<;>first|rfl|cases h4
def sC4{k:Kd}{n:Int}{j:Nat}{t:Nm}(h4:k.four=true):∃a,sC k n j t=.i a:=xH (fun z=>by rw[z]at h4;cases h4) (aN k n j t)
theorem Vy{k:Kd}{n:Int}(h4:k.four=true)(hn:k.ok n):∀(b:Nat)(j:Nat)(c:Nat→Nm)(t:Int),c 0=.i t→(∀i,c (i+1)=sC k n (j+i) (c i))→yI k (.i t)=true→t.natAbs≤2^b→∃m,m≤b+2∧c m=k.zero
 | 0,j,c,t,h0,hc,hh,hb=>by
  obtain⟨a,ea⟩:=sC4 (n:=n) (j:=j) (t:=.i t) h4
  have e1:c 1=.i a:=by rw[hc 0,h0];exact ea
  obtain⟨_,s2,s3⟩:=mI h4 hn ea
  rcases s3 hb hh with z|⟨_,z⟩
  ·exact⟨1,by omega,by rw[e1,z,Wk h4]⟩
  ·obtain⟨a2,ea2⟩:=sC4 (n:=n) (j:=j+1) (t:=.i a) h4
   have e2:c 2=.i a2:=by rw[hc 1,e1];exact ea2
   obtain⟨_,_,s5⟩:=mI h4 hn ea2
   rcases s5 (by omega) (s2 hh) with y|⟨y,_⟩
   ·exact⟨2,by omega,by rw[e2,y,Wk h4]⟩
   ·omega
 | b+1,j,c,t,h0,hc,hh,hb=>by
  obtain⟨a,ea⟩:=sC4 (n:=n) (j:=j) (t:=.i t) h4
  have e1:c 1=.i a:=by rw[hc 0,h0];exact ea
  obtain⟨s1,s2,_⟩:=mI h4 hn ea
  have hp:2^(b+1)=2*2^b:=by rw[CG];omega
  obtain⟨m,hm,e⟩:=Vy h4 hn b (j+1) (fun i=>c (i+1)) a e1 (fun i=>by rw[hc (i+1),show j+(i+1)=j+1+i by omega]) (s2 hh) (by omega)
  exact⟨m+1,by omega,e⟩
theorem jN{k:Kd}{n:Int}(h4:k.four=true)(hn:k.ok n){j:Nat}{c:Nat→Nm}{t:Int}(h0:c 0=.i t)(hc:∀i,c (i+1)=sC k n (j+i) (c i))(hh:yI k (.i t)=true):∀i,∃a,c i=.i a∧yI k (.i a)=true
 | 0=>⟨t,h0,hh⟩
 | i+1=>by
  obtain⟨a,e,h⟩:=jN h4 hn h0 hc hh i
  obtain⟨a',e'⟩:=sC4 (n:=n) (j:=j+i) (t:=.i a) h4
  exact⟨a',by rw[hc i,e];exact e',(mI h4 hn e').2.1 h⟩
def pA(n a b:Int):Int:=((a-(a+n*b).fmod (n*n+1))*(-n)-b*(-1)).fdiv (n*n+1)
def pB(n a b:Int):Int:=((a-(a+n*b).fmod (n*n+1))*(-1)+b*(-n)).fdiv (n*n+1)
def Y8(n:Int)(j:Nat)(a b:Int):sC .pairs n j (.p a b)=.p (pA n a b) (pB n a b):=rfl
def pz(n:Int):Nat→Int→Int→Bool
 | 0,a,b=>a==0&&b==0
 | m+1,a,b=>(a==0&&b==0)||pz n m (pA n a b) (pB n a b)
def V8:(List.range 9).all (fun n=>(List.range 31).all fun a=>(List.range 31).all fun b=>pz ((n:Int)+1) 14 ((a:Int)-15) ((b:Int)-15))=true:=by decide +kernel
def aY{n a b:Int}(n1:1≤n)(n2:n≤9)(a1:-15≤a)(a2:a≤15)(b1:-15≤b)(b2:b≤15):pz n 14 a b=true:=by
 have h:=Co.mp V8 (n-1).toNat (List.mem_range.mpr (by omega))
 have h:=Co.mp h (a+15).toNat (List.mem_range.mpr (by omega))
 have h:=Co.mp h (b+15).toNat (List.mem_range.mpr (by omega))
 rw[show(((n-1).toNat:Nat):Int)+1=n by omega,show(((a+15).toNat:Nat):Int)-15=a by omega,show(((b+15).toNat:Nat):Int)-15=b by omega]at h
 exact h
theorem kd{n:Int}:∀(m j:Nat)(c:Nat→Nm)(a b:Int),c 0=.p a b→(∀i,c (i+1)=sC .pairs n (j+i) (c i))→pz n m a b=true→∃i,i≤m∧c i=Kd.zero .pairs
 | 0,j,c,a,b,h0,hc,h=>by
  unfold pz at h
  rw[BL,beq_iff_eq,beq_iff_eq]at h
  exact⟨0,By _,by rw[h0,h.1,h.2];rfl⟩
 | m+1,j,c,a,b,h0,hc,h=>by
  unfold pz at h
  rw[Bool.or_eq_true]at h
  rcases h with h|h
  ·rw[BL,beq_iff_eq,beq_iff_eq]at h
   exact⟨0,by omega,by rw[h0,h.1,h.2];rfl⟩
  ·obtain⟨i,hi,e⟩:=kd m (j+1) (fun i=>c (i+1)) _ _ (by rw[hc 0,h0];exact Y8 n _ a b) (fun i=>by rw[hc (i+1),show j+(i+1)=j+1+i by omega]) h
   exact⟨i+1,by omega,e⟩
def ci{n a b:Int}:∃f,0≤f∧f≤n*n∧(a-f)*(a-f)+b*b=(n*n+1)*(pA n a b*pA n a b+pB n a b*pB n a b):=by
 obtain⟨g1,g2,g3,g4⟩:=oH (a:=a) (b:=b) (m:=n) (n*n+1) rfl _ rfl _ _ rfl rfl
 refine⟨_,g1,g2,?_⟩
 have e1:pA n a b=((a-(a+n*b).fmod (n*n+1))*(-n)-b*(-1)).fdiv (n*n+1):=rfl
 have e2:pB n a b=((a-(a+n*b).fmod (n*n+1))*(-1)+b*(-n)).fdiv (n*n+1):=rfl
 rw[←e1,←e2]at g3
 rw[←e1,←e2]at g4
 generalize (a + n * b).fmod (n * n + 1)=f at *
 generalize pA n a b=x at *
 generalize pB n a b=y at *
 have ea:a-f=-(n*x)-y:=by omega
 have eb:b=x-n*y:=by omega
 rw[ea,eb]
 grind
def yB(x:Int):0≤x*x:=by
 rcases Int.le_total 0 x with h|h
 ·exact BX h h
 ·exact Int.mul_nonneg_of_nonpos_of_nonpos h h
def UQ{a S:Int}(h:a*a≤S)(h2:256≤S):16*a≤S:=by
 by_cases z:16≤a
 ·exact CN (Bt z (by omega)) h
 ·omega
def aE{a:Int}(h:¬(-15≤a∧a≤15)):256≤a*a:=by
 rcases(by omega:16≤a∨16≤-a) with z|z
 ·have:=BP z z (by decide) (by omega);omega
 ·have:=BP z z (by decide) (by omega);rw[CM]at this;omega
def XU{S N p q t:Int}(h1:-(16*p)≤t)(h2:q≤82*N-81)(h3:1≤N)(h5:256*(4*N-3)≤4*t-3*S):8*(S-2*p+q)≤5*(t+S):=by omega
def ZX{n a b f:Int}(n1:1≤n)(n2:n≤9)(f0:0≤f)(f1:f≤n*n)(h:¬(-15≤a∧a≤15∧-15≤b∧b≤15)):8*((a-f)*(a-f)+b*b)≤5*((n*n+1)*(a*a+b*b)):=by
 have q1:1≤n*n:=BP n1 n1 (by decide) (CN (by decide) n1)
 have q2:n*n≤81:=BP n2 n2 (CN (by decide) n1) (by decide)
 generalize n * n=N at *
 have hS:256≤a*a+b*b:=by
  have sa:=yB a
  have sb:=yB b
  by_cases z:-15≤a∧a≤15
  ·have:=aE (a:=b) fun y=>h ⟨z.1,z.2,y.1,y.2⟩
   omega
  ·have:=aE z
   omega
 have h16:16 * -a≤a*a+b*b:=UQ (by rw[CM];have:=yB b;omega) hS
 have e:(a-f)*(a-f)+b*b=(a*a+b*b)-2*(a*f)+f*f:=by grind
 rw[e,CH,CC]
 generalize a * a + b * b=S at *
 have k1:=BB h16 f0
 have k2:=Bt f1 (show 0≤S by omega)
 have k3:f*f≤N*N:=BP f1 f1 f0 (by omega)
 have k4:=BX (show 0≤N-1 by omega) (show 0≤81-N by omega)
 have e4:(N-1)*(81-N)=82*N-81-N*N:=by grind
 have k5:=BB hS (show 0≤4*N-3 by omega)
 have e5:(4*N-3)*S=4*(N*S)-3*S:=by grind
 have e1:f*(16 * -a)=-(16*(a*f)):=by grind
 rw[e4]at k4
 rw[e5]at k5
 rw[e1]at k1
 exact XU (CN k1 k2) (by omega) q1 (by rw[Ci];exact k5)
def iA{n a b:Int}(n1:1≤n)(n2:n≤9)(h:¬(-15≤a∧a≤15∧-15≤b∧b≤15)):8*(pA n a b*pA n a b+pB n a b*pB n a b)≤5*(a*a+b*b):=by
 obtain⟨f,f0,f1,e⟩:=ci (n:=n) (a:=a) (b:=b)
 have k:=ZX n1 n2 f0 f1 h
 rw[e]at k
 have q1:0<n*n+1:=by have:=yB n;omega
 generalize pA n a b * pA n a b + pB n a b * pB n a b=X at *
 generalize a * a + b * b=Y at *
 generalize n * n + 1=N at *
 have k':N*(8*X)≤N*(5*Y):=by
  have r1:N*(8*X)=8*(N*X):=by grind
  have r2:N*(5*Y)=5*(N*Y):=by grind
  rw[r1,r2];exact k
 exact Int.le_of_mul_le_mul_left k' q1
def MA{n:Int}(n1:1≤n)(n2:n≤9):∀(d j:Nat)(c:Nat→Nm)(a b:Int),c 0=.p a b→(∀i,c (i+1)=sC .pairs n (j+i) (c i))→a*a+b*b≤((2^d:Nat):Int)→∃m,m≤2*d+16∧c m=Kd.zero .pairs:=by
 intro d
 induction d with
 | zero=>
  intro j c a b h0 hc hb
  have sa:=yB a
  have sb:=yB b
  have hb':a*a+b*b≤1:=hb
  have ha:-15≤a∧a≤15:=by
   constructor
   ·rcases CB a (-15) with z|z
    ·have:=BP (show 16≤-a by omega) (show 16≤-a by omega) (by decide) (by omega)
     rw[CM]at this;omega
    ·exact z
   ·rcases CB 15 a with z|z
    ·have:=BP (show 16≤a by omega) (show 16≤a by omega) (by decide) (by omega)
     omega
    ·exact z
  have hbb:-15≤b∧b≤15:=by
   constructor
   ·rcases CB b (-15) with z|z
    ·have:=BP (show 16≤-b by omega) (show 16≤-b by omega) (by decide) (by omega)
     rw[CM]at this;omega
    ·exact z
   ·rcases CB 15 b with z|z
    ·have:=BP (show 16≤b by omega) (show 16≤b by omega) (by decide) (by omega)
     omega
    ·exact z
  obtain⟨i,hi,e⟩:=kd 14 j c a b h0 hc (aY n1 n2 ha.1 ha.2 hbb.1 hbb.2)
  exact⟨i,by omega,e⟩
 | succ d ih=>
  intro j c a b h0 hc hb
  by_cases hin:-15≤a∧a≤15∧-15≤b∧b≤15
  ·obtain⟨i,hi,e⟩:=kd 14 j c a b h0 hc (aY n1 n2 hin.1 hin.2.1 hin.2.2.1 hin.2.2.2)
   exact⟨i,by omega,e⟩
  ·have e1:c 1=.p (pA n a b) (pB n a b):=by rw[hc 0,h0];exact Y8 n _ a b
   have k1:=iA n1 n2 hin
   by_cases hin2:-15≤pA n a b∧pA n a b≤15∧-15≤pB n a b∧pB n a b≤15
   ·obtain⟨i,hi,e⟩:=kd 14 (j+1) (fun i=>c (i+1)) _ _ e1 (fun i=>by rw[hc (i+1),show j+(i+1)=j+1+i by omega]) (aY n1 n2 hin2.1 hin2.2.1 hin2.2.2.1 hin2.2.2.2)
    exact⟨i+1,by omega,e⟩
   ·have k2:=iA n1 n2 hin2
    have e2:c 2=.p (pA n (pA n a b) (pB n a b)) (pB n (pA n a b) (pB n a b)):=by rw[hc 1,e1];exact Y8 n _ _ _
    have hp:((2^(d+1):Nat):Int)=2*((2^d:Nat):Int):=by rw[CG];omega
    have h2:(0:Int)≤((2^d:Nat):Int):=Int.natCast_nonneg _
    obtain⟨m,hm,e⟩:=ih (j+2) (fun i=>c (i+2)) _ _ e2 (fun i=>by rw[hc (i+2),show j+(i+2)=j+2+i by omega]) (by omega)
    exact⟨m+2,by omega,e⟩
def V5{k:Kd}{n:Int}{j:Nat}{c t:Nm}{T:Nat}(h4:k.four=true)(hn:k.ok n)(hc:c.ty k)(ht:tot k t)(b1:c.re.natAbs≤T+1)(b2:t.re.natAbs≤T):(sC k n j (c.add t)).re.natAbs≤T+1:=by
 have hk:k≠.pairs:=fun z=>by rw[z]at h4;cases h4
 obtain⟨x,rfl⟩:=xH hk hc
 obtain⟨y,rfl⟩:=ht hk
 obtain⟨a,ea⟩:=sC4 (n:=n) (j:=j) (t:=.i (x+y)) h4
 have e:(Nm.i x).add (.i y)=.i (x+y):=rfl
 rw[e,ea]
 have:=(mI h4 hn ea).1
 simp only[Nm.re]at *
 omega
theorem cM{k:Kd}{n:Int}{ts:List Nm}{T:Nat}(h4:k.four=true)(hn:k.ok n)(ht:∀t∈ts,tot k t)(hb:∀t∈ts,t.re.natAbs≤T):∀j,(cAt k n ts j).re.natAbs≤T+1
 | 0=>by
  show(k.zero).re.natAbs≤_
  rw[zY]
  exact B4 _
 | j+1=>by
  refine V5 h4 hn (wK k n ts j) (xJ ht j) (cM h4 hn ht hb j) ?_
  rw[Br]
  cases q:ts[j]? with
  | none=>exact B4 _
  | some t=>exact hb t (BH q)
def Wp{x T:Int}(h1:-T≤x)(h2:x≤T):x*x≤T*T:=by
 rcases Int.le_total 0 x with z|z
 ·exact BP h2 h2 z (by omega)
 ·have:=BP (show -x≤T by omega) (show -x≤T by omega) (by omega) (by omega)
  rwa [CM]at this
theorem bE{n a b x y T:Int}(hT:81≤T)(n1:1≤n)(n2:n≤9)(hx1:-T≤x)(hx2:x≤T)(hy1:-T≤y)(hy2:y≤T)(h:a*a+b*b≤30*(T*T)):
  pA n (a+x) (b+y)*pA n (a+x) (b+y)+pB n (a+x) (b+y)*pB n (a+x) (b+y)≤30*(T*T):=by
 obtain⟨f,f0,f1,e⟩:=ci (n:=n) (a:=a+x) (b:=b+y)
 have q1:1≤n*n:=by have:=BP n1 n1 (by omega) (by omega);omega
 have q2:n*n≤81:=by have:=BP n2 n2 (by omega) (by omega);omega
 generalize pA n (a + x) (b + y) * pA n (a + x) (b + y) + pB n (a + x) (b + y) * pB n (a + x) (b + y)=X at *
 have hX:2*X≤(n*n+1)*X∨X<0:=by
  rcases CB X 0 with z|z
  ·exact .inr z
  ·exact .inl (Bt (by omega) z)
 have r1:2*((a+x-f)*(a+x-f))≤3*(a*a)+6*((x-f)*(x-f)):=by
  have:=yB (a-2*(x-f))
  have e1:(a-2*(x-f))*(a-2*(x-f))=a*a-4*(a*(x-f))+4*((x-f)*(x-f)):=by grind
  have e2:(a+x-f)*(a+x-f)=a*a+2*(a*(x-f))+(x-f)*(x-f):=by grind
  omega
 have r2:2*((b+y)*(b+y))≤3*(b*b)+6*(y*y):=by
  have:=yB (b-2*y)
  have e1:(b-2*y)*(b-2*y)=b*b-4*(b*y)+4*(y*y):=by grind
  have e2:(b+y)*(b+y)=b*b+2*(b*y)+y*y:=by grind
  omega
 have s1:(x-f)*(x-f)≤(2*T)*(2*T):=Wp (by omega) (by omega)
 have s2:y*y≤T*T:=Wp hy1 hy2
 have s3:(2*T)*(2*T)=4*(T*T):=by grind
 have s4:=yB T
 omega
theorem cL{n:Int}{ts:List Nm}{T:Nat}(hT:81≤T)(hn:Kd.pairs.ok n)(hb:∀t∈ts,t.re.natAbs≤T∧t.im.natAbs≤T):∀j,∃a b,cAt .pairs n ts j=.p a b∧a*a+b*b≤30*((T:Int)*T)
 | 0=>⟨0,0,rfl,by have:=yB (T:Int);omega⟩
 | j+1=>by
  obtain⟨a,b,e,h⟩:=cL hT hn hb j
  have ht:(ts.getD j (.i 0)).re.natAbs≤T∧(ts.getD j (.i 0)).im.natAbs≤T:=by
   rw[Br]
   cases q:ts[j]? with
   | none=>exact⟨B4 _,B4 _⟩
   | some t=>exact hb t (BH q)
  have ea:(Nm.p a b).add (ts.getD j (.i 0))=.p (a+(ts.getD j (.i 0)).re) (b+(ts.getD j (.i 0)).im):=by
   cases ts.getD j (.i 0)<;>rfl
  refine⟨_,_,by show sC .pairs n j ((cAt .pairs n ts j).add _)=_;rw[e,ea];exact Y8 ..,?_⟩
  have h1:(1:Int)≤n:=hn.1
  have h2:n≤9:=hn.2
  exact bE (by omega) h1 h2 (by omega) (by omega) (by omega) (by omega) h
def least{P:Nat→Prop}:∀(m:Nat),P m→∃i,i≤m∧P i∧∀l,l<i→¬P l:=by
 intro m
 induction m using Nat.strongRecOn with
 | ind m ih=>
  intro h
  by_cases hx:∃l,l<m∧P l
  ·obtain⟨l,hl,pl⟩:=hx
   obtain⟨i,hi,h2⟩:=ih l hl pl
   exact⟨i,by omega,h2⟩
  ·exact⟨m,By _,h,fun l hl pl=>hx ⟨l,hl,pl⟩⟩
theorem dW{k:Kd}{n:Int}{ts:List Nm}{b:Nat}(h5:k.five=true)(hn:k.ok n)(ht:∀t∈ts,tot k t)(hb:∀t∈ts,t.re.natAbs≤2^b∧t.im.natAbs≤2^b)(b7:7≤b)(hh:yI k (cAt k n ts ts.length)=true):
  ∃J,Fin k n ts J∧J≤ts.length+4*b+30∧(k≠.pairs→J≤ts.length+b+3):=by
 have hpow:2^(b+1)=2*2^b:=by rw[CG];omega
 have h128:128≤2^b:=B6 (by decide:0<2) b7
 have main:∃m,m≤4*b+30∧(k≠.pairs→m≤b+3)∧cAt k n ts (ts.length+m)=k.zero∧∀i,yI k (cAt k n ts (ts.length+i))=true:=by
  have hc:∀i,cAt k n ts (ts.length+(i+1))=sC k n (ts.length+i) (cAt k n ts (ts.length+i)):=fun i=>Wa (j:=ts.length+i) (by omega)
  by_cases hk:k=.pairs
  ·subst hk
   obtain⟨x,y,e,hxy⟩:=cL (T:=2^b) (by omega) hn hb ts.length
   have hbig:30*(((2^b:Nat):Int)*((2^b:Nat):Int))≤((2^(2*b+5):Nat):Int):=by
    have:2^(2*b+5)=32*(2^b*2^b):=by rw[←Ct,show 2*b+5=(b+b)+5 by omega,Ct];omega
    rw[this,←Int.natCast_mul]
    omega
   obtain⟨m,hm,em⟩:=MA hn.1 hn.2 (2*b+5) ts.length (fun i=>cAt .pairs n ts (ts.length+i)) x y e hc (CN hxy hbig)
   refine⟨m,by omega,fun z=>absurd rfl z,em,fun i=>?_⟩
   obtain⟨u,v,e'⟩:=wK .pairs n ts (ts.length+i)
   rw[e']
   rfl
  ·have h4:=rz h5 hk
   obtain⟨t,et⟩:=xH hk (wK k n ts ts.length)
   rw[et]at hh
   have bd:=cM h4 hn ht (fun t h=>(hb t h).1) ts.length
   rw[et]at bd
   have bd':t.natAbs≤2^b+1:=bd
   obtain⟨m,hm,em⟩:=Vy h4 hn (b+1) ts.length (fun i=>cAt k n ts (ts.length+i)) t et hc hh (by omega)
   refine⟨m,by omega,fun _=>by omega,em,fun i=>?_⟩
   obtain⟨a,e',h'⟩:=jN h4 hn (c:=fun i=>cAt k n ts (ts.length+i)) et hc hh i
   have e':cAt k n ts (ts.length+i)=.i a:=e'
   rw[e']
   exact h'
 obtain⟨m,hm,hm4,em,hall⟩:=main
 obtain⟨i,hi,pi,hl⟩:=least (P:=fun i=>cAt k n ts (ts.length+i)=k.zero) m em
 refine⟨ts.length+i,⟨by omega,pi,fun j h1 h2=>?_⟩,by omega,fun z=>by have:=hm4 z;omega⟩
 have e:j=ts.length+(j-ts.length):=by omega
 rw[e]
 exact⟨hl _ (by omega),hall _⟩
def vq(k:Kd)(n:Int)(ts:List Nm)(j:Nat):(vt k n ts j).length=j:=by unfold vt;rw[List.length_map,List.length_range]
def iS{k:Kd}{n:Int}{ts:List Nm}{j i:Nat}(h:i<j):(vt k n ts j).getD i 0=fAt k n ts i:=by
 unfold vt
 rw[Br,Bx,CA h]
 rfl
def bS(k:Kd)(n:Int)(ts:List Nm)(j:Nat):vt k n ts (j+1)=vt k n ts j++[fAt k n ts j]:=by
 unfold vt
 rw[List.range_succ,B3]
 rfl
def Yp(k:Kd)(n:Int)(ts:List Nm)(j:Nat):crs k n ts (j+1)=crs k n ts j++[cAt k n ts j]:=by
 unfold crs
 rw[List.range_succ,B3]
 rfl
def X9(k:Kd)(n:Int)(ts:List Nm)(j:Nat):(crs k n ts j).length=j:=by unfold crs;rw[List.length_map,List.length_range]
def Kd.isF:Kd→Bool
 | .falling=>true
 | _=>false
structure Legal(k:Kd)(n:Int)(r:List Int):Prop where
 fig:∀p,p<r.length→k.low n p≤r.getD p 0∧r.getD p 0≤k.high n p
 fal:k.isF=true→∀p,p+1<r.length→r.getD (p+1) 0=n→r.getD p 0=0
 end_:r=[]∨r.getD (r.length-1) 0≠0
open Classical in
noncomputable def iG(k:Kd)(n:Int)(r:List Int):Bool:=decide (Legal k n r)
open Classical in
def kL{k:Kd}{n:Int}{r:List Int}(h:Legal k n r):iG k n r=true:=by unfold iG;exact decide_eq_true h
open Classical in
def kM{k:Kd}{n:Int}{r:List Int}(h:¬Legal k n r):iG k n r=false:=by unfold iG;exact decide_eq_false h
structure Lg(k:Kd)(n:Int)(r:List Int):Prop where
 fig:∀p,p<r.length→k.low n p≤r.getD p 0∧r.getD p 0≤k.high n p
 fal:k.isF=true→∀p,p+1<r.length→r.getD (p+1) 0=n→r.getD p 0=0
def eI{k:Kd}{n:Int}(h:k.ok n)(p:Nat):k.low n p≤0∧0≤k.high n p:=by
 obtain⟨h1,h2⟩:=h
 cases k<;>simp only[Kd.lo,Kd.hi,Kd.low,Kd.high]at *<;>first|omega|exact⟨Int.le_refl _,Int.mul_nonneg (by omega) (by omega)⟩
def zO{r:List Int}{z:Int}{p:Nat}(h:p<r.length):(r++[z]).getD p 0=r.getD p 0:=by
 rw[Br,Br,B2 h]
def getD_snoc_eq{r:List Int}{z:Int}:(r++[z]).getD r.length 0=z:=by
 rw[Br,B1 (By _)]
 simp
def Lg.nil(k:Kd)(n:Int):Lg k n []:=⟨fun p h=>absurd h (Cn _),fun _ p h=>absurd h (Cn _)⟩
def Lg.pop{k:Kd}{n:Int}{r:List Int}{z:Int}(h:Lg k n (r++[z])):Lg k n r:=by
 refine⟨fun p hp=>?_,fun hk p hp=>?_⟩
 ·have:=h.fig p (by rw[Bv];omega)
  rwa [zO hp]at this
 ·have:=h.fal hk p (by rw[Bv];omega)
  rwa [zO hp,zO (by omega)]at this
def Lg.trim{k:Kd}{n:Int}:∀{r:List Int},Lg k n r→Legal k n (trim r):=by
 intro r
 generalize hl:r.length=m
 induction m generalizing r with
 | zero=>
  intro h
  obtain rfl:r=[]:=B8.mp hl
  exact⟨h.fig,h.fal,.inl rfl⟩
 | succ m ih=>
  intro h
  rcases zU r with rfl|⟨l,z,rfl⟩
  ·cases hl
  ·by_cases hz:z=0
   ·subst hz
    rw[vh]
    exact ih (by rw[Bv]at hl;exact Nat.succ.inj hl) h.pop
   ·rw[sY hz]
    exact⟨h.fig,h.fal,.inr (by rw[Bv];exact fun e=>hz (by rw[←e];exact getD_snoc_eq.symm))⟩
def Lg.push{k:Kd}{n z:Int}{r:List Int}(h:Lg k n r)(hz:k.low n r.length≤z∧z≤k.high n r.length)(hf:k.isF=true→z=n→r=[]∨r.getD (r.length-1) 0=0):Lg k n (r++[z]):=by
 refine⟨fun p hp=>?_,fun hk p hp e=>?_⟩
 ·rw[Bv]at hp
  rcases(by simp at hp;omega:p<r.length∨p=r.length) with q|q
  ·rw[zO q];exact h.fig p q
  ·subst q;rw[getD_snoc_eq];exact hz
 ·rw[Bv]at hp
  rcases(by simp at hp;omega:p+1<r.length∨p+1=r.length) with q|q
  ·rw[zO q]at e
   rw[zO (by omega)]
   exact h.fal hk p q e
  ·rw[q,getD_snoc_eq]at e
   rw[zO (by omega)]
   rcases hf hk e with z|z
   ·rw[z]at q;cases q
   ·rw[show r.length-1=p by omega]at z;exact z
theorem wP(k:Kd)(n:Int)(ns:List Int):∀j,yu k n ns j=wF k n (fun i=>ns.getD i 0) j
 | 0=>rfl
 | j+1=>by unfold yu wF;rw[wP k n ns j]
theorem sX{k:Kd}{n:Int}{f g:Nat→Int}:∀j,(∀i,i<j→f i=g i)→wF k n f j=wF k n g j
 | 0,_=>rfl
 | j+1,h=>by
  unfold wF
  rw[sX j fun i hi=>h i (by omega),h j (by omega)]
def jy(k:Kd)(n:Int)(j:Nat):(wt k n j).ty k:=by
 by_cases hk:k=.pairs
 ·subst hk;exact wt2 j
 ·obtain⟨w,e⟩:=wtI (n:=n) hk j
  rw[e]
  exact vz hk
def sJ{k:Kd}{t w:Nm}(ht:tot k t)(hw:w.ty k):(t.mul w).ty k:=by
 by_cases hk:k=.pairs
 ·subst hk
  obtain⟨a,b,rfl⟩:=hw
  cases t<;>exact⟨_,_,rfl⟩
 ·obtain⟨a,rfl⟩:=ht hk
  obtain⟨b,rfl⟩:=xH hk hw
  exact vz hk
def yb{k:Kd}{m:Nm}(h:m.ty k):tot k m:=fun hk=>xH hk h
def uh(k:Kd)(a:Int):tot k (.i a):=fun _=>⟨a,rfl⟩
theorem ap(k:Kd)(n:Int)(f:Nat→Int):∀j,(wF k n f j).ty k
 | 0=>yZ k
 | j+1=>uf (ap k n f j) (yb (sJ (uh k _) (jy k n j)))
theorem oG{k:Kd}{n:Int}{ts:List Nm}(ht:∀t∈ts,tot k t):∀j,(wN k n ts j).ty k
 | 0=>yZ k
 | j+1=>uf (oG ht j) (yb (sJ (xJ ht j) (jy k n j)))
def gp{k:Kd}{m w:Nm}(hm:m.ty k)(hw:w.ty k):m.add ((Nm.i 0).mul w)=m:=by
 refine wD (uf hm (yb (sJ (uh k 0) hw))) hm ?_ ?_
 ·rw[zS,zE];show m.re+(0*w.re-0*w.im)=_;rw[BV,BV];omega
 ·rw[ye,zI];show m.im+(0*w.im+0*w.re)=_;rw[BV,BV];omega
theorem gT{k:Kd}{n:Int}{ts:List Nm}(ht:∀t∈ts,tot k t):∀i,wN k n ts (ts.length+i)=wN k n ts ts.length
 | 0=>rfl
 | i+1=>by
  have e:ts.getD (ts.length+i) (.i 0)=.i 0:=by rw[Br,BG (by omega)];rfl
  show(wN k n ts (ts.length+i)).add ((ts.getD (ts.length+i) (.i 0)).mul (wt k n (ts.length+i)))=_
  rw[e,gp (oG ht _) (jy k n _)]
  exact gT ht i
def yp(k:Kd)(n:Int)(ts:List Nm):Nm:=wN k n ts ts.length
def zj(k:Kd)(n:Int)(r:List Int):Nm:=yu k n r r.length
def Fin.worth{k:Kd}{n:Int}{ts:List Nm}{J:Nat}(F:Fin k n ts J)(h5:k.five=true)(hn:k.ok n)(ht:∀t∈ts,tot k t):zj k n (vt k n ts J)=yp k n ts:=by
 unfold zj yp
 rw[vq,wP,sX (g:=fAt k n ts) J (fun i hi=>iS hi)]
 have e:wN k n ts J=wN k n ts ts.length:=by
  rw[show J=ts.length+(J-ts.length) by have:=F.le;omega]
  exact gT ht _
 obtain⟨t1,t2⟩:=VY h5 hn ht J
 rw[F.z,zE,zY,z_]at t1
 rw[F.z,zI,zY,z_]at t2
 rw[←e]
 refine wD (ap k n _ J) (oG ht J) ?_ ?_
 ·rw[t1,BN,BN];omega
 ·rw[t2,BN,BN];omega
def lK{k:Kd}{n:Int}{l:List Int}{z:Int}{j:Nat}(h:j≤l.length):yu k n (l++[z]) j=yu k n l j:=by
 rw[wP,wP]
 exact sX j fun i hi=>zO (by omega)
def uv(k:Kd)(n:Int)(l:List Int)(z:Int):zj k n (l++[z])=(zj k n l).add ((Nm.i z).mul (wt k n l.length)):=by
 unfold zj
 rw[Bv]
 show(yu k n (l++[z]) l.length).add ((Nm.i ((l++[z]).getD l.length 0)).mul (wt k n l.length))=_
 rw[lK (By _),getD_snoc_eq]
def zD(k:Kd)(n:Int)(r:List Int):(zj k n r).ty k:=by
 unfold zj
 rw[wP]
 exact ap k n _ _
def qV(k:Kd)(n:Int)(r:List Int):zj k n (trim r)=zj k n r:=by
 generalize hl:r.length=m
 induction m generalizing r with
 | zero=>
  obtain rfl:r=[]:=B8.mp hl
  rfl
 | succ m ih=>
  rcases zU r with rfl|⟨l,z,rfl⟩
  ·cases hl
  ·by_cases hz:z=0
   ·subst hz
    rw[vh,ih l (by rw[Bv]at hl;exact Nat.succ.inj hl),uv,gp (zD k n l) (jy k n _)]
   ·rw[sY hz]
def vp{k:Kd}(h5:k.five=true):k.isF=false:=by cases k<;>first|rfl|cases h5
def XR{k:Kd}{n:Int}{ts:List Nm}(h5:k.five=true)(hn:k.ok n)(ht:∀t∈ts,tot k t)(J:Nat):Lg k n (vt k n ts J):=by
 refine⟨fun p hp=>?_,fun hF=>?_⟩
 ·rw[vq]at hp
  rw[iS hp]
  obtain⟨a,b,_⟩:=sZ (j:=p) h5 hn (uf (wK k n ts p) (xJ ht p))
  exact⟨a,b⟩
 ·rw[vp h5]at hF
  cases hF
def pr(k:Kd)(n:Int)(ts:List Nm)(J:Nat):List Int:=trim (vt k n ts J)
def sd{k:Kd}{n:Int}{ts:List Nm}{J:Nat}(h5:k.five=true)(hn:k.ok n)(ht:∀t∈ts,tot k t):Legal k n (pr k n ts J):=(XR h5 hn ht J).trim
def t_{k:Kd}{n:Int}{ts:List Nm}{J:Nat}(F:Fin k n ts J)(h5:k.five=true)(hn:k.ok n)(ht:∀t∈ts,tot k t):zj k n (pr k n ts J)=yp k n ts:=by
 unfold pr
 rw[qV,F.worth h5 hn ht]
def oF{k:Kd}{n:Int}{m:Nm}(hm:m.ty k)(h5:k.five=true):yp k n [m]=m:=by
 show(k.zero.add (m.mul (wt k n 0)))=m
 have e:wt k n 0=k.zero.add (.i 1):=by cases k<;>first|rfl|cases h5
 have r1:(wt k n 0).re=1:=by rw[e,zS,zY];rfl
 have r2:(wt k n 0).im=0:=by rw[e,ye,z_];rfl
 refine wD (uf (yZ k) (yb (sJ (yb hm) (jy k n 0)))) hm ?_ ?_
 ·rw[zS,zE,zY,r1,r2,Cc,BN];omega
 ·rw[ye,zI,z_,r1,r2,Cc,BN];omega
def uV{k:Kd}{m:Nm}(h:yI k m=true):m.ty k:=by
 cases k<;>cases m<;>first|exact⟨_,rfl⟩|exact⟨_,_,rfl⟩|cases h
def jM{k:Kd}{n:Int}{m:Nm}{b:Nat}(h5:k.five=true)(hn:k.ok n)(hm:yI k m=true)(hb:m.re.natAbs≤2^b∧m.im.natAbs≤2^b)(b7:7≤b):∃J,Fin k n [m] J∧J≤4*b+31∧(k≠.pairs→J≤b+4):=by
 have ht:∀t∈[m],tot k t:=fun t h=>by rw[BD.mp h];exact yb (uV hm)
 have e1:cAt k n [m] 1=sC k n 0 m:=by
  show sC k n 0 (k.zero.add m)=_
  rw[Tq (uV hm)]
 obtain⟨J,F,hJ⟩:=dW (b:=b) h5 hn ht (fun t h=>by rw[BD.mp h];exact hb) b7 (by
  show yI k (cAt k n [m] 1)=true
  rw[e1]
  by_cases hk:k=.pairs
  ·subst hk
   obtain⟨x,y,e⟩:=aN .pairs n 0 m
   rw[e];rfl
  ·have h4:=rz h5 hk
   obtain⟨t,rfl⟩:=xH hk (uV hm)
   obtain⟨a,ea⟩:=sC4 (n:=n) (j:=0) (t:=.i t) h4
   rw[ea]
   exact(mI h4 hn ea).2.1 hm)
 exact⟨J,F,by have:=hJ.1;simp at this;omega,fun z=>by have:=hJ.2 z;simp at this;omega⟩
def sV(k:Kd):DSp:=fun ds Q=>∃o d m,ds=[o,d]∧o_ d=some m∧Q (.bl (yI k m))
def isP:Nm→Bool
 | .p _ _=>true
 | _=>false
def tO:DSp:=fun ds Q=>∃d m,ds=[d]∧o_ d=some m∧Q (.bl (isP m))
def jt:DSp:=fun ds Q=>∃r,ds=[zy r]∧Q (zy (trim r))
def wL:DSp:=fun ds Q=>∃xs p,ds=[.lst xs,.int p]∧0≤p∧Q (xs.getD p.toNat (.int 0))
def pq(ts:List Nm):Dt:=.lst (ts.map Nm.dt)
def gd(k:Kd)(n:Int)(ts:List Nm)(j:Nat):List Dt:=(crs k n ts j).map Nm.dt
def kT(ts:List Nm)(j:Nat):(ts.map Nm.dt).getD j (.int 0)=(ts.getD j (.i 0)).dt:=by
 rw[Br,Br,Bx]
 cases ts[j]?<;>rfl
def UR{k:Kd}{m m':Nm}(h:m.ty k)(h':m'.ty k):eqD m.dt m'.dt=true↔m=m':=by
 by_cases hk:k=.pairs
 ·subst hk
  obtain⟨a,b,rfl⟩:=h
  obtain⟨c,d,rfl⟩:=h'
  show eqD (.tup [.int a,.int b]) (.tup [.int c,.int d])=true↔_
  rw[rC,vv,vv,rB,x6,x6,BL,BL,beq_iff_eq,beq_iff_eq]
  constructor
  ·rintro⟨rfl,rfl,_⟩;rfl
  ·intro e;cases e;exact⟨rfl,rfl,rfl⟩
 ·obtain⟨a,rfl⟩:=xH hk h
  obtain⟨c,rfl⟩:=xH hk h'
  show eqD (.int a) (.int c)=true↔_
  rw[x6,beq_iff_eq]
  constructor
  ·rintro rfl;rfl
  ·intro e;cases e;rfl
def wf(n:Int)(j:Nat):Int:=(wtF n j).2
def tP(n:Int):wf n 0=1:=rfl
def rV(n:Int):wf n 1=n+1:=by show n*1+1=_;rw[Cc]
def vg(n:Int)(j:Nat):wf n (j+2)=n*wf n (j+1)+wf n j:=rfl
theorem zQ{n:Int}(h:1≤n):∀j,1≤wf n j∧wf n j≤wf n (j+1)
 | 0=>by rw[tP,rV];omega
 | j+1=>by
  obtain⟨a,b⟩:=zQ h j
  have:wf n (j+1)≤n*wf n (j+1):=by
   have:=Bt h (show 0≤wf n (j+1) by omega)
   omega
  rw[vg]
  omega
theorem mC{n:Int}(h:1≤n):∀b:Nat,((2^b:Nat):Int)≤wf n (2*b)
 | 0=>by rw[show 2*0=0 from rfl,tP];decide
 | b+1=>by
  have ih:=mC h b
  obtain⟨a1,b1⟩:=zQ h (2*b)
  have:wf n (2*b+1)≤n*wf n (2*b+1):=by
   have:=Bt h (show 0≤wf n (2*b+1) by omega)
   omega
  have e:wf n (2*(b+1))=n*wf n (2*b+1)+wf n (2*b):=vg n (2*b)
  have hp:((2^(b+1):Nat):Int)=2*((2^b:Nat):Int):=by rw[CG];omega
  omega
theorem ao{n:Int}(h:1≤n)(h9:n≤9):∀j,wf n j≤((2^(4*j):Nat):Int)
 | 0=>by rw[tP];decide
 | j+1=>by
  have ih:=ao h h9 j
  have p:=zQ h j
  have hp:((2^(4*(j+1)):Nat):Int)=16*((2^(4*j):Nat):Int):=by rw[show 4*(j+1)=4*j+4 by omega,Ct];omega
  have k:n*wf n j≤9*wf n j:=Bt h9 (by omega)
  have e:wf n (j+1)≤n*wf n j+wf n j:=by
   cases j with
   | zero=>rw[rV,tP];omega
   | succ q=>rw[vg];have:=(zQ h q).2;omega
  omega
def bu(g:Nat→Int)(L:Nat):((List.range L).map fun q=>g (L-1-q)).reverse=(List.range L).map g:=by
 apply List.ext_getElem?
 intro i
 by_cases hi:i<L
 ·rw[List.getElem?_reverse (by rw[Bs,Ch];exact hi),Bs,Ch,Bx,CA (by omega),Bx,CA hi]
  show some (g (L-1-(L-1-i)))=some (g i)
  rw[show L-1-(L-1-i)=i by omega]
 ·rw[BG (by rw[BQ,Bs,Ch];omega),BG (by rw[Bs,Ch];omega)]
def rs(n m:Int)(L:Nat):Nat→Int
 | 0=>m
 | i+1=>(rs n m L i).fmod (wf n (L-1-i))
def gs(n m:Int)(L:Nat)(p:Nat):Int:=(rs n m L (L-1-p)).fdiv (wf n p)
def bT(a b:Int):a=b*a.fdiv b+a.fmod b:=by have:=Int.fmod_def a b;omega
theorem dZ{n m:Int}{L:Nat}(h:1≤n)(h0:0≤m)(hL:m<wf n L):∀i,i≤L→0≤rs n m L i∧rs n m L i<wf n (L-i)
 | 0,_=>⟨h0,hL⟩
 | i+1,hi=>by
  have p:=(zQ h (L-1-i)).1
  have e:L-(i+1)=L-1-i:=by omega
  rw[e]
  exact⟨Bz _ (by omega),BF _ (by omega)⟩
def ZO{n m:Int}{L p:Nat}(hp:p<L):rs n m L (L-(p+1))=wf n p*gs n m L p+rs n m L (L-p):=by
 have e1:L-(p+1)=L-1-p:=by omega
 have e2:L-p=(L-1-p)+1:=by omega
 have e3:L-1-(L-1-p)=p:=by omega
 rw[e1,e2]
 show _=wf n p*(rs n m L (L-1-p)).fdiv (wf n p)+(rs n m L (L-1-p)).fmod (wf n (L-1-(L-1-p)))
 rw[e3]
 exact bT _ _
def eN{n m:Int}{L p:Nat}(h:1≤n)(h0:0≤m)(hL:m<wf n L)(hp:p<L):0≤gs n m L p∧gs n m L p≤n∧(gs n m L p=n→1≤p→rs n m L (L-p)<wf n (p-1))∧(gs n m L p=n→p=0→True):=by
 have e:=ZO (n:=n) (m:=m) hp
 obtain⟨a1,a2⟩:=dZ h h0 hL (L-(p+1)) (by omega)
 obtain⟨b1,b2⟩:=dZ h h0 hL (L-p) (by omega)
 rw[show L-(L-(p+1))=p+1 by omega]at a2
 rw[show L-(L-p)=p by omega]at b2
 have wp:=(zQ h p).1
 generalize gs n m L p=g at *
 have g0:0≤g:=by
  rcases CB g 0 with z|z
  ·have:=BB (show g≤-1 by omega) (show 0≤wf n p by omega)
   omega
  ·exact z
 have gn:g≤n:=by
  rcases CB n g with z|z
  ·have k:=BB (show n+1≤g by omega) (show 0≤wf n p by omega)
   have k2:wf n p*(n+1)=n*wf n p+wf n p:=by rw[CS,Cc,Ci]
   have k3:wf n (p+1)≤n*wf n p+wf n p:=by
    cases p with
    | zero=>rw[rV,tP];omega
    | succ q=>rw[vg];have:=(zQ h q).2;omega
   omega
  ·exact z
 refine⟨g0,gn,fun eg h1=>?_,fun _ _=>trivial⟩
 subst eg
 obtain⟨q,rfl⟩:∃q,p=q+1:=⟨p-1,by omega⟩
 rw[vg,Ci]at a2
 show _<wf g q
 omega
theorem iO{n m:Int}{L:Nat}(h:1≤n)(h0:0≤m)(hL:m<wf n L):∀j,j≤L→wF .falling n (gs n m L) j=.i (rs n m L (L-j))
 | 0,_=>by
  show Nm.i 0=_
  have:rs n m L L=0:=by
   obtain⟨a,b⟩:=dZ h h0 hL L (By _)
   rw[show L-L=0 by omega,tP]at b
   omega
  rw[show L-0=L by omega,this]
 | j+1,hj=>by
  unfold wF
  rw[iO h h0 hL j (by omega),ZO (by omega:j<L)]
  show Nm.i (_+gs n m L j*wf n j)=_
  rw[Ci,Int.add_comm]
def lj(n m:Int):List Int:=(List.range (2*Builtin.Int.intBits m)).map (gs n m (2*Builtin.Int.intBits m))
def nw(n m:Int):List Int:=trim (lj n m)
def Wb(m:Int):m.natAbs<2^Builtin.Int.intBits m:=(intBits_le_iff).mp (By _)
def cu{n m:Int}(h:1≤n)(h0:0≤m):m<wf n (2*Builtin.Int.intBits m):=by
 have a:=mC h (Builtin.Int.intBits m)
 have b:=Wb m
 omega
def rn{f:Nat→Int}{L p:Nat}(h:p<L):((List.range L).map f).getD p 0=f p:=by
 rw[Br,Bx,CA h]
 rfl
def ZY{n m:Int}(hn:Kd.falling.ok n)(h0:0≤m):Lg .falling n (lj n m):=by
 have h1:1≤n:=hn.1
 have hL:=cu h1 h0
 unfold lj
 generalize 2 * Builtin.Int.intBits m=L at *
 refine⟨fun p hp=>?_,fun _ p hp e=>?_⟩
 ·rw[Bs,Ch]at hp
  rw[rn hp]
  obtain⟨a,b,_⟩:=eN h1 h0 hL hp
  exact⟨a,b⟩
 ·rw[Bs,Ch]at hp
  rw[rn hp]at e
  rw[rn (by omega)]
  have c:=(eN h1 h0 hL hp).2.2.1 e (by omega)
  have e2:=ZO (n:=n) (m:=m) (show p<L by omega)
  obtain⟨a,_⟩:=eN h1 h0 hL (show p<L by omega)
  obtain⟨b1,b2⟩:=dZ h1 h0 hL (L-p) (by omega)
  have wp:=(zQ h1 p).1
  have c:rs n m L (L-(p+1))<wf n p:=c
  rcases CB 0 (gs n m L p) with z|z
  ·have:=BB (show 1≤gs n m L p by omega) (show 0≤wf n p by omega)
   omega
  ·omega
def iX{n m:Int}(hn:Kd.falling.ok n)(h0:0≤m):Legal .falling n (nw n m):=(ZY hn h0).trim
def iW{n m:Int}(hn:Kd.falling.ok n)(h0:0≤m):zj .falling n (nw n m)=.i m:=by
 have h1:1≤n:=hn.1
 have hL:=cu h1 h0
 unfold nw
 rw[qV]
 unfold zj lj
 rw[Bs,Ch]
 generalize 2 * Builtin.Int.intBits m=L at *
 rw[wP,sX (g:=gs n m L) L (fun i hi=>rn hi),iO h1 h0 hL L (By _),show L-L=0 by omega]
 rfl
def bU(n m:Int):(nw n m).length≤2*Builtin.Int.intBits m:=by
 refine BS (wb _) ?_
 unfold lj
 rw[Bs,Ch]
 exact By _
def Wr(k:Kd)(n:Int)(m:Nm)(r:List Int):Prop:=match k with
 | .falling=>r=nw n m.re∧Builtin.Int.intBits m.re≤500
 | k=>∃J,J≤50000∧Fin k n [m] J∧r=pr k n [m] J
def km{k:Kd}{m:Nm}(hm:yI k m=true):∀t∈[m],tot k t:=fun t h=>by rw[BD.mp h];exact yb (uV hm)
def Tt{k:Kd}{n:Int}{m:Nm}{b:Nat}(hn:k.ok n)(hm:yI k m=true)(hb:m.re.natAbs≤2^b∧m.im.natAbs≤2^b)(b7:7≤b)(b4:b≤400):∃r,Wr k n m r∧r.length≤4*b+31:=by
 by_cases hk:k=.falling
 ·subst hk
  have hbit:Builtin.Int.intBits m.re≤b+1:=intBits_le_iff.mpr (by rw[CG];have:=Nat.two_pow_pos b;omega)
  exact⟨_,⟨rfl,by omega⟩,by have:=bU n m.re;omega⟩
 ·have h5:k.five=true:=by cases k<;>first|rfl|exact absurd rfl hk
  obtain⟨J,F,hJ,_⟩:=jM h5 hn hm hb b7
  refine⟨pr k n [m] J,?_,?_⟩
  ·cases k<;>first|exact⟨J,by omega,F,rfl⟩|exact absurd rfl hk
  ·unfold pr
   have:=wb (vt k n [m] J)
   rw[vq]at this
   omega
def ak{k:Kd}{n:Int}{m:Nm}{r:List Int}(hn:k.ok n)(hm:yI k m=true)(h:Wr k n m r):Legal k n r:=by
 by_cases hk:k=.falling
 ·subst hk
  obtain⟨a,rfl⟩:∃a,m=.i a:=uV hm
  obtain⟨rfl,_⟩:=h
  exact iX hn (of_decide_eq_true hm)
 ·have h5:k.five=true:=by cases k<;>first|rfl|exact absurd rfl hk
  obtain⟨J,_,F,rfl⟩:∃J,J≤50000∧Fin k n [m] J∧r=pr k n [m] J:=by cases k<;>first|exact h|exact absurd rfl hk
  exact sd h5 hn (km hm)
def aj{k:Kd}{n:Int}{m:Nm}{r:List Int}(hn:k.ok n)(hm:yI k m=true)(h:Wr k n m r):zj k n r=m:=by
 by_cases hk:k=.falling
 ·subst hk
  obtain⟨a,rfl⟩:∃a,m=.i a:=uV hm
  obtain⟨rfl,_⟩:=h
  exact iW hn (of_decide_eq_true hm)
 ·have h5:k.five=true:=by cases k<;>first|rfl|exact absurd rfl hk
  obtain⟨J,_,F,rfl⟩:∃J,J≤50000∧Fin k n [m] J∧r=pr k n [m] J:=by cases k<;>first|exact h|exact absurd rfl hk
  rw[t_ F h5 hn (km hm),oF (uV hm) h5]
def Vt(k:Kd)(n:Int):Nat→List Int→Nm
 | _,[]=>k.zero
 | j,f::r=>(Nm.i f).add ((k.ratN n j).mul (Vt k n (j+1) r))
def aS{k:Kd}{n:Int}{j:Nat}(h5:k.five=true):(k.ratN n j).ty k:=by
 cases k<;>first|exact⟨_,rfl⟩|exact⟨_,_,rfl⟩|cases h5
def iJ{k:Kd}{f:Int}{m:Nm}(h:m.ty k):((Nm.i f).add m).ty k:=by
 by_cases hk:k=.pairs
 ·subst hk
  obtain⟨a,b,rfl⟩:=h
  exact⟨_,_,rfl⟩
 ·obtain⟨a,rfl⟩:=xH hk h
  exact vz hk
theorem gq{k:Kd}{n:Int}(h5:k.five=true):∀(r:List Int)(j:Nat),(Vt k n j r).ty k
 | [],_=>yZ k
 | _::r,j=>iJ (sJ (yb (aS h5)) (gq h5 r (j+1)))
def YQ{P1 P2 w1 w2 f r1 r2 v1 v2:Int}:P1+(f*w1-0*w2)+((r1*w1-r2*w2)*v1-(r1*w2+r2*w1)*v2)=P1+(w1*(f+(r1*v1-r2*v2))-w2*(0+(r1*v2+r2*v1)))∧P2+(f*w2+0*w1)+((r1*w1-r2*w2)*v2+(r1*w2+r2*w1)*v1)=P2+(w1*(0+(r1*v2+r2*v1))+w2*(f+(r1*v1-r2*v2))):=by
 constructor<;>grind
theorem jA{k:Kd}{n:Int}(h5:k.five=true):∀(r pre:List Int),
  (zj k n (pre++r)).re=(zj k n pre).re+((wt k n pre.length).mul (Vt k n pre.length r)).re∧(zj k n (pre++r)).im=(zj k n pre).im+((wt k n pre.length).mul (Vt k n pre.length r)).im
 | [],pre=>by
  rw[Cm]
  unfold Vt
  rw[zE,zI,zY,z_,BN,BN]
  exact⟨by omega,by omega⟩
 | f::r,pre=>by
  obtain⟨i1,i2⟩:=jA h5 r (pre++[f])
  have e:pre++f::r=(pre++[f])++r:=by rw[CU];rfl
  have el:(pre++[f]).length=pre.length+1:=by rw[Bv];rfl
  have ev:Vt k n pre.length (f::r)=(Nm.i f).add ((k.ratN n pre.length).mul (Vt k n (pre.length+1) r)):=rfl
  rw[e,i1,i2,el,uv,xD h5,ev]
  simp only[zE,zI,zS,ye]
  have fr:(Nm.i f).re=f:=rfl
  have fi:(Nm.i f).im=0:=rfl
  rw[fr,fi]
  exact YQ
def sW{k:Kd}{n:Int}(h5:k.five=true)(r:List Int):zj k n r=Vt k n 0 r:=by
 obtain⟨a,b⟩:=jA (n:=n) h5 r []
 have e:wt k n 0=k.zero.add (.i 1):=by cases k<;>first|rfl|cases h5
 have r1:(wt k n 0).re=1:=by rw[e,zS,zY];rfl
 have r2:(wt k n 0).im=0:=by rw[e,ye,z_];rfl
 have z1:(zj k n []).re=0:=zY k
 have z2:(zj k n []).im=0:=z_ k
 simp only[List.length_nil,List.nil_append]at a b
 rw[zE,r1,r2,z1]at a
 rw[zI,r1,r2,z2]at b
 refine wD (zD k n r) (gq h5 r 0) ?_ ?_
 ·rw[a];omega
 ·rw[b];omega
def mK{lo n r t f c:Int}(hr:r=n∨r=-n)(h1:lo≤f)(h2:f≤lo+n-1)(h3:lo≤t)(h4:t≤lo+n-1)(e:f+c*r=t):c=0∧f=t:=by
 have hc:c=0:=by
  rcases(by omega:c=0∨1≤c∨c≤-1) with h|h|h
  ·exact h
  ·rcases hr with rfl|rfl
   ·have:=Bt h (show 0≤r by omega)
    omega
   ·have:=Bt h (show 0≤n by omega)
    rw[Cv]at e
    omega
  ·rcases hr with rfl|rfl
   ·have:=Bt h (show 0≤r by omega)
    omega
   ·have:=Bt h (show 0≤n by omega)
    rw[Cv]at e
    omega
 subst hc
 omega
theorem mQ{k:Kd}{n f g:Int}{j:Nat}{c d:Nm}(h5:k.five=true)(hn:k.ok n)(f1:k.low n j≤f)(f2:f≤k.high n j)(g1:k.low n j≤g)(g2:g≤k.high n j)(tc:c.ty k)(td:d.ty k)
  (e:(Nm.i f).add ((k.ratN n j).mul c)=(Nm.i g).add ((k.ratN n j).mul d)):f=g∧c=d:=by
 have e1:=congrArg Nm.re e
 have e2:=congrArg Nm.im e
 rw[zS,zS,zE,zE]at e1
 rw[ye,ye,zI,zI]at e2
 by_cases hk:k=.pairs
 ·subst hk
  obtain⟨a,b,rfl⟩:=tc
  obtain⟨x,y,rfl⟩:=td
  simp only[Kd.ratN,Nm.re,Nm.im,Kd.low,Kd.high]at *
  have q1:f-n*(a-x)-(b-y)=g:=by rw[Int.mul_sub];simp only[Int.neg_mul,Int.one_mul]at e1;omega
  have q2:(a-x)-n*(b-y)=0:=by rw[Int.mul_sub];simp only[Int.neg_mul,Int.one_mul]at e2;omega
  generalize hu:a-x=u at *
  generalize hv:b-y=v at *
  have eu:u=n*v:=by omega
  rw[eu]at q1
  have e3:f+(-v)*(n*n+1)=g:=by
   have r1:n*(n*v)=v*(n*n):=by grind
   have r2:(-v)*(n*n+1)=-(v*(n*n))-v:=by grind
   omega
  obtain⟨h1,h2⟩:=mK (lo:=0) (n:=n*n+1) (.inl rfl) f1 (by omega) g1 (by omega) e3
  have v0:v=0:=by omega
  rw[v0,BN]at eu
  exact⟨h2,by rw[show a=x by omega,show b=y by omega]⟩
 ·have h4:=rz h5 hk
  obtain⟨a,rfl⟩:=xH hk tc
  obtain⟨x,rfl⟩:=xH hk td
  have eR:k.ratN n j=.i (k.rat n j):=by cases k<;>first|rfl|exact absurd rfl hk
  rw[eR]at e1
  obtain⟨z1,z2⟩:=lQ h4 n j
  have q:f+(a-x)*k.rat n j=g:=by
   have e1':f+(k.rat n j*a-0*0)=g+(k.rat n j*x-0*0):=e1
   rw[Int.sub_mul,Ci a,Ci x]
   omega
  obtain⟨h1,h2⟩:=mK (lo:=k.low n j) (n:=k.size n j) z2 f1 (by omega) g1 (by omega) q
  exact⟨h2,by rw[show a=x by omega]⟩
def Figs(k:Kd)(n:Int)(j:Nat)(r:List Int):Prop:=∀p,p<r.length→k.low n ((j+p:Nat):Int)≤r.getD p 0∧r.getD p 0≤k.high n ((j+p:Nat):Int)
def Figs.cons{k:Kd}{n f:Int}{j:Nat}{r:List Int}(h:Figs k n j (f::r)):(k.low n j≤f∧f≤k.high n j)∧Figs k n (j+1) r:=by
 refine⟨h 0 (by simp),fun p hp=>?_⟩
 have:=h (p+1) (by simp;exact hp)
 rw[show j+(p+1)=j+1+p by omega]at this
 exact this
def Tl{k:Kd}{n:Int}(h5:k.five=true)(hn:k.ok n):∀(r s:List Int)(j:Nat),Figs k n j r→Figs k n j s→Vt k n j r=Vt k n j s→∀p,r.getD p 0=s.getD p 0:=by
 have zz:∀j:Nat,k.zero=(Nm.i 0).add ((k.ratN n j).mul k.zero):=fun j=>by
  refine wD (yZ k) (iJ (sJ (yb (aS h5)) (yZ k))) ?_ ?_
  ·rw[zS,zE,zY,z_,BN,BN];rfl
  ·rw[ye,zI,zY,z_,BN,BN];rfl
 have nilc:∀(s:List Int)(j:Nat),Figs k n j s→k.zero=Vt k n j s→∀p,(0:Int)=s.getD p 0:=by
  intro s
  induction s with
  | nil=>intro j _ _ p;rfl
  | cons g s ih=>
   intro j hs e p
   obtain⟨⟨g1,g2⟩,hs'⟩:=hs.cons
   obtain⟨l1,l2⟩:=eI hn j
   rw[zz j]at e
   obtain⟨q1,q2⟩:=mQ h5 hn l1 l2 g1 g2 (yZ k) (gq h5 s (j+1)) e
   cases p with
   | zero=>exact q1
   | succ p=>exact ih (j+1) hs' q2 p
 intro r
 induction r with
 | nil=>intro s j _ hs e p;exact nilc s j hs e p
 | cons f r ih=>
  intro s j hr hs e p
  cases s with
  | nil=>exact(nilc (f::r) j hr e.symm p).symm
  | cons g s=>
   obtain⟨⟨f1,f2⟩,hr'⟩:=hr.cons
   obtain⟨⟨g1,g2⟩,hs'⟩:=hs.cons
   obtain⟨q1,q2⟩:=mQ h5 hn f1 f2 g1 g2 (gq h5 r (j+1)) (gq h5 s (j+1)) e
   cases p with
   | zero=>exact q1
   | succ p=>exact ih s (j+1) hr' hs' q2 p
def xr{r:List Int}{p:Nat}(h:r.length≤p):r.getD p 0=0:=by rw[Br,BG h];rfl
def d6{r s:List Int}(h:∀p,r.getD p 0=s.getD p 0)(hr:r=[]∨r.getD (r.length-1) 0≠0)(hs:s=[]∨s.getD (s.length-1) 0≠0):r=s:=by
 have hl:r.length=s.length:=by
  rcases(by omega:r.length=s.length∨r.length<s.length∨s.length<r.length) with z|z|z
  ·exact z
  ·rcases hs with hs|hs
   ·rw[hs]at z;simp at z
   ·exact absurd (by rw[←h];exact xr (by omega)) hs
  ·rcases hr with hr|hr
   ·rw[hr]at z;simp at z
   ·exact absurd (by rw[h];exact xr (by omega)) hr
 apply List.ext_getElem hl
 intro i h1 h2
 have:=h i
 rw[Br,Br,Bu h1,Bu h2]at this
 exact this
def xi(n:Int)(l:List Int)(z:Int):(zj .falling n (l++[z])).re=(zj .falling n l).re+z*wf n l.length:=by
 rw[uv,zS]
 rfl
def Lg.nonneg{n:Int}{r:List Int}(h:Lg .falling n r)(h1:1≤n):0≤(zj .falling n r).re:=by
 generalize hl:r.length=m
 induction m generalizing r with
 | zero=>obtain rfl:r=[]:=B8.mp hl;exact BW 0
 | succ m ih=>
  rcases zU r with rfl|⟨l,z,rfl⟩
  ·cases hl
  ·have hz:=h.fig l.length (by rw[List.length_append];simp)
   rw[getD_snoc_eq]at hz
   have hz0:0≤z:=hz.1
   have:=ih h.pop (by rw[Bv]at hl;exact Nat.succ.inj hl)
   rw[xi]
   have:=BX hz0 (show 0≤wf n l.length by have:=(zQ h1 l.length).1;omega)
   omega
def Lg.lt{n:Int}(h1:1≤n):∀(m:Nat)(r:List Int),r.length=m→Lg .falling n r→(zj .falling n r).re<wf n m:=by
 intro m
 induction m using Nat.strongRecOn with
 | ind m ih=>
  intro r hl h
  rcases zU r with rfl|⟨l,z,rfl⟩
  ·subst hl;show(0:Int)<wf n 0;rw[tP];decide
  ·have el:l.length+1=m:=by rw[Bv]at hl;exact hl
   have hz:=h.fig l.length (by rw[List.length_append];simp)
   rw[getD_snoc_eq]at hz
   have hz0:0≤z:=hz.1
   have hz1:z≤n:=hz.2
   have il:=ih l.length (by omega) l rfl h.pop
   have wp:=(zQ h1 l.length).1
   rw[xi,←el]
   rcases(by omega:z≤n-1∨z=n) with c|c
   ·have k1:=Bt c (show 0≤wf n l.length by omega)
    have k2:(n-1)*wf n l.length=n*wf n l.length-wf n l.length:=by rw[Int.sub_mul,CC]
    have k3:n*wf n l.length<wf n (l.length+1):=by
     cases l.length with
     | zero=>rw[rV,tP];omega
     | succ q=>rw[vg];have:=(zQ h1 q).1;omega
    omega
   ·subst c
    rcases zU l with rfl|⟨l',y,rfl⟩
    ·show(0:Int)+z*wf z 0<wf z 1
     rw[tP,rV];omega
    ·have hy:=h.fal rfl l'.length (by rw[List.length_append,List.length_append];simp) (by
      have:=getD_snoc_eq (r:=l'++[y]) (z:=z)
      rw[Bv]at this
      exact this)
     rw[zO (by rw[List.length_append];simp),getD_snoc_eq]at hy
     subst hy
     have i2:=ih l'.length (by rw[List.length_append]at el;simp at el;omega) l' rfl h.pop.pop
     rw[xi,BV,Cp,Bv]
     show _+z*wf z (l'.length+1)<wf z (l'.length+2)
     rw[vg]
     omega
theorem mF{n:Int}(h1:1≤n):∀(m:Nat)(r s:List Int),r.length=m→s.length=m→Lg .falling n r→Lg .falling n s→(zj .falling n r).re=(zj .falling n s).re→r=s
 | 0,r,s,hr,hs,_,_,_=>by rw[B8.mp hr,B8.mp hs]
 | m+1,r,s,hr,hs,Lr,Ls,e=>by
  rcases zU r with rfl|⟨l,z,rfl⟩
  ·cases hr
  rcases zU s with rfl|⟨l',z',rfl⟩
  ·cases hs
  have e1:l.length=m:=by rw[Bv]at hr;exact Nat.succ.inj hr
  have e2:l'.length=m:=by rw[Bv]at hs;exact Nat.succ.inj hs
  rw[xi,xi,e1,e2]at e
  have a1:=Lr.pop.nonneg h1
  have a2:=Lr.pop.lt h1 m l e1
  have b1:=Ls.pop.nonneg h1
  have b2:=Ls.pop.lt h1 m l' e2
  have wp:=(zQ h1 m).1
  have hz:z=z':=by
   rcases(by omega:z=z'∨z+1≤z'∨z'+1≤z) with c|c|c
   ·exact c
   ·have:=Bt c (show 0≤wf n m by omega)
    rw[CH,CC]at this
    omega
   ·have:=Bt c (show 0≤wf n m by omega)
    rw[CH,CC]at this
    omega
  subst hz
  rw[mF h1 m l l' e1 e2 Lr.pop Ls.pop (by omega)]
def Legal.lg{k:Kd}{n:Int}{r:List Int}(h:Legal k n r):Lg k n r:=⟨h.fig,h.fal⟩
def Legal.geF{n:Int}{r:List Int}(h:Legal .falling n r)(h1:1≤n)(hr:r≠[]):wf n (r.length-1)≤(zj .falling n r).re:=by
 rcases zU r with rfl|⟨l,z,rfl⟩
 ·exact absurd rfl hr
 ·have hz:=h.fig l.length (by rw[List.length_append];simp)
  rw[getD_snoc_eq]at hz
  have hz0:0≤z:=hz.1
  have el:(l++[z]).length-1=l.length:=by rw[Bv];rfl
  rcases h.end_ with c|c
  ·exact absurd c hr
  ·rw[el,getD_snoc_eq]at c
   rw[xi,el]
   have a1:=h.lg.pop.nonneg h1
   have wp:=(zQ h1 l.length).1
   have:=Bt (show 1≤z by omega) (show 0≤wf n l.length by omega)
   omega
def dG{n:Int}(h1:1≤n){i j:Nat}(h:i≤j):wf n i≤wf n j:=by
 induction h with
 | refl=>exact BW _
 | step _ ih=>exact CN ih (zQ h1 _).2
def LA{k:Kd}{n:Int}{r s:List Int}(hn:k.ok n)(hr:Legal k n r)(hs:Legal k n s)(e:zj k n r=zj k n s):r=s:=by
 by_cases hk:k=.falling
 ·subst hk
  have h1:1≤n:=hn.1
  have e':=congrArg Nm.re e
  rcases(by omega:r.length=s.length∨r.length<s.length∨s.length<r.length) with z|z|z
  ·exact mF h1 _ r s z rfl hr.lg hs.lg e'
  ·have a:=hr.lg.lt h1 _ r rfl
   have b:=hs.geF h1 (by intro q;rw[q]at z;simp at z)
   have:=dG h1 (show r.length≤s.length-1 by omega)
   omega
  ·have a:=hs.lg.lt h1 _ s rfl
   have b:=hr.geF h1 (by intro q;rw[q]at z;simp at z)
   have:=dG h1 (show s.length≤r.length-1 by omega)
   omega
 ·have h5:k.five=true:=by cases k<;>first|rfl|exact absurd rfl hk
  rw[sW h5,sW h5]at e
  exact d6 (Tl h5 hn r s 0 (fun p hp=>by rw[C2];exact hr.fig p hp) (fun p hp=>by rw[C2];exact hs.fig p hp) e) hr.end_ hs.end_
def wt7{k:Kd}{n:Int}(hn:k.ok n)(hk:k≠.pairs){j:Nat}(hj:j≤60):(wt k n j).re.natAbs≤2^(7*j):=by
 obtain⟨b1,b2⟩:=xq hn
 by_cases hf:k=.falling
 ·subst hf
  have:=ao b1 (by have:=hn.2;exact this) j
  have p:=(zQ b1 j).1
  have h2:2^(4*j)≤2^(7*j):=B6 (by decide) (by omega)
  show(wf n j).natAbs≤_
  omega
 ·have h4:k.four=true:=by cases k<;>first|rfl|exact absurd rfl hk|exact absurd rfl hf
  have h5:k.five=true:=by cases k<;>first|rfl|cases h4
  induction j with
  | zero=>
   have e:wt k n 0=.i 1:=by cases k<;>first|rfl|exact absurd rfl hf|exact absurd rfl hk
   rw[e]
   exact By 1
  | succ j ih=>
   have i:=ih (by omega)
   rw[xD h5,zE]
   have hr1:(k.ratN n j).im=0:=by cases k<;>first|rfl|cases h4
   have hr2:(k.ratN n j).re.natAbs≤128:=by cases k<;>cases h4<;>simp only[Kd.ratN,Kd.rat,Nm.re]<;>omega
   rw[hr1,BV,Int.sub_zero,Cf,show 7*(j+1)=7+7*j by omega,Ct]
   exact CY hr2 i
def ag{k:Kd}{n:Int}(hn:k.ok n){j:Nat}:(k=.below∨k=.balanced∨k=.pairs)∨∃x,wt k n j=.i x∧1≤x:=by
 obtain⟨b1,b2⟩:=xq hn
 cases k with
 | below=>exact .inl (.inl rfl)
 | balanced=>exact .inl (.inr (.inl rfl))
 | pairs=>exact .inl (.inr (.inr rfl))
 | falling=>exact .inr ⟨_,rfl,(zQ b1 j).1⟩
 | plain=>
  refine .inr ?_
  induction j with
  | zero=>exact⟨_,rfl,by decide⟩
  | succ j ih=>
   obtain⟨x,e,h⟩:=ih
   rw[xD rfl,e]
   exact⟨_,rfl,by show 1≤n*x;have:=BP b1 h (by decide) (by omega);omega⟩
 | growing=>
  refine .inr ?_
  induction j with
  | zero=>exact⟨_,rfl,by decide⟩
  | succ j ih=>
   obtain⟨x,e,h⟩:=ih
   rw[xD rfl,e]
   exact⟨_,rfl,by show 1≤(n+(j:Int))*x;have:=BP (show 1≤n+(j:Int) by omega) h (by decide) (by omega);omega⟩
def qw(k:Kd):Prop:=k=.plain∨k=.growing
def lJ{k:Kd}{n:Int}(hk:qw k)(hn:k.ok n)(j:Nat):∃w,wt k n j=.i w∧1≤w∧wt k n (j+1)=.i (k.rat n j*w)∧k.high n j=k.rat n j-1∧k.low n j=0:=by
 rcases hk with rfl|rfl
 ·rcases ag hn (j:=j) with (h|h|h)|⟨w,e,h⟩
  ·cases h
  ·cases h
  ·cases h
  ·exact⟨w,e,h,by rw[xD rfl,e];rfl,rfl,rfl⟩
 ·rcases ag hn (j:=j) with (h|h|h)|⟨w,e,h⟩
  ·cases h
  ·cases h
  ·cases h
  ·exact⟨w,e,h,by rw[xD rfl,e];rfl,rfl,rfl⟩
def ke{k:Kd}(hk:qw k):k≠.pairs:=by rcases hk with rfl|rfl<;>(intro z;cases z)
def Uf{k:Kd}(hk:qw k):k.five=true:=by rcases hk with rfl|rfl<;>rfl
theorem kW{k:Kd}{n:Int}{f:Nat→Int}(hk:qw k)(hn:k.ok n):∀j:Nat,(∀i:Nat,i<j→k.low n i≤f i∧f i≤k.high n i)→0≤(wF k n f j).re∧(wF k n f j).re<(wt k n j).re
 | 0,_=>by
  obtain⟨w,e,h,_⟩:=lJ hk hn 0
  rw[e]
  show 0≤(k.zero).re∧(k.zero).re<w
  rw[zY]
  omega
 | j+1,h=>by
  obtain⟨a,b⟩:=kW hk hn j fun i hi=>h i (by omega)
  obtain⟨w,e,hw,e2,h1,h2⟩:=lJ hk hn j
  obtain⟨f1,f2⟩:=h j (by omega)
  rw[e2]
  have ew:(wF k n f (j+1)).re=(wF k n f j).re+f j*w:=by
   show((wF k n f j).add ((Nm.i (f j)).mul (wt k n j))).re=_
   rw[zS,e]
   rfl
  rw[ew]
  rw[e]at b
  have b':(wF k n f j).re<w:=b
  rw[h2]at f1
  rw[h1]at f2
  have m1:=BX f1 (show 0≤w by omega)
  have m2:=Bt f2 (show 0≤w by omega)
  rw[Int.sub_mul,CC]at m2
  show 0≤_∧_<k.rat n j*w
  omega
def dn{k:Kd}{n:Int}{ts:List Nm}(hk:qw k)(hn:k.ok n)(ht:∀t∈ts,tot k t)(j:Nat):0≤(wN k n ts j).re↔yI k (cAt k n ts j)=true:=by
 have h5:=Uf hk
 obtain⟨t1,_⟩:=VY h5 hn ht j
 obtain⟨c,ec⟩:=xH (ke hk) (wK k n ts j)
 obtain⟨w,e,hw,_⟩:=lJ hk hn j
 obtain⟨a,b⟩:=kW (f:=fAt k n ts) hk hn j fun i _=>by
  obtain⟨s1,s2,_⟩:=sZ (j:=i) h5 hn (uf (wK k n ts i) (xJ ht i))
  exact⟨s1,s2⟩
 rw[e]at b
 have b':(wF k n (fAt k n ts) j).re<w:=b
 rw[ec,e,zE]at t1
 have t1':(wN k n ts j).re=(wF k n (fAt k n ts) j).re+(w*c-0*0):=t1
 rw[ec]
 have hh:yI k (.i c)=decide (0≤c):=by rcases hk with rfl|rfl<;>rfl
 rw[hh,decide_eq_true_iff,t1']
 constructor
 ·intro h
  rcases CB c 0 with z|z
  ·have:=BB (show c≤-1 by omega) (show 0≤w by omega)
   omega
  ·exact z
 ·intro h
  have:=BX (show 0≤w by omega) h
  omega
def iw{k:Kd}{m:Nm}(h5:k.five=true)(hk:¬qw k)(hm:m.ty k):yI k m=true:=by
 cases k with
 | plain=>exact absurd (.inl rfl) hk
 | growing=>exact absurd (.inr rfl) hk
 | falling=>cases h5
 | below=>obtain⟨a,rfl⟩:=hm;rfl
 | balanced=>obtain⟨a,rfl⟩:=hm;rfl
 | pairs=>obtain⟨a,b,rfl⟩:=hm;rfl
theorem aJ{k:Kd}{n:Int}{ts:List Nm}{b:Nat}(h5:k.five=true)(hn:k.ok n)(ht:∀t∈ts,tot k t)(hb:∀t∈ts,t.re.natAbs≤2^b∧t.im.natAbs≤2^b)(b7:7≤b)(hw:qw k→0≤(yp k n ts).re):
  ∃J,Fin k n ts J∧J≤ts.length+4*b+30:=by
 suffices z:yI k (cAt k n ts ts.length)=true by
  obtain⟨J,F,hJ,_⟩:=dW h5 hn ht hb b7 z
  exact⟨J,F,hJ⟩
 by_cases hk:qw k
 ·exact(dn hk hn ht _).mp (hw hk)
 ·exact iw h5 hk (wK k n ts _)
def ay(r:List Int):(r.map Nm.i).map Nm.dt=r.map Dt.int:=by rw[Cy];rfl
def xI{k:Kd}{r:List Int}:∀t∈r.map Nm.i,tot k t:=fun t h=>by
 obtain⟨z,_,e⟩:=BR.mp h
 rw[←e]
 exact uh k z
theorem dL(k:Kd)(n:Int)(r:List Int):∀j,wN k n (r.map Nm.i) j=yu k n r j
 | 0=>rfl
 | j+1=>by
  have e:(r.map Nm.i).getD j (.i 0)=.i (r.getD j 0):=by
   rw[Br,Br,Bx]
   cases r[j]?<;>rfl
  unfold wN yu
  rw[dL k n r j,e]
def yg(k:Kd)(n:Int)(r:List Int):yp k n (r.map Nm.i)=zj k n r:=by
 unfold yp zj
 rw[Bs,dL]
def mV{k:Kd}{n:Int}{r:List Int}(hn:k.ok n)(h:Legal k n r):yI k (zj k n r)=true:=by
 by_cases hf:k=.falling
 ·subst hf
  have:=h.lg.nonneg hn.1
  obtain⟨a,e⟩:=zD .falling n r
  rw[e]at this ⊢
  exact decide_eq_true this
 ·have h5:k.five=true:=by cases k<;>first|rfl|exact absurd rfl hf
  by_cases hk:qw k
  ·have a:=(kW (f:=fun i=>r.getD i 0) hk hn r.length fun i hi=>h.fig i hi).1
   obtain⟨x,e⟩:=xH (ke hk) (zD k n r)
   have:zj k n r=wF k n (fun i=>r.getD i 0) r.length:=wP k n r _
   rw[←this,e]at a
   rw[e]
   have a':0≤x:=a
   rcases hk with rfl|rfl<;>exact decide_eq_true a'
  ·exact iw h5 hk (zD k n r)
def lh{k:Kd}{n:Int}{r:List Int}(hn:k.ok n)(h:Legal k n r)(hl:r.length≤2000):∀t∈r,t.natAbs≤4000:=by
 intro t ht
 obtain⟨i,hi,e⟩:=List.getElem_of_mem ht
 have f:=h.fig i hi
 have eg:r.getD i 0=t:=by rw[Br,Bu hi,e];rfl
 rw[eg]at f
 obtain⟨b1,b2⟩:=xq hn
 have sq:n*n≤3600:=by have:=BP b2 b2 (by omega) (by omega);omega
 cases k<;>simp only[Kd.low,Kd.high]at f<;>omega
def UP{k:Kd}{n:Int}{r:List Int}(hn:k.ok n)(h:Legal k n r)(hl:r.length≤2000):bdR r:=fun t ht=>
 Cj (lh hn h hl t ht) (BO (by decide:4000<2^12) (B6 (by decide) (by decide)))
def VS{k:Kd}{n:Int}(hn:k.ok n){j:Nat}(hj:j≤60):(wt k n j).re.natAbs≤2^(7*j)∧(wt k n j).im.natAbs≤2^(7*j):=by
 by_cases hk:k=.pairs
 ·subst hk
  have h1:1≤n:=hn.1
  have h9:n≤9:=hn.2
  induction j with
  | zero=>exact⟨By 1,B4 _⟩
  | succ j ih=>
   obtain⟨a,b⟩:=ih (by omega)
   rw[xD rfl,zE,zI,show 7*(j+1)=7+7*j by omega,Ct]
   show(-n*(wt .pairs n j).re-1*(wt .pairs n j).im).natAbs≤_∧(-n*(wt .pairs n j).im+1*(wt .pairs n j).re).natAbs≤_
   generalize (wt .pairs n j).re=x at *
   generalize (wt .pairs n j).im=y at *
   generalize 2^(7 * j)=X at *
   have m1:(-n*x).natAbs≤9*X:=by rw[Cf];exact CY (by omega) a
   have m2:(-n*y).natAbs≤9*X:=by rw[Cf];exact CY (by omega) b
   have e:(2:Nat)^7=128:=rfl
   rw[e]
   omega
 ·refine⟨wt7 hn hk hj,?_⟩
  obtain⟨w,e⟩:=wtI (n:=n) hk j
  rw[e]
  exact B4 _
theorem jz{k:Kd}{n:Int}{r:List Int}(hn:k.ok n)(hs:∀t∈r,t.natAbs≤4000):∀j,j≤60→(yu k n r j).re.natAbs≤2^(7*j+13)∧(yu k n r j).im.natAbs≤2^(7*j+13)
 | 0,_=>by
  show(k.zero).re.natAbs≤_∧(k.zero).im.natAbs≤_
  rw[zY,z_]
  exact⟨B4 _,B4 _⟩
 | j+1,hj=>by
  obtain⟨a,b⟩:=jz hn hs j (by omega)
  obtain⟨w1,w2⟩:=VS hn (show j≤60 by omega)
  have ht:(r.getD j 0).natAbs≤4000:=by
   rw[Br]
   cases q:r[j]? with
   | none=>exact B4 _
   | some t=>exact hs t (BH q)
  have e:yu k n r (j+1)=(yu k n r j).add ((Nm.i (r.getD j 0)).mul (wt k n j)):=rfl
  rw[e,zS,ye,zE,zI]
  show((yu k n r j).re+(r.getD j 0*(wt k n j).re-0*(wt k n j).im)).natAbs≤_∧((yu k n r j).im+(r.getD j 0*(wt k n j).im+0*(wt k n j).re)).natAbs≤_
  have p1:2^(7*(j+1)+13)=128*(8192*2^(7*j)):=by rw[show 7*(j+1)+13=7+(13+7*j) by omega,Ct,Ct]
  have p2:2^(7*j+13)=8192*2^(7*j):=by rw[show 7*j+13=13+7*j by omega,Ct]
  rw[p1]
  rw[p2]at a b
  have m1:(r.getD j 0*(wt k n j).re).natAbs≤4000*2^(7*j):=by rw[Cf];exact CY ht w1
  have m2:(r.getD j 0*(wt k n j).im).natAbs≤4000*2^(7*j):=by rw[Cf];exact CY ht w2
  generalize 2^(7 * j)=X at *
  omega
abbrev Stp:=Bool×Nat
def hf(h:List Int)(p:Nat):Int:=h.getD p 0
def pt(a:Nat)(c:Int)(i:Nat):Int:=if i=a then c else 0
def chg(n:Int):Stp→List (Nat×Int)
 | (true,p)=>[(p+1,1),(p,-n),(p-1,-1)]
 | (false,0)=>[(1,1),(0,-n-1)]
 | (false,1)=>[(2,1),(1,-n-1),(0,n)]
 | (false,p+2)=>[(p+3,1),(p+2,-n-1),(p+1,n-1),(p,1)]
def xh:List (Nat×Int)→Nat→Int
 | [],_=>0
 | x::l,i=>pt x.1 x.2 i+xh l i
def dlt(n:Int)(s:Stp)(i:Nat):Int:=xh (chg n s) i
def Can(n:Int):Stp→(Nat→Int)→Prop
 | (true,p),f=>0<p∧n≤f p∧0<f (p-1)
 | (false,p),f=>n<f p
def sm(w f:Nat→Int):Nat→Int
 | 0=>0
 | m+1=>sm w f m+f m*w m
def ls(w:Nat→Int):List (Nat×Int)→Int
 | []=>0
 | x::l=>x.2*w x.1+ls w l
theorem tX(w f g:Nat→Int):∀m,sm w (fun i=>f i+g i) m=sm w f m+sm w g m
 | 0=>rfl
 | m+1=>by
  show sm w (fun i=>f i+g i) m+(f m+g m)*w m=(sm w f m+f m*w m)+(sm w g m+g m*w m)
  rw[tX w f g m,CH]
  omega
theorem aG(w f:Nat→Int)(c:Int):∀m,sm w (fun i=>c*f i) m=c*sm w f m
 | 0=>by show(0:Int)=c*0;rw[BN]
 | m+1=>by
  show sm w (fun i=>c*f i) m+(c*f m)*w m=c*(sm w f m+f m*w m)
  rw[aG w f c m,CS,Int.mul_assoc]
theorem Ws(w:Nat→Int)(a:Nat)(c:Int):∀m,sm w (pt a c) m=if a<m then c*w a else 0
 | 0=>by rw[if_neg (Cn _)];rfl
 | m+1=>by
  show sm w (pt a c) m+pt a c m*w m=_
  rw[Ws w a c m]
  unfold pt
  by_cases h:m=a
  ·subst h
   rw[if_neg (Ck _),if_pos rfl,if_pos (Nat.lt_succ_self _)]
   omega
  ·rw[if_neg h,BV]
   by_cases h2:a<m
   ·rw[if_pos h2,if_pos (by omega)];omega
   ·rw[if_neg h2,if_neg (by omega)];omega
theorem og(w:Nat→Int)(m:Nat):∀l:List (Nat×Int),(∀x∈l,x.1<m)→sm w (xh l) m=ls w l
 | [],_=>by
  show sm w (fun _=>0) m=0
  induction m with
  | zero=>rfl
  | succ m ih=>show sm w (fun _=>0) m+0*w m=0;rw[ih (fun _ h=>nomatch h)];omega
 | x::l,h=>by
  show sm w (fun i=>pt x.1 x.2 i+xh l i) m=x.2*w x.1+ls w l
  rw[tX,og w m l (fun y hy=>h y (BI _ hy))]
  rw[show sm w (fun i=>pt x.1 x.2 i) m=_ from Ws w x.1 x.2 m,if_pos (h x BJ)]
def dm{n:Int}{s:Stp}{m:Nat}(h:s.2+2≤m):∀x∈chg n s,x.1<m:=by
 intro x hx
 match s,h,hx with
 | (true,p),h,hx=>
  have h:p+2≤m:=h
  rcases BE.mp hx with rfl|hx
  ·show p+1<m;omega
  rcases BE.mp hx with rfl|hx
  ·show p<m;omega
  rw[BD.mp hx]
  show p-1<m;omega
 | (false,0),h,hx=>
  have h:0+2≤m:=h
  rcases BE.mp hx with rfl|hx
  ·show 1<m;omega
  rw[BD.mp hx]
  show 0<m;omega
 | (false,1),h,hx=>
  have h:1+2≤m:=h
  rcases BE.mp hx with rfl|hx
  ·show 2<m;omega
  rcases BE.mp hx with rfl|hx
  ·show 1<m;omega
  rw[BD.mp hx]
  show 0<m;omega
 | (false,p+2),h,hx=>
  have h:p+2+2≤m:=h
  rcases BE.mp hx with rfl|hx
  ·show p+3<m;omega
  rcases BE.mp hx with rfl|hx
  ·show p+2<m;omega
  rcases BE.mp hx with rfl|hx
  ·show p+1<m;omega
  rw[BD.mp hx]
  show p<m;omega
def Li{n:Int}{s:Stp}(h:s.1=true→0<s.2):ls (wf n) (chg n s)=0:=by
 match s,h with
 | (true,0),h=>exact absurd (h rfl) (Ck _)
 | (true,q+1),_=>
  show 1*wf n (q+2)+(-n*wf n (q+1)+(-1*wf n q+0))=0
  rw[vg]
  grind
 | (false,0),_=>
  show 1*wf n 1+((-n-1)*wf n 0+0)=0
  rw[rV,tP]
  omega
 | (false,1),_=>
  show 1*wf n (0+2)+((-n-1)*wf n 1+(n*wf n 0+0))=0
  rw[vg,rV,tP]
  grind
 | (false,q+2),_=>
  show 1*wf n ((q+1)+2)+((-n-1)*wf n (q+2)+((n-1)*wf n (q+1)+(1*wf n q+0)))=0
  rw[vg n (q+1),vg n q]
  grind
def cst(n:Int)(i:Nat):Int:=if n=1 then(if i=0 then 7 else 4*i+8) else i+1
def tN(n:Int)(i:Nat):1≤cst n i∧cst n i≤4*i+8:=by
 unfold cst
 split
 ·split<;>omega
 ·omega
def oe(i:Nat):cst 1 i=if i=0 then(7:Int) else 4*(i:Int)+8:=by unfold cst;rw[if_pos rfl]
def p7{n:Int}(h:n≠1)(i:Nat):cst n i=i+1:=by unfold cst;rw[if_neg h]
def Lj{n:Int}(hn:1≤n){s:Stp}(h:s.1=true→0<s.2):ls (cst n) (chg n s)≤-1:=by
 by_cases h1:n=1
 ·subst h1
  match s,h with
  | (true,0),h=>exact absurd (h rfl) (Ck _)
  | (true,q+1),_=>
   show 1*cst 1 (q+2)+(-1*cst 1 (q+1)+(-1*cst 1 q+0))≤-1
   rw[oe,oe,oe,if_neg (by omega),if_neg (by omega)]
   split<;>omega
  | (false,0),_=>
   show 1*cst 1 1+((-1-1)*cst 1 0+0)≤-1
   rw[oe,oe];decide
  | (false,1),_=>
   show 1*cst 1 2+((-1-1)*cst 1 1+(1*cst 1 0+0))≤-1
   rw[oe,oe,oe];decide
  | (false,q+2),_=>
   show 1*cst 1 (q+3)+((-1-1)*cst 1 (q+2)+((1-1)*cst 1 (q+1)+(1*cst 1 q+0)))≤-1
   rw[oe,oe,oe,oe,if_neg (by omega),if_neg (by omega),if_neg (by omega)]
   split<;>omega
 ·match s,h with
  | (true,0),h=>exact absurd (h rfl) (Ck _)
  | (true,q+1),_=>
   show 1*cst n (q+2)+(-n*cst n (q+1)+(-1*cst n q+0))≤-1
   rw[p7 h1,p7 h1,p7 h1]
   have hq:0≤n*(q:Int):=BX (by omega) (by omega)
   have e:1*(((q+2:Nat):Int)+1)+(-n*(((q+1:Nat):Int)+1)+(-1*((q:Int)+1)+0))=2-n*q-2*n:=by
    rw[show((q+2:Nat):Int)=(q:Int)+2 by omega,show((q+1:Nat):Int)=(q:Int)+1 by omega]
    grind
   rw[e]
   omega
  | (false,0),_=>
   show 1*cst n 1+((-n-1)*cst n 0+0)≤-1
   rw[p7 h1,p7 h1]
   omega
  | (false,1),_=>
   show 1*cst n 2+((-n-1)*cst n 1+(n*cst n 0+0))≤-1
   rw[p7 h1,p7 h1,p7 h1]
   omega
  | (false,q+2),_=>
   show 1*cst n (q+3)+((-n-1)*cst n (q+2)+((n-1)*cst n (q+1)+(1*cst n q+0)))≤-1
   rw[p7 h1,p7 h1,p7 h1,p7 h1]
   have e:1*(((q+3:Nat):Int)+1)+((-n-1)*(((q+2:Nat):Int)+1)+((n-1)*(((q+1:Nat):Int)+1)+(1*((q:Int)+1)+0)))=-n:=by
    rw[show((q+3:Nat):Int)=(q:Int)+3 by omega,show((q+2:Nat):Int)=(q:Int)+2 by omega,show((q+1:Nat):Int)=(q:Int)+1 by omega]
    grind
   rw[e]
   omega
def Z8{n:Int}{p:Nat}(h:0<p):dlt n (true,p) p=-n∧dlt n (true,p) (p-1)=-1∧∀i,i≠p→i≠p-1→0≤dlt n (true,p) i:=by
 refine⟨?_,?_,fun i h1 h2=>?_⟩
 ·show pt (p+1) 1 p+(pt p (-n) p+(pt (p-1) (-1) p+0))=-n
  unfold pt
  rw[if_neg (by omega),if_pos rfl,if_neg (by omega)]
  omega
 ·show pt (p+1) 1 (p-1)+(pt p (-n) (p-1)+(pt (p-1) (-1) (p-1)+0))=-1
  unfold pt
  rw[if_neg (by omega),if_neg (by omega),if_pos rfl]
  omega
 ·show 0≤pt (p+1) 1 i+(pt p (-n) i+(pt (p-1) (-1) i+0))
  unfold pt
  rw[if_neg h1,if_neg h2]
  split<;>omega
def i9{n:Int}(hn:1≤n)(p:Nat):dlt n (false,p) p=-n-1∧∀i,i≠p→0≤dlt n (false,p) i:=by
 match p with
 | 0=>
  refine⟨?_,fun i h1=>?_⟩
  ·show pt 1 1 0+(pt 0 (-n-1) 0+0)=_
   unfold pt
   rw[if_neg (by omega),if_pos rfl]
   omega
  ·show 0≤pt 1 1 i+(pt 0 (-n-1) i+0)
   unfold pt
   rw[if_neg h1]
   split<;>omega
 | 1=>
  refine⟨?_,fun i h1=>?_⟩
  ·show pt 2 1 1+(pt 1 (-n-1) 1+(pt 0 n 1+0))=_
   unfold pt
   rw[if_neg (by omega),if_pos rfl,if_neg (by omega)]
   omega
  ·show 0≤pt 2 1 i+(pt 1 (-n-1) i+(pt 0 n i+0))
   unfold pt
   rw[if_neg h1]
   split<;>split<;>omega
 | q+2=>
  refine⟨?_,fun i h1=>?_⟩
  ·show pt (q+3) 1 (q+2)+(pt (q+2) (-n-1) (q+2)+(pt (q+1) (n-1) (q+2)+(pt q 1 (q+2)+0)))=_
   unfold pt
   rw[if_neg (by omega),if_pos rfl,if_neg (by omega),if_neg (by omega)]
   omega
  ·show 0≤pt (q+3) 1 i+(pt (q+2) (-n-1) i+(pt (q+1) (n-1) i+(pt q 1 i+0)))
   unfold pt
   rw[if_neg h1]
   split<;>split<;>split<;>omega
def Oft(n:Int):Stp→(Nat→Int)→Int→Prop
 | (true,p),f,m=>0<p∧m*n≤f p∧m≤f (p-1)
 | (false,p),f,m=>m*(n+1)≤f p
def Oft.up{n m:Int}{s:Stp}{f:Nat→Int}(h:Oft n s f m):s.1=true→0<s.2:=by
 match s,h with
 | (true,p),h=>exact fun _=>h.1
 | (false,p),_=>exact fun z=>Bool.noConfusion z
def Oft.nonneg{n m:Int}(hn:1≤n)(hm:0≤m){s:Stp}{f:Nat→Int}(h:Oft n s f m)(hf0:∀i,0≤f i)(i:Nat):0≤f i+m*dlt n s i:=by
 have pos:∀d:Int,0≤d→0≤f i+m*d:=fun d hd=>by
  have:=BX hm hd
  have:=hf0 i
  omega
 match s,h with
 | (true,p),⟨h1,h2,h3⟩=>
  obtain⟨a,b,c⟩:=Z8 (n:=n) h1
  by_cases e1:i=p
  ·subst e1;rw[a,Cv];omega
  by_cases e2:i=p-1
  ·subst e2;rw[b,Cv,Cc];omega
  exact pos _ (c i e1 e2)
 | (false,p),h=>
  obtain⟨a,c⟩:=i9 hn p
  by_cases e1:i=p
  ·subst e1
   rw[a,show -n-1=-(n+1) by omega,Cv]
   have:m*(n+1)≤f i:=h
   omega
  exact pos _ (c i e1)
def Oft.can{n m j:Int}(hn:1≤n){s:Stp}{f:Nat→Int}(h:Oft n s f m)(hj0:0≤j)(hj:j<m):Can n s (fun i=>f i+j*dlt n s i):=by
 match s,h with
 | (true,p),⟨h1,h2,h3⟩=>
  obtain⟨a,b,c⟩:=Z8 (n:=n) h1
  have k:=Bt (show j+1≤m by omega) (show 0≤n by omega)
  rw[CH,CC]at k
  refine⟨h1,?_,?_⟩
  ·show n≤f p+j*dlt n (true,p) p
   rw[a,Cv];omega
  ·show 0<f (p-1)+j*dlt n (true,p) (p-1)
   rw[b,Cv,Cc];omega
 | (false,p),h=>
  obtain⟨a,c⟩:=i9 hn p
  have h:m*(n+1)≤f p:=h
  have k:=Bt (show j+1≤m by omega) (show 0≤n+1 by omega)
  rw[CH,CC]at k
  show n<f p+j*dlt n (false,p) p
  rw[a,show -n-1=-(n+1) by omega,Cv]
  omega
def Walk(n:Int):(Nat→Int)→List Stp→(Nat→Int)→Prop
 | f,[],g=>f=g
 | f,s::ss,g=>Can n s f∧Walk n (fun i=>f i+dlt n s i) ss g
theorem Walk.append{n:Int}{g k:Nat→Int}{ts:List Stp}(h2:Walk n g ts k):∀{ss:List Stp}{f:Nat→Int},Walk n f ss g→Walk n f (ss++ts) k
 | [],_,h=>by rw[show _=g from h];exact h2
 | s::ss,_,h=>⟨h.1,Walk.append h2 h.2⟩
theorem jE{n:Int}{s:Stp}:∀(m:Nat)(f:Nat→Int),(∀j:Nat,j<m→Can n s (fun i=>f i+j*dlt n s i))→Walk n f (List.replicate m s) (fun i=>f i+m*dlt n s i)
 | 0,f,_=>by
  show f=_
  funext i
  rw[show((0:Nat):Int)=0 from rfl,BV,Cp]
 | m+1,f,h=>by
  refine⟨?_,?_⟩
  ·have:=h 0 (Nat.succ_pos _)
   have e:(fun i=>f i+((0:Nat):Int)*dlt n s i)=f:=by
    funext i
    rw[show((0:Nat):Int)=0 from rfl,BV,Cp]
   rw[e]at this
   exact this
  ·have:=jE m (fun i=>f i+dlt n s i) (fun j hj=>by
    have:=h (j+1) (by omega)
    have e:(fun i=>f i+((j+1:Nat):Int)*dlt n s i)=fun i=>f i+dlt n s i+j*dlt n s i:=by
     funext i
     rw[show((j+1:Nat):Int)=(j:Int)+1 by omega,CH,CC]
     omega
    rw[e]at this
    exact this)
   have e:(fun i=>f i+((m+1:Nat):Int)*dlt n s i)=fun i=>f i+dlt n s i+m*dlt n s i:=by
    funext i
    rw[show((m+1:Nat):Int)=(m:Int)+1 by omega,CH,CC]
    omega
   rw[e]
   exact this
def yG{h:List Int}{i:Nat}(hi:h.length≤i):hf h i=0:=by unfold hf;rw[List.getD_eq_getElem?_getD,List.getElem?_eq_none hi];rfl
theorem tW(w:Nat→Int){f:Nat→Int}{k:Nat}(h:∀i,k≤i→f i=0):∀m,k≤m→sm w f m=sm w f k
 | 0,hm=>by rw[show k=0 by omega]
 | m+1,hm=>by
  by_cases e:k=m+1
  ·rw[e]
  ·show sm w f m+f m*w m=_
   rw[h m (by omega),BV,tW w h m (by omega)]
   omega
def hw(n:Int)(h:List Int):Int:=sm (wf n) (hf h) h.length
def pot(n:Int)(h:List Int):Int:=sm (cst n) (hf h) h.length
def Mu{h:List Int}(h0:∀z∈h,0≤z)(i:Nat):0≤hf h i:=by
 unfold hf
 rw[Br]
 cases q:h[i]? with
 | none=>exact BW _
 | some z=>exact h0 z (BH q)
theorem jJ{w f:Nat→Int}(hw:∀i,0≤w i)(hf:∀i,0≤f i):∀m,0≤sm w f m
 | 0=>BW _
 | m+1=>Int.add_nonneg (jJ hw hf m) (BX (hf m) (hw m))
theorem dS{w f:Nat→Int}(hw:∀i,0≤w i)(hf:∀i,0≤f i){i:Nat}:∀m,i<m→f i*w i≤sm w f m
 | 0,h=>absurd h (Cn _)
 | m+1,h=>by
  show _≤sm w f m+f m*w m
  by_cases e:i=m
  ·subst e
   have:=jJ hw hf i
   omega
  ·have:=dS hw hf (i:=i) m (by omega)
   have:=BX (hf m) (hw m)
   omega
theorem aF{n:Int}(hn:1≤n){f:Nat→Int}(hf:∀i,0≤f i):∀m,sm (wf n) f m≤sm (fun _=>1) f m*wf n m
 | 0=>by show(0:Int)≤0*_;rw[BV];exact BW _
 | m+1=>by
  obtain⟨p1,p2⟩:=zQ hn m
  have ih:=aF hn hf m
  have t0:=jJ (w:=fun _=>1) (fun _=>by decide) hf (m+1)
  have k:=BB p2 t0
  have e:sm (fun _=>1) f (m+1)*wf n m=sm (fun _=>1) f m*wf n m+f m*wf n m:=by
   show(sm (fun _=>1) f m+f m*1)*wf n m=_
   rw[Cc,CH]
  show sm (wf n) f m+f m*wf n m≤_
  omega
theorem Wt{w v f:Nat→Int}(hf:∀i,0≤f i)(h:∀i,w i≤v i):∀m,sm w f m≤sm v f m
 | 0=>BW _
 | m+1=>by
  have:=Wt hf h m
  have:=BB (h m) (hf m)
  show sm w f m+f m*w m≤sm v f m+f m*v m
  omega
theorem dH{n:Int}(hn:1≤n)(m:Nat):∀b:Nat,((2^b:Nat):Int)*wf n m≤wf n (m+2*b)
 | 0=>by rw[show((2^0:Nat):Int)=1 from rfl,CC];exact BW _
 | b+1=>by
  have ih:=dH hn m b
  obtain⟨a1,b1⟩:=zQ hn (m+2*b)
  have:wf n (m+2*b+1)≤n*wf n (m+2*b+1):=by
   have:=Bt hn (show 0≤wf n (m+2*b+1) by omega)
   omega
  have e:wf n (m+2*(b+1))=n*wf n (m+2*b+1)+wf n (m+2*b):=vg n (m+2*b)
  have hp:((2^(b+1):Nat):Int)*wf n m=2*(((2^b:Nat):Int)*wf n m):=by rw[CG,Int.natCast_mul,Ci ((2^b:Nat):Int),Int.mul_assoc];rfl
  omega
theorem jD{n:Int}(hn:1≤n)(m:Nat):∀k,wf n m≤wf n (m+k)
 | 0=>BW _
 | k+1=>CN (jD hn m k) (zQ hn (m+k)).2
def Zf{n:Int}(hn:1≤n){h l:List Int}(h0:∀i,0≤hf h i)(l0:∀i,0≤hf l i)(hp:pot n h≤15000000)(e:hw n l=hw n h){p:Nat}(hpos:0<hf l p):p<h.length+48:=by
 rcases Ca p (h.length+48) with z|z
 ·exact z
 exfalso
 have hpl:p<l.length:=by
  rcases Ca p l.length with z|z
  ·exact z
  ·rw[yG z]at hpos;omega
 have w0:∀i,0≤wf n i:=fun i=>by have:=(zQ hn i).1;omega
 have g1:=dS w0 l0 l.length hpl
 have g2:wf n p≤hf l p*wf n p:=by
  have:=Bt (show 1≤hf l p by omega) (w0 p)
  omega
 have t:=aF hn h0 h.length
 have tp:sm (fun _=>1) (hf h) h.length≤pot n h:=Wt h0 (fun i=>(tN n i).1) _
 have gr:=dH hn h.length 24
 have mo:=jD hn (h.length+2*24) (p-(h.length+2*24))
 rw[show h.length+2*24+(p-(h.length+2*24))=p by omega]at mo
 have w1:=(zQ hn h.length).1
 have k:=Bt (show sm (fun _=>1) (hf h) h.length≤15000000 by omega) (show 0≤wf n h.length by omega)
 have e2:((2^24:Nat):Int)=16777216:=by decide
 rw[e2]at gr
 have e:sm (wf n) (hf l) l.length=sm (wf n) (hf h) h.length:=e
 omega
theorem bM{n m:Int}(hn:1≤n)(hm:1≤m){l l':List Int}{s:Stp}(l0:∀i,0≤hf l i)(ho:Oft n s (hf l) m)(hl:l'.length=max l.length (s.2+2))(he:∀i,hf l' i=hf l i+m*dlt n s i):
  (∀i,0≤hf l' i)∧hw n l'=hw n l∧pot n l'+m≤pot n l∧Walk n (hf l) (List.replicate m.toNat s) (hf l'):=by
 have ef:hf l'=fun i=>hf l i+m*dlt n s i:=funext he
 have sums:∀w:Nat→Int,sm w (hf l') l'.length=sm w (hf l) l.length+m*ls w (chg n s):=fun w=>by
  rw[ef,tX,aG,show sm w (fun i=>dlt n s i) l'.length=_ from og w l'.length (chg n s) (dm (by omega)),tW w (fun i hi=>yG hi) l'.length (by omega)]
 refine⟨fun i=>?_,?_,?_,?_⟩
 ·rw[he];exact ho.nonneg hn (by omega) l0 i
 ·show sm (wf n) (hf l') l'.length=sm (wf n) (hf l) l.length
  rw[sums,Li ho.up,BN,Cp]
 ·show sm (cst n) (hf l') l'.length+m≤sm (cst n) (hf l) l.length
  rw[sums]
  have:=BB (Lj hn ho.up) (show 0≤m by omega)
  omega
 ·have:=jE (n:=n) (s:=s) m.toNat (hf l) (fun j hj=>ho.can hn (by omega) (by omega))
  rw[show((m.toNat:Nat):Int)=m from Int.toNat_of_nonneg (by omega)]at this
  rw[ef]
  exact this
def cm(l:List Int)(i:Nat):hf (trim l) i=hf l i:=by
 generalize hl:l.length=m
 induction m generalizing l with
 | zero=>rw[B8.mp hl];rfl
 | succ m ih=>
  rcases zU l with rfl|⟨r,z,rfl⟩
  ·cases hl
  ·by_cases hz:z=0
   ·subst hz
    rw[vh,ih r (by rw[Bv]at hl;exact Nat.succ.inj hl)]
    unfold hf
    rw[Br,Br]
    by_cases h1:i<r.length
    ·rw[B2 h1]
    ·rw[BG (by omega)]
     rw[B1 (by omega)]
     by_cases h2:i-r.length=0
     ·rw[h2];rfl
     ·rw[List.getElem?_eq_none (by simp;omega)]
   ·rw[sY hz]
def XI(n:Int)(l:List Int):hw n (trim l)=hw n l:=by
 have e:hf (trim l)=hf l:=funext (cm l)
 show sm (wf n) (hf (trim l)) (trim l).length=sm (wf n) (hf l) l.length
 rw[←tW (wf n) (fun i hi=>yG hi) l.length (wb l),e]
structure Lz(n:Int)(h:List Int)(ss:List Stp)(r:List Int):Prop where
 leg:Legal .falling n r
 eqw:hw n r=hw n h
 wlk:Walk n (hf h) ss (hf r)
 len:r.length≤h.length+60
 few:ss.length≤15000000
def y8(n:Int)(f:Nat→Int)(p:Nat):Option Stp:=if 0<p∧n≤f p∧0<f (p-1) then some (true,p) else if n<f p then some (false,p) else none
def qW{n:Int}{f:Nat→Int}{p:Nat}(h:y8 n f p=none):f p≤n∧(0<p→n≤f p→f (p-1)≤0):=by
 unfold y8 at h
 split at h
 ·cases h
 ·rename_i h1
  split at h
  ·cases h
  ·rename_i h2
   refine⟨by omega,fun a b=>?_⟩
   rcases CB 0 (f (p-1)) with z|z
   ·exact absurd ⟨a,b,z⟩ h1
   ·exact z
def jH{n:Int}{f:Nat→Int}{p:Nat}{s:Stp}(h:y8 n f p=some s):s.2=p∧Can n s f:=by
 unfold y8 at h
 split at h
 ·rename_i h1;cases h;exact⟨rfl,h1⟩
 ·split at h
  ·rename_i h2;cases h;exact⟨rfl,h2⟩
  ·cases h
def XE{n:Int}{l:List Int}(l0:∀i,0≤hf l i)(h:∀q,q<l.length→y8 n (hf l) q=none):Lg .falling n l:=by
 refine⟨fun p hp=>⟨l0 p,(qW (h p hp)).1⟩,fun _ p hp e=>?_⟩
 have:=(qW (h (p+1) hp)).2 (by omega) (by unfold hf;rw[e];exact Int.le_refl _)
 have k:=l0 p
 rw[show p+1-1=p by omega]at this
 unfold hf at this k
 omega
def cz{n:Int}{s:Stp}{i:Nat}(h:s.2+1<i):dlt n s i=0:=by
 have key:∀l:List (Nat×Int),(∀x∈l,x.1<i)→xh l i=0:=by
  intro l
  induction l with
  | nil=>intro _;rfl
  | cons x l ih=>
   intro hl
   show pt x.1 x.2 i+xh l i=0
   rw[ih (fun y hy=>hl y (BI _ hy))]
   unfold pt
   rw[if_neg (by have:=hl x BJ;omega)]
   rfl
 exact key _ (dm (by omega))
theorem dE(n:Int)(r:List Int):∀j,yu .falling n r j=.i (sm (wf n) (hf r) j)
 | 0=>rfl
 | j+1=>by
  show(yu .falling n r j).add ((Nm.i (r.getD j 0)).mul (.i (wf n j)))=_
  rw[dE n r j]
  rfl
def Ze{n B:Int}{h:List Int}(hb:∀z∈h,0≤z∧z≤B)(hB:0≤B):pot n h≤h.length*(B*(4*h.length+8)):=by
 have key:∀m:Nat,m≤h.length→sm (cst n) (hf h) m≤m*(B*(4*h.length+8)):=by
  intro m
  induction m with
  | zero=>intro _;show(0:Int)≤0*_;rw[BV];exact BW _
  | succ m ih=>
   intro hm
   have ih:=ih (by omega)
   have c:=tN n m
   have f1:0≤hf h m∧hf h m≤B:=by
    unfold hf
    rw[Br,Bu (by omega)]
    exact hb _ (List.getElem_mem _)
   have k1:=BP f1.2 (show cst n m≤4*(h.length:Int)+8 by omega) (by omega) hB
   show sm (cst n) (hf h) m+hf h m*cst n m≤((m+1:Nat):Int)*_
   rw[show((m+1:Nat):Int)=(m:Int)+1 by omega,CH,CC]
   omega
 exact key h.length (By _)
def gZ:Bool→Str
 | true=>.ofString "up"
 | false=>.ofString "part"
def xK(s:Stp):Dt:=.tup [.str (gZ s.1),.int s.2]
def chD(x:Nat×Int):Dt:=.tup [.int x.1,.int x.2]
def Sb:Option Stp→Dt
 | none=>.non
 | some s=>xK s
def Xb{Q:Dt→Prop}{d e:Dt}(q:Q d)(h:e=d):Q e:=h ▸ q
def gb(a b:List (Nat×Int))(j:Nat):xh (a++b) j=xh a j+xh b j:=by
 induction a with
 | nil=>show xh b j=0+xh b j;omega
 | cons x a ih=>show pt x.1 x.2 j+xh (a++b) j=pt x.1 x.2 j+xh a j+xh b j;omega
def b_{l:List (Nat×Int)}{i:Nat}{x:Nat×Int}(h:l[i]? = some x)(j:Nat):xh (l.take (i+1)) j=xh (l.take i) j+pt x.1 x.2 j:=by
 rw[CQ,h,gb]
 show _+(pt x.1 x.2 j+0)=_
 omega
def Tj{n:Int}(h1:1≤n)(h2:n≤60){s:Stp}:∀x∈chg n s,-1000≤x.2∧x.2≤1000:=by
 intro x hx
 have o1:(-1000:Int)≤1∧(1:Int)≤1000:=by decide
 have o2:(-1000:Int)≤-1∧(-1:Int)≤1000:=by decide
 match s,hx with
 | (true,p),hx=>
  rcases BE.mp hx with rfl|hx
  ·exact o1
  rcases BE.mp hx with rfl|hx
  ·show -1000≤-n∧-n≤1000;omega
  rw[BD.mp hx]
  exact o2
 | (false,0),hx=>
  rcases BE.mp hx with rfl|hx
  ·exact o1
  rw[BD.mp hx]
  show -1000≤-n-1∧-n-1≤1000;omega
 | (false,1),hx=>
  rcases BE.mp hx with rfl|hx
  ·exact o1
  rcases BE.mp hx with rfl|hx
  ·show -1000≤-n-1∧-n-1≤1000;omega
  rw[BD.mp hx]
  show -1000≤n∧n≤1000;omega
 | (false,p+2),hx=>
  rcases BE.mp hx with rfl|hx
  ·exact o1
  rcases BE.mp hx with rfl|hx
  ·show -1000≤-n-1∧-n-1≤1000;omega
  rcases BE.mp hx with rfl|hx
  ·show -1000≤n-1∧n-1≤1000;omega
  rw[BD.mp hx]
  exact o1
def UM(l:List Int)(k i:Nat):hf (l++List.replicate k 0) i=hf l i:=by
 unfold hf
 rw[Br,Br]
 by_cases h:i<l.length
 ·rw[B2 h]
 ·rw[B1 (by omega),BG (show l.length≤i by omega),CP]
  split<;>rfl
def kR{l:List Int}{p:Nat}(h:p<l.length)(c:Int)(i:Nat):hf (l.set p (hf l p+c)) i=hf l i+pt p c i:=by
 unfold hf pt
 rw[Br,Br,Br]
 by_cases e:i=p
 ·subst e
  rw[B0 h,if_pos rfl]
  rfl
 ·rw[BK (fun z=>e z.symm),if_neg e]
  omega
def vY{l:List Int}{p:Nat}(h:p<l.length):(l.map Dt.int)[p]? = some (.int (hf l p)):=by
 unfold hf
 rw[Bx,Bu h,Br,Bu h]
 rfl
def aR(k:Nat)(s:Stp):(List.replicate k [xK s]).flatten=(List.replicate k s).map xK:=by
 induction k with
 | zero=>rfl
 | succ k ih=>rw[Cq,Cw,ih];rfl
def mN(k:Nat)(s:Stp):(List.replicate k [Sb (some s)]).flatten=(List.replicate k s).map xK:=aR k s
def Can.pos{n:Int}(hn:1≤n){s:Stp}{f:Nat→Int}(h:Can n s f):0<f s.2:=by
 match s,h with
 | (true,p),⟨_,h2,_⟩=>show 0<f p;omega
 | (false,p),h=>
  have h:n<f p:=h
  show 0<f p;omega
def Oft.le_pot{n m:Int}(hn:1≤n){s:Stp}{l:List Int}(l0:∀i,0≤hf l i)(hm:0≤m)(h:Oft n s (hf l) m)(hs:s.2<l.length):m≤pot n l:=by
 have a:m≤hf l s.2:=by
  match s,h with
  | (true,p),⟨_,h2,_⟩=>
   have:=BB hn hm
   show m≤hf l p;omega
  | (false,p),h=>
   have h:m*(n+1)≤hf l p:=h
   have:=BB (show 1≤n+1 by omega) hm
   show m≤hf l p;omega
 have b:=dS (w:=cst n) (fun i=>by have:=(tN n i).1;omega) l0 l.length hs
 have c:=BB (tN n s.2).1 (l0 s.2)
 show m≤sm (cst n) (hf l) l.length
 omega
def nv(a b:Int):a=b*a.fdiv b+a.fmod b:=by have:=Int.fmod_def a b;omega
def cr{a b:Int}(hb:0<b):a.fdiv b*b≤a:=by
 have:=nv a b
 have:=Bz a hb
 rw[Ci]
 omega
def iT{a b:Int}(hb:0<b)(h:b≤a):1≤a.fdiv b:=by
 have e:=nv a b
 have f:=BF a hb
 rcases CB 0 (a.fdiv b) with z|z
 ·exact z
 ·have:=BB z (show 0≤b by omega)
  omega
def yX(a b:List Int):List Int:=(List.range (max a.length b.length)).map fun p=>a.getD p 0+b.getD p 0
def uJ(a b:List Int):(yX a b).length=max a.length b.length:=by unfold yX;rw[List.length_map,List.length_range]
def kS(a b:List Int)(p:Nat):hf (yX a b) p=hf a p+hf b p:=by
 by_cases h:p<max a.length b.length
 ·unfold hf yX
  rw[Br,Bx,CA h]
  rfl
 ·rw[yG (by rw[uJ];omega),yG (by omega),yG (by omega)]
  rfl
theorem dB(k:Kd)(n:Int)(ns:List Int):∀j,(yu k n ns j).re=sm (fun i=>(wt k n i).re) (hf ns) j
 | 0=>zY k
 | j+1=>by
  show((yu k n ns j).add ((Nm.i (ns.getD j 0)).mul (wt k n j))).re=_
  rw[zS,zE,dB k n ns j]
  show _+(hf ns j*(wt k n j).re-0*(wt k n j).im)=_
  rw[BV,Int.sub_zero]
  rfl
theorem dD(k:Kd)(n:Int)(ns:List Int):∀j,(yu k n ns j).im=sm (fun i=>(wt k n i).im) (hf ns) j
 | 0=>z_ k
 | j+1=>by
  show((yu k n ns j).add ((Nm.i (ns.getD j 0)).mul (wt k n j))).im=_
  rw[ye,zI,dD k n ns j]
  show _+(hf ns j*(wt k n j).im+0*(wt k n j).re)=_
  rw[BV,Cp]
  rfl
def oC{k:Kd}{n:Int}{r:List Int}{m:Nat}(h:r.length≤m):(zj k n r).re=sm (fun i=>(wt k n i).re) (hf r) m:=by
 rw[tW _ (fun i hi=>yG hi) m h];exact dB k n r _
def oE{k:Kd}{n:Int}{r:List Int}{m:Nat}(h:r.length≤m):(zj k n r).im=sm (fun i=>(wt k n i).im) (hf r) m:=by
 rw[tW _ (fun i hi=>yG hi) m h];exact dD k n r _
def nL{k:Kd}{a b:Nm}(ha:a.ty k)(hb:b.ty k):(a.add b).ty k:=uf ha (yb hb)
def oB(k:Kd)(n:Int)(a b:List Int):zj k n (yX a b)=(zj k n a).add (zj k n b):=by
 have e:hf (yX a b)=fun p=>hf a p+hf b p:=funext (kS a b)
 have hl:=uJ a b
 refine wD (zD k n _) (nL (zD k n a) (zD k n b)) ?_ ?_
 ·rw[zS,oC (m:=(yX a b).length) (By _),oC (r:=a) (m:=(yX a b).length) (by omega),oC (r:=b) (m:=(yX a b).length) (by omega),e,tX]
 ·rw[ye,oE (m:=(yX a b).length) (By _),oE (r:=a) (m:=(yX a b).length) (by omega),oE (r:=b) (m:=(yX a b).length) (by omega),e,tX]
def tE{k:Kd}{n:Int}{r:List Int}(hn:k.ok n)(h:Legal k n r)(hk:qw k):0≤(zj k n r).re:=by
 have:=mV hn h
 obtain⟨a,e⟩:=xH (ke hk) (zD k n r)
 rw[e]at this ⊢
 rcases hk with rfl|rfl<;>exact of_decide_eq_true this
def yC(n:Int)(r:List Int):zj .falling n r=.i (hw n r):=dE n r r.length
def qG(k:Kd)(n:Int):Legal k n []:=⟨fun p h=>absurd h (Cn _),fun _ p h=>absurd h (Cn _),.inl rfl⟩
def qv{n B:Int}{h:List Int}(hb:∀z∈h,0≤z∧z≤B)(h0:0≤B)(hB:B≤80)(hl:h.length≤200):pot n h≤15000000:=by
 have p:=Ze (n:=n) hb h0
 have k1:=BP hB (show 4*(h.length:Int)+8≤808 by omega) (by omega) (by decide)
 have k2:=BP (show(h.length:Int)≤200 by omega) k1 (BX h0 (by omega)) (by decide)
 omega
def uI{a b:List Int}{z:Int}(h:z∈yX a b):∃p,z=hf a p+hf b p:=by
 unfold yX at h
 obtain⟨p,_,rfl⟩:=BR.mp h
 exact⟨p,rfl⟩
def tK{k:Kd}{n:Int}{r:List Int}(hn:k.ok n)(h:Legal k n r)(hl:r.length≤2000)(p:Nat):(hf r p).natAbs≤4000:=by
 by_cases hp:p<r.length
 ·refine lh hn h hl _ ?_
  unfold hf
  rw[Br,Bu hp]
  exact List.getElem_mem _
 ·rw[yG (by omega)];decide
def yy{n:Int}{r:List Int}(hn:Kd.falling.ok n)(h:Legal .falling n r)(p:Nat):0≤hf r p∧hf r p≤n:=by
 by_cases hp:p<r.length
 ·exact h.fig p hp
 ·have:=hn.1
  rw[yG (by omega)]
  exact⟨Int.le_refl _,by show 0≤n;simp only[Kd.lo]at this;omega⟩
def YR{k:Kd}{a b:Nm}(ha:tot k a)(hb:tot k b):tot k (a.add b):=fun hk=>by
 obtain⟨x,rfl⟩:=ha hk
 obtain⟨y,rfl⟩:=hb hk
 exact⟨_,rfl⟩
def vb(a b:List Nm):List Nm:=(List.range (max a.length b.length)).map fun p=>(a.getD p (.i 0)).add (b.getD p (.i 0))
def uP(a b:List Nm):(vb a b).length=max a.length b.length:=by unfold vb;rw[List.length_map,List.length_range]
def ZB(a b:List Nm)(p:Nat):(vb a b).getD p (.i 0)=(a.getD p (.i 0)).add (b.getD p (.i 0)):=by
 by_cases h:p<max a.length b.length
 ·unfold vb
  rw[Br,Bx,CA h]
  rfl
 ·have e:∀{l:List Nm},l.length≤p→l.getD p (.i 0)=.i 0:=fun h=>by rw[Br,BG h];rfl
  rw[e (by rw[uP];omega),e (by omega),e (by omega)]
  rfl
def ir{a b:List Nm}{t:Nm}(h:t∈vb a b):∃p,t=(a.getD p (.i 0)).add (b.getD p (.i 0)):=by
 unfold vb at h
 obtain⟨p,_,rfl⟩:=BR.mp h
 exact⟨p,rfl⟩
def rm{k:Kd}{a b:List Nm}(ha:∀t∈a,tot k t)(hb:∀t∈b,tot k t):∀t∈vb a b,tot k t:=fun t h=>by
 obtain⟨p,rfl⟩:=ir h
 exact YR (xJ ha p) (xJ hb p)
theorem dJ(k:Kd)(n:Int)(a b:List Nm):∀j,(wN k n (vb a b) j).re=(wN k n a j).re+(wN k n b j).re∧(wN k n (vb a b) j).im=(wN k n a j).im+(wN k n b j).im
 | 0=>by
  show(k.zero).re=(k.zero).re+(k.zero).re∧(k.zero).im=(k.zero).im+(k.zero).im
  rw[zY,z_]
  exact⟨rfl,rfl⟩
 | j+1=>by
  obtain⟨h1,h2⟩:=dJ k n a b j
  unfold wN
  rw[ZB]
  simp only[zS,ye,zE,zI,h1,h2]
  constructor<;>grind
def mB{k:Kd}{n:Int}{a:List Nm}(ha:∀t∈a,tot k t){m:Nat}(h:a.length≤m):wN k n a m=yp k n a:=by
 obtain⟨d,rfl⟩:∃d,m=a.length+d:=⟨m-a.length,by omega⟩
 exact gT ha d
def wQ{k:Kd}{n:Int}{a b:List Nm}(ha:∀t∈a,tot k t)(hb:∀t∈b,tot k t):yp k n (vb a b)=(yp k n a).add (yp k n b):=by
 have hl:=uP a b
 obtain⟨h1,h2⟩:=dJ k n a b (vb a b).length
 rw[mB ha (by omega),mB hb (by omega)]at h1 h2
 exact wD (oG (rm ha hb) _) (nL (oG ha _) (oG hb _)) (h1.trans (zS ..).symm) (h2.trans (ye ..).symm)
def vn(a b:List Int):vb (a.map Nm.i) (b.map Nm.i)=(yX a b).map Nm.i:=by
 have e:∀(l:List Int)(p:Nat),(l.map Nm.i).getD p (.i 0)=.i (l.getD p 0):=fun l p=>by
  rw[Br,Br,Bx]
  cases l[p]?<;>rfl
 unfold vb yX
 rw[Cy,Bs,Bs]
 refine List.map_congr_left fun p _=>?_
 rw[e,e]
 rfl
def xU(r:List Int):zy r=pq (r.map Nm.i):=by unfold zy pq;rw[ay]
def tD{k:Kd}{t w:Nm}(ht:t.ty k)(hw:tot k w):(t.mul w).ty k:=by
 by_cases hk:k=.pairs
 ·subst hk
  obtain⟨a,b,rfl⟩:=ht
  cases w<;>exact⟨_,_,rfl⟩
 ·obtain⟨a,rfl⟩:=hw hk
  obtain⟨b,rfl⟩:=xH hk ht
  exact vz hk
def xj(a:List Int)(f:Nm):List Nm:=a.map fun z=>(Nm.i z).mul f
def wz(a:List Int)(f:Nm):(xj a f).length=a.length:=Bs _
def vi{k:Kd}{a:List Int}{f:Nm}(hf:tot k f):∀t∈xj a f,tot k t:=fun t h hk=>by
 obtain⟨z,_,rfl⟩:=BR.mp h
 obtain⟨y,rfl⟩:=hf hk
 exact⟨_,rfl⟩
def aQ(a:List Int)(f:Nm){p:Nat}(h:p<a.length):(xj a f).getD p (.i 0)=(Nm.i (a.getD p 0)).mul f:=by
 unfold xj
 rw[Br,Bx,Br,Bu h]
 rfl
def aP(a:List Int)(f:Nm){p:Nat}(h:a.length≤p):(xj a f).getD p (.i 0)=.i 0:=by
 rw[Br,BG (by rw[wz];exact h)]
 rfl
def l_(a:List Int)(f:Nm)(p:Nat):((xj a f).getD p (.i 0)).re=hf a p*f.re∧((xj a f).getD p (.i 0)).im=hf a p*f.im:=by
 by_cases h:p<a.length
 ·rw[aQ a f h,zE,zI]
  show a.getD p 0*f.re-0*f.im=_∧a.getD p 0*f.im+0*f.re=_
  rw[BV,BV,Int.sub_zero,Cp]
  exact⟨rfl,rfl⟩
 ·rw[aP a f (by omega),yG (by omega),BV,BV]
  exact⟨rfl,rfl⟩
theorem dI(k:Kd)(n:Int)(a:List Int)(f:Nm):∀j,(wN k n (xj a f) j).re=(yu k n a j).re*f.re-(yu k n a j).im*f.im∧(wN k n (xj a f) j).im=(yu k n a j).re*f.im+(yu k n a j).im*f.re
 | 0=>by
  show(k.zero).re=(k.zero).re*_-(k.zero).im*_∧(k.zero).im=(k.zero).re*_+(k.zero).im*_
  rw[zY,z_,BV,BV]
  exact⟨rfl,rfl⟩
 | j+1=>by
  obtain⟨h1,h2⟩:=dI k n a f j
  obtain⟨r1,r2⟩:=l_ a f j
  unfold wN yu
  simp only[zS,ye,zE,zI,h1,h2,r1,r2]
  show _=(_+(hf a j*_-0*_))*_-(_+(hf a j*_+0*_))*_∧_=(_+(hf a j*_-0*_))*_+(_+(hf a j*_+0*_))*_
  constructor<;>grind
def xG{k:Kd}{n:Int}(a:List Int){f:Nm}(hf:tot k f):yp k n (xj a f)=(zj k n a).mul f:=by
 obtain⟨h1,h2⟩:=dI k n a f a.length
 have e:yp k n (xj a f)=wN k n (xj a f) a.length:=by unfold yp;rw[wz]
 rw[e]
 exact wD (oG (vi hf) _) (tD (zD k n a) hf) (h1.trans (zE ..).symm) (h2.trans (zI ..).symm)
def hv(k:Kd)(n:Int)(o:List Int):Nat→Nat→Nm
 | 0,_=>k.zero
 | m+1,p=>(Nm.i (o.getD p 0)).add ((k.ratN n p).mul (hv k n o m (p+1)))
def oh(k:Kd)(n:Int)(p:Int):tot k (k.ratN n p):=fun hk=>by cases k<;>first|exact⟨_,rfl⟩|exact absurd rfl hk
theorem ck(k:Kd)(n:Int)(o:List Int):∀m p,(hv k n o m p).ty k
 | 0,_=>yZ k
 | m+1,p=>by
  have h:=sJ (oh k n p) (ck k n o m (p+1))
  unfold hv
  by_cases hk:k=.pairs
  ·subst hk
   obtain⟨a,b,e⟩:=h
   rw[e]
   exact⟨_,_,rfl⟩
  ·obtain⟨a,e⟩:=xH hk h
   rw[e]
   exact vz hk
theorem iL{k:Kd}{n:Int}{o:List Int}(h5:k.five=true):∀m p,p+m=o.length→(zj k n o).re=(yu k n o p).re+((wt k n p).re*(hv k n o m p).re-(wt k n p).im*(hv k n o m p).im)∧(zj k n o).im=(yu k n o p).im+((wt k n p).re*(hv k n o m p).im+(wt k n p).im*(hv k n o m p).re)
 | 0,p,h=>by
  obtain rfl:p=o.length:=h
  show(yu k n o o.length).re=_+(_*(k.zero).re-_*(k.zero).im)∧(yu k n o o.length).im=_+(_*(k.zero).im+_*(k.zero).re)
  rw[zY,z_,BN,BN]
  constructor<;>omega
 | m+1,p,h=>by
  obtain⟨h1,h2⟩:=iL (n:=n) (o:=o) h5 m (p+1) (by omega)
  rw[h1,h2,xD h5]
  have e0:hv k n o (m+1) p=(Nm.i (o.getD p 0)).add ((k.ratN n p).mul (hv k n o m (p+1))):=rfl
  rw[e0]
  simp only[zS,ye,zE,zI]
  have e:yu k n o (p+1)=(yu k n o p).add ((Nm.i (o.getD p 0)).mul (wt k n p)):=rfl
  rw[e]
  simp only[zS,ye,zE,zI]
  have i1:(Nm.i (o.getD p 0)).re=o.getD p 0:=rfl
  have i2:(Nm.i (o.getD p 0)).im=0:=rfl
  rw[i1,i2]
  generalize hv k n o m (p+1)=V
  generalize k.ratN n p=R
  generalize wt k n p=W
  generalize yu k n o p=S
  constructor<;>grind
def kP{k:Kd}{n:Int}{o:List Int}(h5:k.five=true):zj k n o=hv k n o o.length 0:=by
 obtain⟨h1,h2⟩:=iL (n:=n) (o:=o) h5 o.length 0 (C2 _)
 have z1:(yu k n o 0).re=0:=zY k
 have z2:(yu k n o 0).im=0:=z_ k
 have e:wt k n 0=k.zero.add (.i 1):=by cases k<;>first|rfl|cases h5
 have r1:(wt k n 0).re=1:=by rw[e,zS,zY];rfl
 have r2:(wt k n 0).im=0:=by rw[e,ye,z_];rfl
 rw[z1,r1,r2]at h1
 rw[z2,r1,r2]at h2
 exact wD (zD k n o) (ck k n o _ _) (by omega) (by omega)
theorem Vq{k:Kd}{n:Int}{o:List Int}(hk:qw k)(hn:k.ok n)(h:∀p,0≤hf o p):∀m p,0≤(hv k n o m p).re∧(hv k n o m p).im=0
 | 0,p=>by
  show 0≤(k.zero).re∧(k.zero).im=0
  rw[zY,z_]
  exact⟨BW _,rfl⟩
 | m+1,p=>by
  obtain⟨a,b⟩:=Vq hk hn h m (p+1)
  obtain⟨b1,b2⟩:=xq hn
  unfold hv
  rw[zS,ye,zE,zI,b]
  have h0:0≤o.getD p 0:=h p
  have hr:0≤(k.ratN n p).re∧(k.ratN n p).im=0:=by
   rcases hk with rfl|rfl
   ·exact⟨by show 0≤n;omega,rfl⟩
   ·exact⟨by show 0≤n+(p:Int);omega,rfl⟩
  rw[hr.2]
  have:=BX hr.1 a
  show 0≤o.getD p 0+(_-0*0)∧0+(_*0+0*_)=0
  simp only[Int.mul_zero,Int.zero_mul]
  exact⟨by omega,rfl⟩
def XS{k:Kd}{n:Int}{o:List Int}(hn:k.ok n)(h:Legal k n o)(hl:o.length≤63)(p:Nat):(hf o p).natAbs≤122∧(k=.pairs→(hf o p).natAbs≤81):=by
 by_cases hp:p<o.length
 ·have f:=h.fig p hp
  unfold hf
  obtain⟨h1,h2⟩:=hn
  generalize o.getD p 0=z at *
  cases k<;>simp only[Kd.low,Kd.high,Kd.lo,Kd.hi]at *<;>first|(refine⟨by omega,fun h=>by cases h⟩)|(have:=Int.mul_le_mul h2 h2 (by omega) (by omega);exact⟨by omega,fun _=>by omega⟩)
 ·rw[yG (by omega)]
  exact⟨by decide,fun _=>by decide⟩
def xv{x c:Int}{y A:Nat}(h:c.natAbs≤A)(hy:x.natAbs≤y):(c*x).natAbs≤A*y:=by rw[Cf];exact CY h hy
theorem eL{k:Kd}{n:Int}{o:List Int}(h4:k.four=true)(hn:k.ok n)(hf7:∀p,(hf o p).natAbs≤122):∀m p,p+m≤63→(hv k n o m p).re.natAbs≤2^(7*m+5)∧(hv k n o m p).im=0
 | 0,p,_=>by
  show(k.zero).re.natAbs≤_∧(k.zero).im=0
  rw[zY,z_]
  exact⟨B4 _,rfl⟩
 | m+1,p,hp=>by
  obtain⟨a,b⟩:=eL h4 hn hf7 m (p+1) (by omega)
  unfold hv
  rw[zS,ye,zE,zI,b]
  have h0:(o.getD p 0).natAbs≤122:=hf7 p
  have hr:(k.ratN n p).re.natAbs≤123∧(k.ratN n p).im=0:=by
   obtain⟨h1,h2⟩:=hn
   cases k<;>simp only[Kd.lo,Kd.hi]at h1 h2<;>first|exact⟨by simp only[Kd.ratN,Kd.rat,Nm.re];omega,rfl⟩|cases h4
  rw[hr.2]
  have m1:=xv hr.1 a
  have e:2^(7*(m+1)+5)=128*2^(7*m+5):=by rw[show 7*(m+1)+5=7+(7*m+5) by omega,Ct]
  have e2:32≤2^(7*m+5):=BS (show 32≤2^5 by decide) (B6 (by decide) (by omega))
  rw[e]
  generalize 2^(7 * m + 5)=X at *
  generalize (k.ratN n p).re * (hv k n o m (p + 1)).re=Y at *
  show(o.getD p 0+(Y-0*0)).natAbs≤_∧0+(_*0+0*_)=(0:Int)
  simp only[Int.mul_zero,Int.zero_mul]
  exact⟨by omega,rfl⟩
theorem eK{n:Int}{o:List Int}(hn:Kd.pairs.ok n)(hf7:∀p,(hf o p).natAbs≤81):∀m p,(hv .pairs n o m p).re.natAbs≤2^(4*m+4)∧(hv .pairs n o m p).im.natAbs≤2^(4*m+4)
 | 0,p=>⟨B4 _,B4 _⟩
 | m+1,p=>by
  obtain⟨a,b⟩:=eK hn hf7 m (p+1)
  unfold hv
  rw[zS,ye,zE,zI]
  have h0:(o.getD p 0).natAbs≤81:=hf7 p
  have n1:(1:Int)≤n:=hn.1
  have n9:n≤9:=hn.2
  have hr:(Kd.ratN .pairs n p).re.natAbs≤9:=by show(-n).natAbs≤9;omega
  have hi:(Kd.ratN .pairs n p).im.natAbs≤1:=By 1
  have m1:=xv hr a
  have m2:=xv hr b
  have m3:=xv hi a
  have m4:=xv hi b
  have e:2^(4*(m+1)+4)=16*2^(4*m+4):=by rw[show 4*(m+1)+4=4+(4*m+4) by omega,Ct]
  have e2:16≤2^(4*m+4):=BS (show 16≤2^4 by decide) (B6 (by decide) (by omega))
  rw[e]
  generalize 2^(4 * m + 4)=X at *
  generalize (Kd.ratN .pairs n p).re * (hv .pairs n o m (p + 1)).re=Y1 at *
  generalize (Kd.ratN .pairs n p).re * (hv .pairs n o m (p + 1)).im=Y2 at *
  generalize (Kd.ratN .pairs n p).im * (hv .pairs n o m (p + 1)).re=Y3 at *
  generalize (Kd.ratN .pairs n p).im * (hv .pairs n o m (p + 1)).im=Y4 at *
  show(o.getD p 0+(Y1-Y4)).natAbs≤_∧(0+(Y2+Y3)).natAbs≤_
  exact⟨by omega,by omega⟩
def mU{k:Kd}{n:Int}{r:List Int}{b:Nat}(h5:k.five=true)(hn:k.ok n)(h:Legal k n r)(hb:(zj k n r).re.natAbs≤2^b∧(zj k n r).im.natAbs≤2^b)(b7:7≤b):r.length≤4*b+31∧(k≠.pairs→r.length≤b+4):=by
 have hh:=mV hn h
 obtain⟨J,F,h1,h2⟩:=jM h5 hn hh hb b7
 have ht:∀t∈[zj k n r],tot k t:=fun t h=>by rw[BD.mp h];exact yb (zD k n r)
 have e:pr k n [zj k n r] J=r:=LA hn (sd h5 hn ht) h (by rw[t_ F h5 hn ht,oF (zD k n r) h5])
 have l:=wb (vt k n [zj k n r] J)
 rw[vq]at l
 have l2:r.length≤J:=by
  have:(pr k n [zj k n r] J).length≤J:=l
  rw[e]at this
  exact this
 exact⟨by omega,fun z=>by have:=h2 z;omega⟩
def few(k:Kd)(x y:Nat):Prop:=x≤63∧y≤63∧x+y≤100∧(k=.pairs→x+y≤50)
def Zc{k:Kd}{n:Int}{a o r:List Int}{m p:Nat}(h5:k.five=true)(hn:k.ok n)(ha:Legal k n a)(ho:Legal k n o)(hp:p+m=o.length)(hw:few k a.length o.length)(hr:Legal k n r)(e:zj k n r=(zj k n a).mul (hv k n o m p)):r.length≤870:=by
 obtain⟨w1,w2,w3,w4⟩:=hw
 have fa:=XS hn ha w1
 have fo:=XS hn ho w2
 by_cases hk:k=.pairs
 ·subst hk
  have:=w4 rfl
  obtain⟨a1,a2⟩:=eK hn (fun p=>(fa p).2 rfl) a.length 0
  obtain⟨o1,o2⟩:=eK hn (fun p=>(fo p).2 rfl) m p
  rw[←kP rfl]at a1 a2
  have:=mU (b:=209) rfl hn hr (by
   rw[e,zE,zI]
   have m1:=xv a1 o1
   have m2:=xv a2 o2
   have m3:=xv a1 o2
   have m4:=xv a2 o1
   have q:2^(4*a.length+4)*2^(4*m+4)≤2^208:=by rw[←Ct];exact B6 (by decide) (by omega)
   have q2:2^209=2*2^208:=by decide
   rw[q2]
   generalize 2^208=X at *
   generalize 2^(4 * a.length + 4) * 2^(4 * m + 4)=Z at *
   exact⟨by omega,by omega⟩) (by decide)
  omega
 ·have h4:=rz h5 hk
  obtain⟨a1,a2⟩:=eL h4 hn (fun p=>(fa p).1) a.length 0 (by omega)
  obtain⟨o1,o2⟩:=eL h4 hn (fun p=>(fo p).1) m p (by omega)
  rw[←kP h5]at a1 a2
  have:=(mU (b:=710) h5 hn hr (by
   rw[e,zE,zI,a2,o2,BN,BN,BV]
   have m1:=xv a1 o1
   have q:2^(7*a.length+5)*2^(7*m+5)≤2^710:=by rw[←Ct];exact B6 (by decide) (by omega)
   exact⟨by rw[Int.sub_zero];exact BS m1 q,B4 _⟩) (by decide)).2 hk
  omega
def fb(n:Int)(o:List Int)(L:Nat):Nat→Int×Int
 | 0=>(0,0)
 | m+1=>((fb n o L m).2,hf o (L-(m+1))+n*(fb n o L m).2+(fb n o L m).1)
theorem iU{n:Int}{o:List Int}:∀m p,p+m=o.length→hw n o=sm (wf n) (hf o) p+(fb n o o.length m).2*(wtF n p).2+(fb n o o.length m).1*(wtF n p).1
 | 0,p,h=>by
  obtain rfl:p=o.length:=h
  show hw n o=hw n o+0*_+0*_
  rw[BV,BV]
  omega
 | m+1,p,h=>by
  rw[iU m (p+1) (by omega)]
  have e1:sm (wf n) (hf o) (p+1)=sm (wf n) (hf o) p+hf o p*(wtF n p).2:=rfl
  have e2:wtF n (p+1)=((wtF n p).2,n*(wtF n p).2+(wtF n p).1):=rfl
  have e3:fb n o o.length (m+1)=((fb n o o.length m).2,hf o p+n*(fb n o o.length m).2+(fb n o o.length m).1):=by
   show(_,hf o (o.length-(m+1))+_+_)=_
   rw[show o.length-(m+1)=p by omega]
  rw[e1,e2,e3]
  generalize sm (wf n) (hf o) p=S
  generalize fb n o o.length m=B
  generalize wtF n p=W
  grind
def eS(n:Int)(o:List Int):hw n o=(fb n o o.length o.length).2+(fb n o o.length o.length).1:=by
 rw[iU o.length 0 (C2 _)]
 show 0+_*1+_*1=_
 omega
theorem Vv{n:Int}{o:List Int}(L:Nat)(n1:1≤n)(h:∀p,0≤hf o p∧hf o p≤n):∀m,0≤(fb n o L m).1∧0≤(fb n o L m).2∧(fb n o L m).1+1≤(wtF n m).1∧(fb n o L m).2+1≤(wtF n m).2
 | 0=>⟨BW _,BW _,BW _,BW _⟩
 | m+1=>by
  obtain⟨a,b,c,d⟩:=Vv L n1 h m
  obtain⟨f1,f2⟩:=h (L-(m+1))
  have m1:=BX (show 0≤n by omega) b
  have m2:=BB d (show 0≤n by omega)
  rw[CS,Cc]at m2
  have e:fb n o L (m+1)=((fb n o L m).2,hf o (L-(m+1))+n*(fb n o L m).2+(fb n o L m).1):=rfl
  have e2:wtF n (m+1)=((wtF n m).2,n*(wtF n m).2+(wtF n m).1):=rfl
  rw[e,e2]
  exact⟨b,by dsimp only;omega,d,by dsimp only;omega⟩
theorem al{n:Int}(n1:1≤n)(i:Nat):∀j,wf n i*wf n j≤wf n (i+j+1)∧wf n i*wf n (j+1)≤wf n (i+j+2)
 | 0=>by
  obtain⟨p1,p2⟩:=zQ n1 i
  rw[tP,rV,Cc,Nat.add_zero,vg,CS,Cc,Ci _ n]
  have:=BB p2 (show 0≤n by omega)
  exact⟨p2,by omega⟩
 | j+1=>by
  obtain⟨a,b⟩:=al n1 i j
  refine⟨b,?_⟩
  have e1:wf n (j+1+1)=n*wf n (j+1)+wf n j:=vg n j
  have e2:wf n (i+(j+1)+2)=n*wf n (i+j+2)+wf n (i+j+1):=vg n (i+j+1)
  rw[e1,e2,CS]
  have:=BB b (show 0≤n by omega)
  have e3:wf n i*(n*wf n (j+1))=n*(wf n i*wf n (j+1)):=by grind
  omega
def Wl{n:Int}(n1:1≤n){i j:Nat}(h:i<j):wf n i<wf n j:=by
 induction j with
 | zero=>exact absurd h (Cn _)
 | succ j ih=>
  have s:wf n j<wf n (j+1):=by
   cases j with
   | zero=>rw[tP,rV];omega
   | succ q=>
    have p1:=(zQ n1 q).1
    have p2:=(zQ n1 (q+1)).1
    rw[vg]
    have:=Bt n1 (show 0≤wf n (q+1) by omega)
    omega
  rcases Ca i j with z|z
  ·exact Int.lt_trans (ih z) s
  ·obtain rfl:i=j:=by omega
   exact s
def iV{n:Int}{r:List Int}{M:Nat}(hn:Kd.falling.ok n)(h:Legal .falling n r)(hb:hw n r≤wf n M):r.length≤M+1:=by
 have n1:1≤n:=hn.1
 rcases Ca (M+1) r.length with z|z
 ·have f:=yy hn h
  have g:=dS (w:=wf n) (f:=hf r) (fun i=>by have:=(zQ n1 i).1;omega) (fun i=>(f i).1) (i:=r.length-1) r.length (by omega)
  have hne:hf r (r.length-1)≠0:=by
   rcases h.end_ with q|q
   ·rw[q]at z;exact absurd z (Cn _)
   ·exact q
  have f0:=(f (r.length-1)).1
  have:=Bt (show 1≤hf r (r.length-1) by omega) (show 0≤wf n (r.length-1) by have:=(zQ n1 (r.length-1)).1;omega)
  have l:=Wl n1 (show M<r.length-1 by omega)
  have hb':sm (wf n) (hf r) r.length≤wf n M:=hb
  omega
 ·exact z
def ZU{n:Int}{o:List Int}(L:Nat)(n1:1≤n)(h:∀p,0≤hf o p∧hf o p≤n)(m:Nat):0≤(fb n o L m).2∧(fb n o L m).2≤wf n m∧0≤(fb n o L m).2+(fb n o L m).1∧(fb n o L m).2+(fb n o L m).1≤wf n (m+1):=by
 obtain⟨a,b,c,d⟩:=Vv L n1 h m
 have e:wf n (m+1)=n*(wtF n m).2+(wtF n m).1:=rfl
 have d':(fb n o L m).2+1≤wf n m:=d
 have:=Bt n1 (show 0≤(wtF n m).2 by omega)
 exact⟨b,by omega,by omega,by omega⟩
def ZD{n x y:Int}{i j:Nat}(n1:1≤n)(x0:0≤x)(hx:x≤wf n i)(y0:0≤y)(hy:y≤wf n j):0≤x*y∧x*y≤wf n (i+j+1):=by
 have p:=(zQ n1 i).1
 exact⟨BX x0 y0,CN (BP hx hy y0 (by omega)) (al n1 i j).1⟩
def cb{n B:Int}{h:List Int}(hb:∀z∈h,0≤z∧z≤B)(h0:0≤B)(hB:B≤180)(hl:h.length≤110):pot n h≤15000000:=by
 have p:=Ze (n:=n) hb h0
 have k1:=BP hB (show 4*(h.length:Int)+8≤448 by omega) (by omega) (by decide)
 have k2:=BP (show(h.length:Int)≤110 by omega) k1 (BX h0 (by omega)) (by decide)
 omega
def Mi{k:Kd}{m:Nm}(h:m.ty k):m.mul k.zero=k.zero:=by
 refine wD (tD h (yb (yZ k))) (yZ k) ?_ ?_
 ·rw[zE,zY,z_,BN,BN];rfl
 ·rw[zI,zY,z_,BN,BN];rfl
def XJ{k:Kd}{A V R:Nm}{o:Int}(hA:A.ty k)(hV:V.ty k)(hR:tot k R)(h2:((Nm.i o).add (R.mul V)).ty k):((A.mul V).mul R).add (A.mul (.i o))=A.mul ((Nm.i o).add (R.mul V)):=by
 refine wD (nL (tD (tD hA (yb hV)) hR) (tD hA (uh k o))) (tD hA (yb h2)) ?_ ?_
 all_goals
  simp only[zS,ye,zE,zI]
  have i1:(Nm.i o).re=o:=rfl
  have i2:(Nm.i o).im=0:=rfl
  rw[i1,i2]
  grind
def ut(a:List Int)(c:Int):List Int:=a.map (· * c)
def fG(a:List Int)(c:Int):xj a (.i c)=(ut a c).map Nm.i:=by unfold xj ut;rw[List.map_map];rfl
def oo(a:List Int)(c:Int)(p:Nat):hf (ut a c) p=hf a p*c:=by
 unfold hf ut
 rw[Br,Br,Bx]
 cases a[p]? with
 | none=>show(0:Int)=0*c;rw[BV]
 | some z=>rfl
def V7{k:Kd}{n:Int}{p:Nat}(hn:k.ok n)(h:p≤63):(k.ratN n p).re.natAbs≤200∧(k.ratN n p).im.natAbs≤200:=by
 obtain⟨b1,b2⟩:=xq hn
 cases k<;>simp only[Kd.ratN,Kd.rat,Nm.re,Nm.im]<;>omega
def bf{a:List Int}{i:Nat}(h:i<a.length):a.take (i+1)=a.take i++[a.getD i 0]:=by
 rw[CQ,Br,Bu h]
 rfl
def lnd(n:Int)(l:Nat):List (Nat×Int):=[(l,-1),(l-1,n),(l-2,1)]
def Ml{n:Int}{l:Nat}(h:1≤l):ls (wf n) (lnd n l)=0:=by
 show -1*wf n l+(n*wf n (l-1)+(1*wf n (l-2)+0))=0
 match l,h with
 | 1,_=>rw[rV];show -1*(n+1)+(n*wf n 0+(1*wf n 0+0))=0;rw[tP];omega
 | l+2,_=>
  rw[vg,show l+2-1=l+1 by omega,show l+2-2=l by omega]
  omega
def sM(n:Int)(l i:Nat):xh (lnd n l) i=(if i=l then -1 else 0)+((if i=l-1 then n else 0)+((if i=l-2 then 1 else 0)+0)):=rfl
theorem dR{w f g:Nat→Int}(hw:∀i,0≤w i):∀m,(∀i,i<m→f i≤g i)→sm w f m≤sm w g m
 | 0,_=>BW _
 | m+1,h=>by
  have:=dR hw m fun i hi=>h i (by omega)
  have:=Bt (h m (by omega)) (hw m)
  show sm w f m+f m*w m≤sm w g m+g m*w m
  omega
theorem aH{w f g:Nat→Int}:∀m,(∀i,i<m→f i=g i)→sm w f m=sm w g m
 | 0,_=>rfl
 | m+1,h=>by
  show sm w f m+f m*w m=sm w g m+g m*w m
  rw[aH m fun i hi=>h i (by omega),h m (by omega)]
structure Lv(n:Int)(d:Nat→Int)(L p:Nat)(g:Nat→Int):Prop where
 ab:∀i,p<i→0≤g i
 lo:∀i,i+1<p→g i=d i
 nx:∀i,i+1=p→g i=d i∨(0≤g p∧g i=d i+1)
 at_:-n≤g p
 hi:∀i,g i≤n+1
 wq:sm (wf n) g L=sm (wf n) d L
 out:∀i,L≤i→g i=0
def Lv.start{n:Int}{d:Nat→Int}{L:Nat}(hd:∀i,-n≤d i∧d i≤n)(ho:∀i,L≤i→d i=0):Lv n d L (L-1) d:=
 ⟨fun i h=>by rw[ho i (by omega)];exact BW _,fun _ _=>rfl,fun _ _=>.inl rfl,(hd _).1,fun i=>by have:=hd i;omega,rfl,ho⟩
def Lv.next{n:Int}{d g:Nat→Int}{L p:Nat}(h:Lv n d L (p+1) g)(hd:∀i,-n≤d i∧d i≤n)(h0:0≤g (p+1)):Lv n d L p g:=by
 refine⟨fun i hi=>?_,fun i hi=>h.lo i (by omega),fun i hi=>.inl (h.lo i (by omega)),?_,h.hi,h.wq,h.out⟩
 ·rcases(by omega:i=p+1∨p+1<i) with rfl|z
  ·exact h0
  ·exact h.ab i z
 ·have:=hd p
  rcases h.nx p rfl with e|⟨_,e⟩<;>omega
def far(p:Nat)(i:Nat):Int:=if p<i then((11^i:Nat):Int) else 0
def ZW(p i:Nat):0≤far p i:=by unfold far;split;exact Int.natCast_nonneg _;exact Int.le_refl _
theorem ZV{p:Nat}{f:Nat→Int}(h:∀i,p<i→0≤f i):∀m,0≤sm (far p) f m
 | 0=>BW _
 | m+1=>by
  have ih:=ZV h m
  show 0≤sm (far p) f m+f m*far p m
  by_cases e:p<m
  ·have:=BX (h m e) (ZW p m)
   omega
  ·rw[show far p m=0 from if_neg e,BN]
   omega
def XT{n:Int}{l p:Nat}(n0:1≤n)(n9:n≤9)(h:p<l):ls (far p) (lnd n l)<0:=by
 show -1*far p l+(n*far p (l-1)+(1*far p (l-2)+0))<0
 have e:far p l=((11^l:Nat):Int):=if_pos h
 rw[e]
 match l,h with
 | 1,h=>
  have z:p=0:=by omega
  subst z
  show -1*((11^1:Nat):Int)+(n*0+(1*0+0))<0
  rw[BN]
  decide
 | l+2,h=>
  rw[show l+2-1=l+1 by omega,show l+2-2=l by omega]
  have k1:far p (l+1)≤((11^(l+1):Nat):Int):=by unfold far;split;exact Int.le_refl _;exact Int.natCast_nonneg _
  have k2:far p l≤((11^l:Nat):Int):=by unfold far;split;exact Int.le_refl _;exact Int.natCast_nonneg _
  have k0:=ZW p (l+1)
  have m1:=BP n9 k1 k0 (by decide)
  have p1:(11:Nat)^(l+1)=11*11^l:=by rw[CG];omega
  have p2:(11:Nat)^(l+2)=121*11^l:=by rw[CG,CG];omega
  have p0:0<(11:Nat)^l:=Nat.pow_pos (by decide)
  rw[p1]at m1
  rw[p2]
  generalize (11:Nat)^l=X at *
  omega
theorem Lv.lend{n:Int}{d g:Nat→Int}{L p l:Nat}(h:Lv n d L p g)(n1:1≤n)(n9:n≤9)(hd:∀i,-n≤d i∧d i≤n)(hp:g p<0)(hl:p<l)(hL:l<L)(g0:∀i,p<i→i<l→g i=0)(gl:0<g l):
  Lv n d L p (fun i=>g i+xh (lnd n l) i)∧sm (far p) (fun i=>g i+xh (lnd n l) i) L<sm (far p) g L:=by
 have hlt:∀x∈lnd n l,x.1<L:=fun x hx=>by
  simp only[lnd,List.mem_cons,List.not_mem_nil,or_false]at hx
  rcases hx with rfl|rfl|rfl
  ·exact hL
  ·show l-1<L;omega
  ·show l-2<L;omega
 refine⟨⟨fun i hi=>?_,fun i hi=>?_,fun i hi=>?_,?_,fun i=>?_,?_,fun i hi=>?_⟩,?_⟩
 ·have a:=h.ab i hi
  show 0≤g i+xh (lnd n l) i
  rw[sM]
  by_cases e:i=l
  ·subst e
   rw[if_pos rfl,if_neg (by omega)]
   split<;>omega
  ·rw[if_neg e]
   split<;>split<;>omega
 ·have a:=h.lo i hi
  show g i+xh (lnd n l) i=d i
  rw[sM,if_neg (by omega),if_neg (by omega),if_neg (by omega)]
  omega
 ·have a:=h.nx i hi
  show g i+xh (lnd n l) i=d i∨(0≤g p+xh (lnd n l) p∧g i+xh (lnd n l) i=d i+1)
  have hb:=h.at_
  have a':g i=d i:=by rcases a with e|⟨e,_⟩<;>omega
  rw[sM,sM]
  by_cases e:l=p+1
  ·subst e
   refine .inr ⟨?_,?_⟩
   ·rw[if_neg (by omega),if_pos (by omega)]
    split<;>omega
   ·rw[if_neg (by omega),if_neg (by omega),if_pos (by omega)]
    omega
  ·refine .inl ?_
   rw[if_neg (by omega),if_neg (by omega),if_neg (by omega)]
   omega
 ·have hb:=h.at_
  show -n≤g p+xh (lnd n l) p
  rw[sM,if_neg (by omega)]
  split<;>split<;>omega
 ·have a:=h.hi i
  show g i+xh (lnd n l) i≤n+1
  rw[sM]
  by_cases e:i=l
  ·subst e
   rw[if_pos rfl,if_neg (by omega),if_neg (by omega)]
   omega
  ·rw[if_neg e]
   by_cases e1:i=l-1
   ·rw[if_pos e1]
    have:g i≤0:=by
     rcases(by omega:i=p∨p<i) with z|z
     ·rw[z];omega
     ·rw[g0 i z (by omega)];exact BW _
    by_cases ep:i=p
    ·have:g i<0:=by rw[ep];exact hp
     split<;>omega
    ·have:¬i=l-2:=by omega
     rw[if_neg this]
     omega
   ·rw[if_neg e1]
    by_cases e2:i=l-2
    ·rw[if_pos e2]
     have:g i≤n:=by
      rcases(by omega:i+1=p∨i=p∨p<i) with z|z|z
      ·rcases h.nx i z with q|⟨q,_⟩
       ·rw[q];exact(hd i).2
       ·omega
      ·rw[z];omega
      ·rw[g0 i z (by omega)];omega
     omega
    ·rw[if_neg e2]
     omega
 ·rw[tX,og _ _ _ hlt,Ml (by omega),Cp]
  exact h.wq
 ·show g i+xh (lnd n l) i=0
  rw[sM,if_neg (by omega),if_neg (by omega),if_neg (by omega),h.out i hi]
  rfl
 ·rw[tX,og _ _ _ hlt]
  have:=XT n1 n9 hl
  omega
def Lv.less{n:Int}{d g o:Nat→Int}{L p:Nat}(h:Lv n d L p g)(n1:1≤n)(hp:g p<0)(hL:p<L)(g0:∀i,p<i→g i=0)(hdo:∀i,d i≤o i)(ho:sm (wf n) o p<wf n p):sm (wf n) d L<0:=by
 have w0:∀i,0≤wf n i:=fun i=>by have:=(zQ n1 i).1;omega
 rw[←h.wq,tW (wf n) (k:=p+1) (fun i hi=>g0 i (by omega)) L (by omega)]
 show sm (wf n) g p+g p*wf n p<0
 have e:sm (wf n) g p=sm (wf n) d p:=aH p fun i hi=>by
  rcases(by omega:i+1<p∨i+1=p) with z|z
  ·exact h.lo i z
  ·rcases h.nx i z with q|⟨q,_⟩
   ·exact q
   ·omega
 have m:=dR w0 p fun i _=>hdo i
 have k:=Bt (show g p≤-1 by omega) (w0 p)
 omega
def Lg.init{n:Int}{l:List Int}{z:Int}(h:Lg .falling n (l++[z])):Lg .falling n l:=by
 refine⟨fun p hp=>?_,fun hF p hp=>?_⟩
 ·have:=h.1 p (by rw[Bv];omega)
  rwa [zO hp]at this
 ·have:=h.2 hF p (by rw[Bv];omega)
  rwa [zO hp,zO (by omega)]at this
def Zd{n:Int}(n1:1≤n):∀(m:Nat)(a:List Int),a.length=m→Lg .falling n a→∀p,p≤m→sm (wf n) (hf a) p<wf n p:=by
 intro m
 induction m with
 | zero=>
  intro a ha h p hp
  obtain rfl:p=0:=by omega
  show(0:Int)<wf n 0
  rw[tP]
  decide
 | succ m ih=>
  intro a ha h p hp
  rcases(by omega:p=m+1∨p≤m) with e|e
  ·have:=Lg.lt n1 (m+1) a ha h
   rw[yC]at this
   rw[e,←ha]
   rw[←ha]at this
   exact this
  ·rcases zU a with rfl|⟨l,z,rfl⟩
   ·cases ha
   ·have hl:l.length=m:=by rw[Bv]at ha;exact Nat.succ.inj ha
    have e3:sm (wf n) (hf (l++[z])) p=sm (wf n) (hf l) p:=aH p fun i hi=>zO (by omega)
    rw[e3]
    exact ih l hl h.init p e
def Xg{n:Int}{a:List Int}(n1:1≤n)(h:Lg .falling n a)(p:Nat):sm (wf n) (hf a) p<wf n p:=by
 rcases(by omega:p≤a.length∨a.length<p) with z|z
 ·exact Zd n1 _ a rfl h p z
 ·rw[tW (wf n) (fun i hi=>yG hi) p (by omega)]
  exact Int.lt_trans (Zd n1 _ a rfl h a.length (By _)) (Wl n1 z)
def iB(k:Kd):Prop:=qw k∨k=.falling
def dY(a b:List Int)(p:Nat):hf (yX a (ut b (-1))) p=hf a p-hf b p:=by rw[kS,oo];omega
def hzn(k:Kd)(n:Int):Nat→List Int→Int
 | _,[]=>0
 | p,d::ds=>d+k.rat n p*hzn k n (p+1) ds
def tz(n:Int):Nat→List Int→Int
 | _,[]=>0
 | p,d::ds=>d*wf n p+tz n (p+1) ds
def lz{o ds:List Int}{d:Int}{p:Nat}(h:o.drop p=d::ds):o.getD p 0=d∧o.drop (p+1)=ds:=by
 have hp:p<o.length:=by
  rcases Ca p o.length with z|z
  ·exact z
  ·rw[List.drop_of_length_le z]at h;cases h
 rw[B9 hp]at h
 injection h with h1 h2
 exact⟨by rw[Br,Bu hp];exact h1,h2⟩
theorem Vr{k:Kd}{n:Int}{o:List Int}(h4:k.four=true):∀(l:List Int)(p:Nat),o.drop p=l→hv k n o l.length p=.i (hzn k n p l)
 | [],p,_=>by cases k<;>first|rfl|cases h4
 | d::ds,p,h=>by
  obtain⟨h1,h2⟩:=lz h
  show(Nm.i (o.getD p 0)).add ((k.ratN n p).mul (hv k n o ds.length (p+1)))=_
  rw[h1,Vr h4 ds (p+1) h2]
  cases k<;>first|rfl|cases h4
def mZ{k:Kd}(h:k.four=true):k.five=true:=by cases k<;>first|rfl|cases h
def iK{k:Kd}{n:Int}(h4:k.four=true)(l:List Int):zj k n l=.i (hzn k n 0 l):=by rw[kP (mZ h4),Vr h4 l 0 rfl]
theorem Wq{n:Int}{o:List Int}:∀(l:List Int)(p:Nat),o.drop p=l→sm (wf n) (hf o) (p+l.length)=sm (wf n) (hf o) p+tz n p l
 | [],p,_=>by show sm (wf n) (hf o) p=_+(0:Int);rw[Cp]
 | d::ds,p,h=>by
  obtain⟨h1,h2⟩:=lz h
  have:=Wq (n:=n) ds (p+1) h2
  rw[BM,show p+(ds.length+1)=p+1+ds.length by omega,this]
  show sm (wf n) (hf o) p+hf o p*wf n p+tz n (p+1) ds=sm (wf n) (hf o) p+(d*wf n p+tz n (p+1) ds)
  rw[show hf o p=d from h1,Int.add_assoc]
def Wn(n:Int)(l:List Int):hw n l=tz n 0 l:=by
 have:=Wq (n:=n) (o:=l) l 0 rfl
 rw[C2]at this
 show sm (wf n) (hf l) l.length=_
 rw[this]
 show(0:Int)+_=_
 rw[Int.zero_add]
def cA(a m:Int)(h:1≤m):a=m*a.fdiv m+a.fmod m∧0≤a.fmod m∧a.fmod m<m:=by
 have:=Int.mul_fdiv_add_fmod a m
 exact⟨this.symm,Bz a (by omega),BF a (by omega)⟩
def aX{a m q e B:Int}(h:a=m*q+e)(h0:0≤e)(h1:e<m)(hB:0≤B)(ha:a≤B*m)(hb:-(B*m)≤a):-B≤q∧q≤B:=by
 constructor
 ·apply Classical.byContradiction
  intro z
  have:=BB (show q≤-B-1 by omega) (show 0≤m by omega)
  rw[Int.mul_sub,Cv,Ci m B,Cc]at this
  omega
 ·apply Classical.byContradiction
  intro z
  have:=BB (show B+1≤q by omega) (show 0≤m by omega)
  rw[CS,Ci m B,Cc]at this
  omega
def aW{a m q e:Int}(hm:1≤m)(h:a=m*q+e)(h1:e<m)(ha:0≤a):0≤q:=by
 apply Classical.byContradiction
 intro z
 have:=BB (show q≤-1 by omega) (show 0≤m by omega)
 omega
def ca{k:Kd}{n:Int}{p:Nat}(hn:k.ok n)(h:p≤1000):(k.rat n p).natAbs≤1100:=by
 obtain⟨b1,b2⟩:=xq hn
 cases k<;>simp only[Kd.rat]<;>omega
def Quo(k:Kd)(n:Int)(r:List Int)(m:Int)(qs:List Int)(e:Int):Prop:=
 qs.length=r.length∧(∀z∈qs,-6000≤z∧z≤6000)∧(k=.falling→∀z∈qs,0≤z∧z≤30)∧0≤e∧e<m∧(zj k n r).re=m*(zj k n qs).re+e
def gM(k:Kd)(n:Int)(r:List Int)(m:Int):Prop:=k.ok n∧Legal k n r∧(r.length≤500∧(k=.falling→r.length≤200))∧1≤m∧m.natAbs<2^9000
def rW(k:Kd)(m:Nm):Nm:=match k with
 | .pairs=>.p m.re m.im
 | _=>match m with
  | .i a=>.i a
  | .p a b=>if b=0 then .i a else .p a b
def tl(x:Str):List Nat:=x.cps.toList
def vA{x y:Str}(h:tl x=tl y):x=y:=by
 cases x;cases y
 unfold tl at h
 simp only at h
 congr 1
 exact Array.ext' h
def asc(x:Str):Prop:=∀c∈tl x,c<128
def cO{x:Str}(h:asc x):x.cps.all (· < 128)=true:=by
 rw[←Array.all_toList,Co]
 exact fun c hc=>decide_eq_true (h c hc)
def yR(x:Str):(tl x).length=x.length:=by unfold tl;simp[Str.length]
def yq(x y:Str):tl (x++y)=tl x++tl y:=by
 show(x.cps++y.cps).toList=_
 simp[tl]
def mL{x:Str}{l u:Option Int}{c:Nat}(h:c∈tl (Txt.slice x l u)):c∈tl x:=by
 unfold Txt.slice tl at h
 split at h
 ·exact h
 ·simp only[List.mem_filterMap]at h
  obtain⟨i,_,hi⟩:=h
  have hi:(tl x)[i]? = some c:=by unfold tl;rw[Array.getElem?_toList];exact hi
  exact BH hi
def lG{x:Str}{l u:Option Int}(h:asc x):asc (Txt.slice x l u):=fun c hc=>h c (mL hc)
def bj(x:Str)(l u:Option Int):(Txt.slice x l u).length≤x.length:=Txt.slice_le x l u
def tY{x:Str}{i:Int}(h0:0≤i)(h1:i≤(tl x).length):tl (Txt.slice x (some i) none)=(tl x).drop i.toNat:=by
 have e:Txt.slice x (some i) none=StrLaws.sliceText x (some i) none:=rfl
 rw[e,StrLaws.sliceText_from ⟨h0,h1⟩]
 show(((tl x).drop i.toNat).take ((((tl x).length:Nat):Int)-i).toNat)=_
 rw[CT]
 rw[List.length_drop];omega
def aI{x:Str}{j:Int}(h0:0≤j)(h1:j≤(tl x).length):tl (Txt.slice x none (some j))=(tl x).take j.toNat:=by
 have e:Txt.slice x none (some j)=StrLaws.sliceText x none (some j):=rfl
 rw[e,StrLaws.sliceText_to ⟨h0,h1⟩]
 show(((tl x).drop 0).take (j-0).toNat)=_
 rw[CZ,Int.sub_zero]
def jn(x y:Str):(x==y)=decide (tl x=tl y):=by
 by_cases h:x=y
 ·subst h;simp
 ·rw[beq_eq_false_iff_ne.mpr h,decide_eq_false fun z=>h (vA z)]
def jI(x:Str):Txt.startswith x "-"=decide ((tl x).head? = some 45):=by
 unfold Txt.startswith Builtin.Str.subAt
 have e:(("-":Str)).cps=#[45]:=by decide +kernel
 have el:(("-":Str)).length=1:=by decide +kernel
 rw[e,el]
 obtain⟨⟨l⟩⟩:=x
 cases l with
 | nil=>rfl
 | cons c r=>
  show(decide (0+1≤r.length+1)&&((⟨c::r⟩:Array Nat).extract 0 (0+1) == #[45]))=decide (some c=some 45)
  rw[decide_eq_true (by omega),Bool.true_and]
  have e2:(⟨c::r⟩:Array Nat).extract 0 (0+1)=#[c]:=by simp
  rw[e2]
  by_cases h:c=45
  ·subst h;rfl
  ·rw[decide_eq_false (by simpa using h)]
   simpa using h
def jK(x:Str):(Txt.slice x none (some 1)==("-":Str))=decide ((tl x).head? = some 45):=by
 rw[jn]
 have e:tl ("-":Str)=[45]:=by decide +kernel
 rw[e]
 cases h:tl x with
 | nil=>
  have:tl (Txt.slice x none (some 1))=[]:=by
   apply List.eq_nil_iff_forall_not_mem.mpr
   intro c hc
   have:=mL hc
   rw[h]at this;cases this
  rw[this];rfl
 | cons c r=>
  rw[aI (by decide) (by rw[h,BM];omega),h]
  show decide ([c]=[45])=decide (some c=some 45)
  simp
def cg(c:Nat):occ ⟨#[c]⟩ "0123456789"=(decide (48≤c)&&decide (c≤57)):=by
 unfold occ
 rw[StrLaws.found_one]
 have e:(("0123456789":Str)).cps.toList=[48,49,50,51,52,53,54,55,56,57]:=by decide +kernel
 rw[e]
 by_cases h:48≤c∧c≤57
 ·rw[decide_eq_true h.1,decide_eq_true h.2]
  rcases(by omega:c=48∨c=49∨c=50∨c=51∨c=52∨c=53∨c=54∨c=55∨c=56∨c=57) with rfl|rfl|rfl|rfl|rfl|rfl|rfl|rfl|rfl|rfl<;>rfl
 ·have:c∉[48,49,50,51,52,53,54,55,56,57]:=fun hc=>h (by simp at hc;omega)
  rw[decide_eq_false this]
  by_cases h1:48≤c
  ·rw[decide_eq_true h1,decide_eq_false (by omega)];rfl
  ·rw[decide_eq_false h1];rfl
def kX(c:Nat):Bool:=decide (48≤c)&&decide (c≤57)
def figB_iff{c:Nat}:kX c=true↔xf c:=by
 unfold kX xf
 rw[BL,decide_eq_true_iff,decide_eq_true_iff]
def fg(x:Str):List Nat:=if(tl x).head? = some 45 then(tl x).drop 1 else tl x
open Classical in
noncomputable def wv(x:Str):Option Int:=if Numl (tl x)∧(fg x).length≤60 then some (dgVal (tl x)) else none
def Vu{x:Str}{f:List Nat}(hf:f=fg x):(tl x=f∧(tl x).head?≠some 45)∨tl x=45::f:=by
 subst hf
 unfold fg
 by_cases h:(tl x).head? = some 45
 ·rw[if_pos h]
  cases e:tl x with
  | nil=>rw[e]at h;cases h
  | cons c r=>rw[e]at h;cases h;exact .inr rfl
 ·rw[if_neg h];exact .inl ⟨rfl,h⟩
def o9{x:Str}{f:List Nat}(hf:f=fg x):Numl (tl x)↔(f≠[]∧(∀c∈f,xf c)∧(f.head? = some 48→tl x=[48])):=by
 constructor
 ·intro h
  rcases h with h|⟨c,r,c1,c2,hr,h|h⟩
  ·have e:f=[48]:=by rw[hf];unfold fg;rw[h];rfl
   subst e
   exact⟨fun z=>(nomatch z),fun c hc=>by rw[BD.mp hc];exact⟨by decide,by decide⟩,fun _=>h⟩
  ·have e:f=c::r:=by
    rw[hf];unfold fg;rw[h,if_neg]
    intro z
    have:c=45:=Option.some.inj z
    omega
   subst e
   refine⟨fun z=>(nomatch z),fun x hx=>?_,fun z=>absurd (Option.some.inj z) (by omega)⟩
   rcases BE.mp hx with rfl|hx
   ·exact⟨by omega,by omega⟩
   ·exact hr x hx
  ·have e:f=c::r:=by rw[hf];unfold fg;rw[h];rfl
   subst e
   refine⟨fun z=>(nomatch z),fun x hx=>?_,fun z=>absurd (Option.some.inj z) (by omega)⟩
   rcases BE.mp hx with rfl|hx
   ·exact⟨by omega,by omega⟩
   ·exact hr x hx
 ·rintro⟨h1,h2,h3⟩
  cases f with
  | nil=>exact absurd rfl h1
  | cons c r=>
   by_cases hc:c=48
   ·subst hc;exact .inl (h3 rfl)
   ·have d:=h2 c BJ
    unfold xf at d
    refine .inr ⟨c,r,by omega,by omega,fun x hx=>h2 x (BI _ hx),?_⟩
    rcases Vu hf with ⟨e,_⟩|e
    ·exact .inl e
    ·exact .inr e
def dg(n:Nat):List Nat:=(Nat.toDigits 10 n).map Char.toNat
def Wo(s:String):tl (Str.ofString s)=s.toList.map Char.toNat:=by unfold tl;rw[PySem.Str.ofString_eq_toList]
def gX(n:Nat):tl (Str.ofString (toString (n:Int)))=dg n:=by
 rw[Wo]
 have e:(toString (n:Int))=Nat.repr n:=rfl
 rw[e,Nat.toList_repr];rfl
def aA(n:Nat)(h:0<n):tl (Str.ofString (toString (-(n:Int))))=45::dg n:=by
 rw[Wo]
 obtain⟨m,rfl⟩:∃m,n=m+1:=⟨n-1,by omega⟩
 have e:(toString (-((m+1:Nat):Int)))="-"++Nat.repr (m+1):=rfl
 rw[e,String.toList_append,Nat.toList_repr];rfl
def nE(n:Nat):∀c∈dg n,xf c:=fun c hc=>by
 obtain⟨d,hd,rfl⟩:=BR.mp hc
 have:=Nat.isDigit_of_mem_toDigits (b:=10) (by decide) (by decide) hd
 unfold Char.isDigit at this
 rw[BL,decide_eq_true_iff,decide_eq_true_iff]at this
 exact⟨this.1,this.2⟩
def nD{d:Nat}(h:d<10):dg d=[48+d]:=by
 unfold dg
 rw[Nat.toDigits_of_lt_base h]
 rcases(by omega:d=0∨d=1∨d=2∨d=3∨d=4∨d=5∨d=6∨d=7∨d=8∨d=9) with rfl|rfl|rfl|rfl|rfl|rfl|rfl|rfl|rfl|rfl<;>rfl
def X1{n d:Nat}(hn:0<n)(hd:d<10):dg (10*n+d)=dg n++dg d:=by
 unfold dg
 rw[←Nat.toDigits_append_toDigits (by decide) hn hd,B3]
def jc{n k:Nat}(hk:0<k)(h:n<10^k):(dg n).length≤k:=by
 unfold dg
 rw[Bs]
 exact(Nat.length_toDigits_le_iff (by decide) hk).mpr h
def ot(n:Nat):∃c r,dg n=c::r∧xf c:=by
 cases e:dg n with
 | nil=>unfold dg at e;exact absurd (List.map_eq_nil_iff.mp e) Nat.toDigits_ne_nil
 | cons c r=>exact⟨c,r,rfl,nE n c (by rw[e];exact BJ)⟩
theorem YS:∀ts:List Str,tl (Txt.join ("":Str) ts)=(ts.map tl).flatten
 | []=>rfl
 | [x]=>by
  show tl (Builtin.Str.glued _ [x])=_
  rw[StrLaws.glued_eq_join]
  show tl x=_
  simp
 | x::y::r=>by
  have ih:=YS (y::r)
  have e1:Txt.join ("":Str) (x::y::r)=x++("":Str)++Txt.join ("":Str) (y::r):=by
   show Builtin.Str.glued _ _=_++_++Builtin.Str.glued _ _
   rw[StrLaws.glued_eq_join,StrLaws.glued_eq_join];rfl
  rw[e1,yq,yq,ih]
  have e2:tl ("":Str)=[]:=by decide +kernel
  rw[e2,Cm]
  show _=(tl x::(y::r).map tl).flatten
  rw[Cw]
def gm(x:Str):Bool:=(tl x).all kX
def jw:DSp:=fun ds Q=>∃x,ds=[.str x]∧asc x∧Q (.bl (gm x))
def allFg_iff{x:Str}:gm x=true↔∀c∈tl x,xf c:=by
 unfold gm
 rw[Co]
 exact⟨fun h c hc=>figB_iff.mp (h c hc),fun h c hc=>figB_iff.mpr (h c hc)⟩
def dw{x:Str}(h:Numl (tl x))(hl:(fg x).length≤60):wv x=some (dgVal (tl x)):=if_pos ⟨h,hl⟩
def YN{x:Str}(h:¬(Numl (tl x)∧(fg x).length≤60)):wv x=none:=if_neg h
def dP{f:Str}:(f==("":Str))=decide (tl f=[]):=by
 rw[jn]
 have e:tl ("":Str)=[]:=by decide +kernel
 rw[e]
def nG{f:Str}{c:Nat}{r:List Nat}(h:tl f=c::r):f.cps[Int.toNat 0]? = some c:=by
 have:f.cps.toList[0]? = some c:=by show(tl f)[0]? = _;rw[h];rfl
 simpa using this
def sA(c:Nat):((⟨#[c]⟩:Str)==("0":Str))=decide (c=48):=by
 rw[jn]
 have e:tl ("0":Str)=[48]:=by decide +kernel
 rw[e]
 show decide ([c]=[48])=_
 simp
def qJ(x:Str):(x==("0":Str))=decide (tl x=[48]):=by
 rw[jn]
 have e:tl ("0":Str)=[48]:=by decide +kernel
 rw[e]
def tq:DSp:=fun ds Q=>∃x i,ds=[.str x]∧asc x∧x.length≤5000∧wv x=some i∧Q (.int i)
def shw(i:Int):Str:=Str.ofString (toString i)
def UD{n:Nat}{k:Nat}(hk:0<k)(h:n<2^k):n.log2<k:=by
 rcases Nat.eq_zero_or_pos n with rfl|hp
 ·exact hk
 ·exact(Nat.log2_lt (by omega)).mpr h
def rp{i:Int}(h:i.natAbs<10^60):i.natAbs.log2<1000:=Ce (UD (k:=200) (by decide) (Ce h (by decide))) (by decide)
def sgn(i:Int):List Nat:=if i<0 then[45] else[]
def lM(i:Int):tl (shw i)=sgn i++dg i.natAbs:=by
 unfold sgn shw
 rcases(by omega:0≤i∨i<0) with hi|hi
 ·obtain⟨n,rfl⟩:=Int.eq_ofNat_of_zero_le hi
  rw[gX,if_neg (by omega)]
  rfl
 ·obtain⟨n,rfl,hn⟩:∃n:Nat,i=-(n:Int)∧0<n:=⟨i.natAbs,by omega,by omega⟩
  rw[aA n hn,if_pos hi,Int.natAbs_neg,B5]
  rfl
def YX{n:Nat}(h:0<n):shw (-(n:Int))=("-":Str)++shw n:=by
 apply vA
 unfold shw
 rw[yq,aA n h,gX]
 have e:tl ("-":Str)=[45]:=by decide +kernel
 rw[e];rfl
def zT(i:Int){k:Nat}(hk:0<k)(h:i.natAbs<10^k):(shw i).length≤k+1:=by
 rw[←yR,lM,Bv]
 have:=jc hk h
 unfold sgn
 split
 ·show 1+_≤_;omega
 ·show 0+_≤_;omega
def dU{i:Int}{c:Nat}(h:c∈tl (shw i)):c=45∨xf c:=by
 rw[lM]at h
 rcases B7.mp h with h|h
 ·unfold sgn at h
  split at h
  ·exact .inl (BD.mp h)
  ·cases h
 ·exact .inr (nE _ c h)
def vC(i:Int):asc (shw i):=fun c hc=>by
 rcases dU hc with h|h
 ·subst h;decide
 ·unfold xf at h;omega
def wc{i:Int}{c:Nat}(h1:c≠45)(h2:c<48):c∉tl (shw i):=fun h=>by
 rcases dU h with h|h
 ·exact h1 h
 ·unfold xf at h;omega
def VH:(10:Int)^Int.toNat 60=((10^60:Nat):Int):=by decide
def gB:DSp:=fun ds Q=>∃n:Nat,ds=[.int n]∧n<10^60∧Q (.str (shw n))
def nM:DSp:=fun ds Q=>∃i:Int,ds=[.int i]∧i.natAbs<10^60∧Q (.str (shw i))
def Kd.nam:Kd→Str
 | .plain=>.ofString "plain"
 | .below=>.ofString "below"
 | .balanced=>.ofString "balanced"
 | .growing=>.ofString "growing"
 | .falling=>.ofString "falling"
 | .pairs=>.ofString "pairs"
def Z9(l:List Nat)(c:Nat):dgs (l++[c])=dgs l*10+(c-48):=by unfold dgs;rw[List.foldl_append];rfl
def e8(m:Nat):dgs (dg m)=m:=by
 induction m using Nat.strongRecOn with
 | ind m ih=>
  by_cases h:m<10
  ·rw[nD h]
   show 0*10+(48+m-48)=m
   omega
  ·have e:m=10*(m/10)+m%10:=by omega
   have e2:dg m=dg (m/10)++[48+m%10]:=by
    conv=>lhs;rw[e]
    rw[X1 (by omega) (Nat.mod_lt _ (by decide)),nD (Nat.mod_lt _ (by decide))]
   rw[e2,Z9,ih (m/10) (by omega)]
   omega
def VB(m:Nat):dg m≠[]:=by
 obtain⟨c,r,e,_⟩:=ot m
 rw[e];exact CI _ _
def VX(m:Nat):tl (shw (m:Int))=dg m:=by unfold shw;exact gX m
def UT(m:Nat):dgVal (dg m)=(m:Int):=by
 have h:=e8 m
 obtain⟨c,r,e,hc⟩:=ot m
 rw[e]at h ⊢
 unfold dgVal
 split
 ·rename_i heq
  have:c=45:=(List.cons.inj heq).1
  unfold xf at hc
  omega
 ·rw[h]
theorem cn:∀(l:List Nat)(a:Nat),(∀c∈l,xf c)→l.foldl (fun a c=>a*10+(c-48)) a<(a+1)*10^l.length
 | [],a,_=>by simp
 | c::l,a,h=>by
  have hc:=h c BJ
  unfold xf at hc
  show l.foldl (fun a c=>a*10+(c-48)) (a*10+(c-48))<(a+1)*10^(l.length+1)
  refine BO (cn l _ fun c hc=>h c (BI _ hc)) ?_
  rw[Nat.pow_succ',←Nat.mul_assoc]
  exact Cu _ (by omega)
def bX{m:Nat}(h:1≤m):(dg m).head?≠some 48:=by
 intro z
 obtain⟨c,r,e,hc⟩:=ot m
 rw[e]at z
 have:c=48:=Option.some.inj z
 subst this
 by_cases hm:m<10
 ·rw[nD hm]at e
  have:=(List.cons.inj e).1
  omega
 ·have hl:(dg m).length=r.length+1:=by rw[e];rfl
  have h1:dgs (dg m)=dgs r:=by
   rw[e]
   show r.foldl _ (0*10+(48-48))=r.foldl _ 0
   rfl
  rw[e8]at h1
  have lt:∀l:List Nat,(∀c∈l,xf c)→dgs l<10^l.length:=fun l h=>by have:=cn l 0 h;rwa [C2,Nat.one_mul]at this
  have h2:=lt r fun c hc=>nE m c (by rw[e];exact BI _ hc)
  rw[←h1]at h2
  have hr:0<r.length:=by
   cases r with
   | nil=>have:m<10^0:=h2;omega
   | cons _ _=>exact Nat.succ_pos _
  have h3:=jc hr h2
  omega
def jL(z:Int):Numl (tl (shw z))∧dgVal (tl (shw z))=z∧fg (shw z)=dg z.natAbs:=by
 have e:=lM z
 unfold sgn at e
 obtain⟨c,r,ec,hc⟩:=ot z.natAbs
 unfold xf at hc
 have n0:z.natAbs=0→tl (shw z)=[48]:=fun h0=>by
  have:z=0:=by omega
  subst this
  decide +kernel
 have ef:fg (shw z)=dg z.natAbs∧dgVal (tl (shw z))=z:=by
  unfold fg
  rw[e]
  by_cases hz:z<0
  ·rw[if_pos hz]
   refine⟨rfl,?_⟩
   show -((dgs (dg z.natAbs):Nat):Int)=z
   rw[e8]
   omega
  ·rw[if_neg hz,List.nil_append,if_neg (by rw[ec];intro q;have:=Option.some.inj q;omega),UT]
   exact⟨rfl,by omega⟩
 exact⟨(o9 ef.1.symm).mpr ⟨VB _,nE _,fun q=>by
  rcases Nat.eq_zero_or_pos z.natAbs with h0|h0
  ·exact n0 h0
  ·exact absurd q (bX h0)⟩,ef.2,ef.1⟩
def uu{z:Int}(h:z.natAbs<10^60):wv (shw z)=some z:=by
 obtain⟨h1,h2,h3⟩:=jL z
 rw[dw h1 (by rw[h3];exact jc (by decide) h),h2]
def YY{y z:Int}(hy:y.natAbs<10^60)(hz:z.natAbs<10^60)(h:shw y=shw z):y=z:=by
 have:=uu hy
 rw[h,uu hz]at this
 exact(Option.some.inj this).symm
def mS(k:Kd):∀c∈tl k.nam,97≤c∧c≤122:=by cases k<;>decide +kernel
def ZC(k:Kd):tl k.nam≠[]:=by cases k<;>decide +kernel
def Uz(k:Kd):∀c∈tl k.nam,¬xf c:=fun c hc z=>by
 have:=mS k c hc
 unfold xf at z
 omega
def kq{k:Kd}{n:Int}(h:k.ok n):∃m:Nat,n=m∧1≤m∧m≤60:=by
 obtain⟨h1,h2⟩:=h
 refine⟨n.toNat,?_,?_,?_⟩<;>cases k<;>simp only[Kd.lo,Kd.hi]at *<;>omega
def dN{k:Kd}{m:Nat}:tl (k.nam++shw (m:Int))=tl k.nam++dg m:=by rw[yq,VX]
def UO(c:Nat):(Str.ofString "0123456789").cps.contains c=kX c:=by
 have e:(Str.ofString "0123456789").cps=#[48,49,50,51,52,53,54,55,56,57]:=by decide +kernel
 rw[e,CL,figB_iff]
 unfold xf
 rw[Array.contains_iff_mem]
 simp
 omega
def tail(l:List Nat):List Nat:=(l.reverse.takeWhile kX).reverse
def az(x:Str):tl (Txt.rstripChars x (Str.ofString "0123456789"))=(tl x).take ((tl x).length-(tail (tl x)).length):=by
 unfold Txt.rstripChars
 rw[PyProof.Rows.stripBy_eq]
 have e:(Str.ofString "0123456789").cps.contains=kX:=funext UO
 rw[e]
 show(x.cps.extract 0 _).toList=_
 rw[Array.toList_extract,List.extract_eq_drop_take]
 show(((tl x).drop 0).take (x.length-((tl x).reverse.takeWhile kX).length-0))=_
 rw[CZ,Nat.sub_zero,yR]
 unfold tail
 rw[BQ]
def bQ{k:Kd}{m:Nat}:tail (tl (k.nam++shw (m:Int)))=dg m:=by
 rw[dN]
 unfold tail
 rw[CF,List.takeWhile_append_of_pos fun c hc=>figB_iff.mpr (nE m c (B'.mp hc))]
 cases e:(tl k.nam).reverse with
 | nil=>exact absurd (List.reverse_eq_nil_iff.mp e) (ZC k)
 | cons c r=>
  have hc:c∈tl k.nam:=B'.mp (by rw[e];exact BJ)
  rw[List.takeWhile_cons_of_neg fun z=>Uz k c hc (figB_iff.mp z),Cm,CV]
def eO{k:Kd}{m:Nat}:tl (Txt.rstripChars (k.nam++shw (m:Int)) (Str.ofString "0123456789"))=tl k.nam:=by
 rw[az,bQ,dN,Bv,Nat.add_sub_cancel,List.take_left']
 rfl
def spl(c:Nat):List Nat→List (List Nat)
 | []=>[[]]
 | a::l=>if a=c then[]::spl c l else match spl c l with
  | []=>[[a]]
  | h::t=>(a::h)::t
theorem s8{c:Nat}:∀{u:List Nat},c∉u→spl c u=[u]
 | [],_=>rfl
 | a::u,h=>by
  have h1:a≠c:=fun e=>h (e ▸ BJ)
  unfold spl
  rw[if_neg h1,s8 fun z=>h (BI _ z)]
theorem dQ{c:Nat}{v:List Nat}:∀{u:List Nat},c∉u→spl c (u++c::v)=u::spl c v
 | [],_=>if_pos rfl
 | a::u,h=>by
  have h1:a≠c:=fun e=>h (e ▸ BJ)
  show(if a=c then _ else match spl c (u++c::v) with | []=>[[a]]|h::t=>(a::h)::t)=_
  rw[if_neg h1,dQ fun z=>h (BI _ z)]
def glu(c:Nat):List (List Nat)→List Nat
 | []=>[]
 | [u]=>u
 | u::t=>u++c::glu c t
theorem lO{c:Nat}:∀{ps:List (List Nat)},ps≠[]→(∀p∈ps,c∉p)→spl c (glu c ps)=ps
 | [],h,_=>absurd rfl h
 | [u],_,h=>s8 (h u BJ)
 | u::v::t,_,h=>by
  show spl c (u++c::glu c (v::t))=_
  rw[dQ (h u BJ),lO (CI _ _) fun p hp=>h p (BI _ hp)]
theorem mY{c:Nat}:∀(ps:List (List Nat)),(glu c ps).count c+1=((ps.map (List.count c)).sum+ps.length)∨ps=[]
 | []=>.inr rfl
 | [u]=>.inl (by simp[glu])
 | u::v::t=>.inl (by
  have ih:=(mY (c:=c) (v::t)).resolve_right (CI _ _)
  show(u++c::glu c (v::t)).count c+1=_
  rw[List.count_append,List.count_cons_self]
  simp only[List.map_cons,List.sum_cons,List.length_cons]at ih ⊢
  omega)
def nt{y:Str}{c:Nat}(hy:y.cps=#[c]):∀ps:List Str,tl (Builtin.Str.glued y ps)=glu c (ps.map tl):=by
 intro ps
 rw[StrLaws.glued_eq_join]
 have hy':tl y=[c]:=by unfold tl;rw[hy]
 have key:∀ps:List Str,tl (PySem.Str.join y ps)=glu c (ps.map tl):=by
  intro ps
  induction ps with
  | nil=>rfl
  | cons u t ih=>
   cases t with
   | nil=>rfl
   | cons v t=>
    show tl (u++y++PySem.Str.join y (v::t))=tl u++c::glu c ((v::t).map tl)
    rw[yq,yq,ih,hy',CU]
    rfl
 exact key ps
theorem eo(x:Str)(c:Nat):∀(m a:Nat)(st:Array Nat×Nat),a+m=x.length+1→st.1.size≤a→st.2≤a→
  (forIn (List.range' a m) st (StrLaws.occBody x ⟨#[c]⟩ x.length (x.length+1))).run.fst.size=st.1.size+((tl x).drop a).count c
 | 0,a,st,h,_,_=>by
  have:((tl x).drop a)=[]:=List.drop_eq_nil_of_le (by rw[yR];omega)
  rw[this]
  rfl
 | m+1,a,st,h,h1,h2=>by
  rw[List.range'_succ,List.forIn_cons]
  unfold StrLaws.occBody
  have so:=StrLaws.subAt_one x c a
  by_cases hc:(tl x)[a]? = some c
  ·obtain⟨s1,s2⟩:=so.mpr hc
   rw[if_pos ⟨⟨⟨by omega,h2⟩,s1⟩,s2⟩]
   refine(eo x c m (a+1) _ (by omega) (by simp only[Array.size_push];omega) (Nat.le_refl _)).trans ?_
   have hl:a<(tl x).length:=(Cd.mp hc).1
   have e:(tl x).drop a=c::(tl x).drop (a+1):=by
    rw[B9 hl,(Cd.mp hc).2]
   rw[e,List.count_cons_self,Array.size_push]
   omega
  ·rw[if_neg fun z=>hc (so.mp ⟨z.1.2,z.2⟩)]
   refine(eo x c m (a+1) _ (by omega) (Nat.le_succ_of_le h1) (Nat.le_succ_of_le h2)).trans ?_
   by_cases hl:a<(tl x).length
   ·have hne:(tl x)[a]≠c:=fun e=>hc (by rw[Bu hl,e])
    rw[B9 hl,List.count_cons_of_ne hne]
   ·rw[List.drop_eq_nil_of_le (by omega),List.drop_eq_nil_of_le (by omega)]
def bD(x:Str)(c:Nat):(Builtin.Str.occurrences x ⟨#[c]⟩ 0 x.length (x.length+1)).length=(tl x).count c:=by
 rw[StrLaws.occ_eq,Array.length_toList]
 refine(eo x c _ 0 _ (by omega) (By _) (By _)).trans ?_
 show 0+_=_
 rw[C2,CZ]
theorem dO{c:Nat}{p:List Nat}:∀{ps:List (List Nat)},p∈ps→List.count c p≤(ps.map (List.count c)).sum
 | q::ps,h=>by
  rw[Cg,List.sum_cons]
  rcases BE.mp h with rfl|h
  ·omega
  ·have:=dO (c:=c) h
   omega
def mJ{x y:Str}{c:Nat}(hy:y.cps=#[c])(hk:c<256):(Txt.split x y).map tl=spl c (tl x):=by
 have ey:y=⟨#[c]⟩:=by cases y;cases hy;rfl
 subst ey
 have k1:Builtin.Str.strKind ⟨#[c]⟩=1:=if_pos (by simpa using hk)
 have k2:1≤Builtin.Str.strKind x:=by unfold Builtin.Str.strKind;split<;>(try split)<;>decide
 have oc:=bD x c
 unfold Txt.split
 split
 ·rename_i h
  rw[Bool.or_eq_true,decide_eq_true_iff,decide_eq_true_iff]at h
  have h0:x.length<1:=by
   rcases h with h|h
   ·exact h
   ·omega
  have:tl x=[]:=B8.mp (by rw[yR];omega)
  show[tl x]=_
  rw[this]
  rfl
 split
 ·rename_i h
  rw[List.isEmpty_iff.mp h]at oc
  exact(s8 (List.count_eq_zero.mp oc.symm)).symm
 ·have g:=congrArg tl (StrLaws.glued_between_self x ⟨#[c]⟩ (x.length+1))
  rw[nt rfl]at g
  have ln:=length_partsBetween x (Builtin.Str.occurrences x ⟨#[c]⟩ 0 x.length (x.length+1)) (⟨#[c]⟩:Str).length
  generalize Builtin.Str.partsBetween x (Builtin.Str.occurrences x ⟨#[c]⟩ 0 x.length (x.length + 1)) (⟨#[c]⟩:Str).length=ps at *
  have hne:ps.map tl≠[]:=fun z=>by rw[List.map_eq_nil_iff.mp z]at ln;cases ln
  have gc:=(mY (c:=c) (ps.map tl)).resolve_right hne
  rw[g,Bs,ln,oc]at gc
  have z:((ps.map tl).map (List.count c)).sum=0:=by omega
  rw[←g,lO hne fun p hp hm=>?_]
  have h1:=List.count_pos_iff.mpr hm
  have h2:List.count c p≤((ps.map tl).map (List.count c)).sum:=dO hp
  omega
theorem sL:∀{a b:List Str},a.map tl=b.map tl→a=b
 | [],[],_=>rfl
 | x::a,y::b,h=>by
  rw[Cg,Cg]at h
  injection h with h1 h2
  rw[vA h1,sL h2]
def vB{y:Str}{c:Nat}{ps:List Str}(hy:y.cps=#[c])(hk:c<256)(hne:ps≠[])(h:∀p∈ps,c∉tl p):Txt.split (Txt.join y ps) y=ps:=by
 apply sL
 rw[mJ hy hk]
 show spl c (tl (Builtin.Str.glued y ps))=_
 rw[nt hy,lO (fun z=>hne (List.map_eq_nil_iff.mp z)) fun p hp=>?_]
 obtain⟨q,hq,rfl⟩:=BR.mp hp
 exact h q hq
def V1{ts:List Str}{B:Nat}:(∀y∈ts,y.length≤B)→(ts.map (·.length)).sum≤ts.length*B:=by
 induction ts with
 | nil=>intro _;exact B4 _
 | cons x r ih=>
  intro h
  have h1:=h x BJ
  have h2:=ih fun y hy=>h y (BI _ hy)
  rw[Cg,List.sum_cons,BM,Nat.succ_mul]
  omega
def kO{y:Str}{ts:List Str}:(Txt.join y ts).length≤(ts.map (·.length)).sum+ts.length*y.length:=by
 show(Builtin.Str.glued _ _).length≤_
 rw[StrLaws.glued_eq_join]
 exact StrLaws.join_length_le y ts
def rsh(r:List Int):Str:=if r=[] then "0" else Txt.join "." (r.reverse.map shw)
def kK:((".":Str)).length=1:=by decide +kernel
def wE:((" ":Str)).length=1:=by decide +kernel
def vo:((",":Str)).length=1:=by decide +kernel
def cJ:((".":Str)).cps=#[46]:=by decide +kernel
def Yq:((" ":Str)).cps=#[32]:=by decide +kernel
def lA:((",":Str)).cps=#[44]:=by decide +kernel
def yw(u v:Str):(u++v).length=u.length+v.length:=by rw[←yR,yq,Bv,yR,yR]
def ol{y:Str}{ts:List Str}(hy:y.length≤1)(h1:∀x∈ts,x.length≤6000)(h2:ts.length≤1000):JoinOk y ts=true:=by
 have:=StrLaws.joinFits (sep:=y) (texts:=ts) (B:=6000) h1 (by have:=Nat.mul_le_mul_left ts.length hy;omega)
 unfold JoinOk
 rw[this];rfl
def yl{k:Kd}{n:Int}{r:List Int}(hn:k.ok n)(h:∀p,p<r.length→k.low n p≤r.getD p 0∧r.getD p 0≤k.high n p)(hl:r.length≤900):∀z∈r,z.natAbs<1000:=fun z hz=>by
 obtain⟨p,hp,e⟩:=List.getElem_of_mem hz
 obtain⟨f1,f2⟩:=h p hp
 rw[Br,Bu hp,e]at f1 f2
 have f1:k.low n p≤z:=f1
 have f2:z≤k.high n p:=f2
 obtain⟨b1,b2⟩:=hn
 cases k<;>simp only[Kd.lo,Kd.hi,Kd.low,Kd.high]at *<;>first|omega|(have:=Int.mul_le_mul b2 b2 (by omega) (by omega);omega)
def n60{z:Int}(h:z.natAbs<1000):z.natAbs<10^60:=Ce h (by decide)
def tw{r:List Int}(h:r≠[]):Txt.split (rsh r) "."=r.reverse.map shw:=by
 unfold rsh
 rw[if_neg h]
 refine vB cJ (by decide) (fun z=>h (List.reverse_eq_nil_iff.mp (List.map_eq_nil_iff.mp z))) fun p hp=>?_
 obtain⟨z,_,rfl⟩:=BR.mp hp
 exact wc (by decide) (by decide)
def qt(r:List Int):32∉tl (rsh r):=by
 unfold rsh
 split
 ·decide +kernel
 ·show 32∉tl (Builtin.Str.glued _ _)
  rw[nt cJ]
  have key:∀ps:List (List Nat),(∀p∈ps,32∉p)→32∉glu 46 ps:=by
   intro ps
   induction ps with
   | nil=>intro _ h;cases h
   | cons p t ih=>
    intro h
    cases t with
    | nil=>exact h p BJ
    | cons q t=>
     intro z
     rcases B7.mp (show 32∈p++46::glu 46 (q::t) from z) with z|z
     ·exact h p BJ z
     ·rcases BE.mp z with z|z
      ·cases z
      ·exact ih (fun p hp=>h p (BI _ hp)) z
  refine key _ fun p hp=>?_
  rw[Cy]at hp
  obtain⟨z,_,rfl⟩:=BR.mp hp
  exact wc (by decide) (by decide)
def rc{r:List Int}{B:Nat}(hl:r.length≤B)(h1:1≤B)(hb:∀z∈r,z.natAbs<1000):(rsh r).length≤5*B:=by
 unfold rsh
 split
 ·have:(("0":Str)).length=1:=by decide +kernel
  omega
 ·have h1:=kO (y:=".") (ts:=r.reverse.map shw)
  have h2:=V1 (ts:=r.reverse.map shw) (B:=4) fun y hy=>by
   obtain⟨z,hz,rfl⟩:=BR.mp hy
   exact zT (k:=3) z (by decide) (hb z (B'.mp hz))
  rw[kK]at h1
  rw[Bs,BQ]at h1 h2
  omega
def oT{k:Kd}{n:Int}{r:List Int}(hn:k.ok n)(h:Legal k n r)(hl:r.length≤900):(rsh r==("0":Str))=decide (r=[]):=by
 by_cases h0:r=[]
 ·subst h0
  rfl
 ·rw[decide_eq_false h0]
  refine beq_eq_false_iff_ne.mpr fun z=>?_
  have e:=tw h0
  have e0:Txt.split ("0":Str) "."=[("0":Str)]:=by decide +kernel
  rw[z,e0]at e
  have hs:=yl hn h.fig hl
  match r,h0,h,hs,e with
  | [y],_,h,hs,e=>
   have e:[("0":Str)]=[shw y]:=e
   injection e with e _
   have y0:(0:Int)=y:=YY (by decide) (n60 (hs y BJ)) e
   rcases h.end_ with q|q
   ·cases q
   ·exact q y0.symm
  | a::b::t,_,_,_,e=>
   have:=congrArg List.length e
   simp at this
def uk:DSp:=fun ds Q=>∃r,ds=[zy r]∧r.length≤900∧(∀z∈r,z.natAbs<1000)∧Q (.str (rsh r))
def each_t{ρ:DS}{Q:Bool→Prop}(h:Q true):tV ρ Q:=h
def Z6:(((".":Str)).length==0)=false:=by decide +kernel
def tZ:Nm→Str
 | .i a=>shw a
 | .p a b=>shw a++(",":Str)++shw b
def uR(m:Nm):Prop:=m.re.natAbs<10^60∧m.im.natAbs<10^60
def Y0(m:Nm):32∉tl (tZ m):=by
 cases m with
 | i a=>exact wc (by decide) (by decide)
 | p a b=>
  show 32∉tl (shw a++(",":Str)++shw b)
  rw[yq,yq]
  intro z
  rcases B7.mp z with z|z
  ·rcases B7.mp z with z|z
   ·exact wc (by decide) (by decide) z
   ·revert z;decide +kernel
  ·exact wc (by decide) (by decide) z
def oJ{m:Nm}(h:uR m):(tZ m).length≤123:=by
 cases m with
 | i a=>exact BS (zT (k:=60) a (by decide) h.1) (by decide)
 | p a b=>
  show(shw a++(",":Str)++shw b).length≤_
  rw[yw,yw,vo]
  have:=zT (k:=60) a (by decide) h.1
  have:=zT (k:=60) b (by decide) h.2
  omega
def dk(a b:Int):tZ (.p a b)=Txt.join "," [shw a,shw b]:=by
 show _=Builtin.Str.glued _ _
 rw[StrLaws.glued_eq_join]
 rfl
def bm(a:Int):Txt.split (shw a) ","=[shw a]:=by
 apply sL
 rw[mJ lA (by decide),s8 (wc (by decide) (by decide))]
 rfl
def fL(a b:Int):Txt.split (tZ (.p a b)) ","=[shw a,shw b]:=by
 rw[dk]
 refine vB lA (by decide) (CI _ _) fun p hp=>?_
 rcases BE.mp hp with rfl|hp
 ·exact wc (by decide) (by decide)
 ·rw[BD.mp hp];exact wc (by decide) (by decide)
def nO:DSp:=fun ds Q=>∃m,ds=[Nm.dt m]∧uR m∧Q (.str (tZ m))
def gF:DSp:=fun ds Q=>∃m,ds=[.str (tZ m)]∧uR m∧Q m.dt
def wnm(k:Kd)(n:Int):Str:=k.nam++shw n
def rT(k:Kd)(n:Int):32∉tl (wnm k n):=by
 unfold wnm
 rw[yq]
 intro z
 rcases B7.mp z with z|z
 ·have:=mS k 32 z;omega
 ·exact wc (by decide) (by decide) z
def yH{k:Kd}{n:Int}(h:k.ok n):(wnm k n).length≤12:=by
 obtain⟨m,rfl,_,_⟩:=kq h
 unfold wnm
 rw[yw]
 have ln:k.nam.length≤8:=by cases k<;>decide +kernel
 have lw:=zT (k:=2) (m:Int) (by decide) (by rw[B5];omega)
 omega
def counts:List (Str×Int):=[("write",3),("worth",3),("plus",4),("minus",4),("times",4),("share",4),("order",4),("move",4)]
def d7(ws:List Str):Prop:=ws.any (fun a=>a==("":Str))=false∧xT counts (ws.getD 0 "")=.int ws.length
def gw:DSp:=fun ds Q=>∃(s:Str)(ws:List Str),ds=[.str s]∧s.length≤20000∧Txt.split s " "=ws∧d7 ws∧Q (.lst (ws.map Dt.str))
theorem pe:∀ws:List Str,ue (ws.map Dt.str)=some ws
 | []=>rfl
 | w::ws=>by show(ue (ws.map Dt.str)).map _=_;rw[pe ws];rfl
def aU{k:Kd}{n:Int}(h4:k.four=true)(hn:k.ok n)(j:Nat){a b:Int}(ha:k.low n j≤a∧a≤k.high n j)(hb:k.low n j≤b∧b≤k.high n j):(a-b).natAbs+1≤(k.rat n j).natAbs:=by
 have h1:=hn.1
 cases k<;>try(first|(cases h4;done))
 all_goals
  simp only[Kd.low,Kd.high,Kd.rat,Kd.lo]at *
  omega
def gP{k:Kd}{n:Int}(h4:k.four=true)(j:Nat):(wt k n (j+1)).re=k.rat n j*(wt k n j).re:=by
 have h5:k.five=true:=by cases k<;>first|rfl|cases h4
 have hp:k≠.pairs:=by rintro rfl;cases h4
 obtain⟨w,e⟩:=wtI (n:=n) hp j
 rw[xD h5,e]
 cases k<;>first|rfl|cases h4
def yz{k:Kd}{n:Int}(hp:k≠.pairs)(f:Nat→Int)(j:Nat):(wF k n f (j+1)).re=(wF k n f j).re+f j*(wt k n j).re:=by
 obtain⟨w,e⟩:=wtI (n:=n) hp j
 show((wF k n f j).add ((Nm.i (f j)).mul (wt k n j))).re=_
 rw[zS,e]
 rfl
theorem d4{k:Kd}{n:Int}{f g:Nat→Int}(h4:k.four=true)(hn:k.ok n):∀j:Nat,(∀i:Nat,i<j→(k.low n i≤f i∧f i≤k.high n i)∧(k.low n i≤g i∧g i≤k.high n i))→((wF k n f j).re-(wF k n g j).re).natAbs+1≤(wt k n j).re.natAbs
 | 0,_=>by
  show((k.zero).re-(k.zero).re).natAbs+1≤_
  cases k<;>first|exact By 1|cases h4
 | j+1,h=>by
  have hp:k≠.pairs:=by rintro rfl;cases h4
  have ih:=d4 h4 hn j fun i hi=>h i (by omega)
  obtain⟨ha,hb⟩:=h j (by omega)
  have sp:=aU h4 hn j ha hb
  rw[yz hp,yz hp,gP h4,Cf]
  have e:(wF k n f j).re+f j*(wt k n j).re-((wF k n g j).re+g j*(wt k n j).re)=((wF k n f j).re-(wF k n g j).re)+(f j-g j)*(wt k n j).re:=by
   rw[Int.sub_mul]
   omega
  rw[e]
  generalize (wF k n f j).re-(wF k n g j).re=D at *
  generalize (wt k n j).re=x at *
  have t1:=Int.natAbs_add_le D ((f j-g j)*x)
  have t2:((f j-g j)*x).natAbs=(f j-g j).natAbs*x.natAbs:=Cf _ _
  generalize ((f j-g j) * x).natAbs=y at *
  have t3:=Cu x.natAbs sp
  rw[Nat.add_mul,Nat.one_mul,←t2]at t3
  omega
theorem fF{n:Int}{f:Nat→Int}(h1:1≤n):∀j:Nat,(∀i:Nat,i<j→0≤f i∧f i≤n)→(∀i:Nat,i+1<j→f (i+1)=n→f i=0)→0≤(wF .falling n f j).re∧(wF .falling n f j).re<wf n j
 | 0,_,_=>⟨BW 0,show(0:Int)<1 by decide⟩
 | j+1,h,g=>by
  have hp:Kd.falling≠.pairs:=fun z=>nomatch z
  have ew:(wF .falling n f (j+1)).re=(wF .falling n f j).re+f j*wf n j:=yz hp f j
  obtain⟨a,b⟩:=fF h1 j (fun i hi=>h i (by omega)) (fun i hi=>g i (by omega))
  obtain⟨c,d⟩:=h j (by omega)
  obtain⟨w1,w2⟩:=zQ h1 j
  rw[ew]
  refine⟨Int.add_nonneg a (BX c (by omega)),?_⟩
  by_cases e:f j=n
  ·cases j with
   | zero=>
    rw[e,rV]
    have:(wF .falling n f 0).re<1:=b
    show _+n*1<_
    omega
   | succ i=>
    have z:f i=0:=g i (by omega) e
    obtain⟨_,b'⟩:=fF h1 i (fun i hi=>h i (by omega)) (fun i hi=>g i (by omega))
    have e2:(wF .falling n f (i+1)).re=(wF .falling n f i).re+f i*wf n i:=yz hp f i
    rw[e2,z,BV,e,vg]
    omega
  ·have m:f j*wf n j≤(n-1)*wf n j:=Bt (by omega) (by omega)
   rw[Int.sub_mul,CC]at m
   have u:n*wf n j≤wf n (j+1):=by
    cases j with
    | zero=>rw[rV];show n*1≤_;omega
    | succ i=>rw[vg];have:=(zQ h1 i).1;omega
   omega
def d5{k:Kd}{n:Int}{r s:List Int}(hp:k≠.pairs)(hn:k.ok n)(hr:Legal k n r)(hs:Legal k n s)(j:Nat):((wF k n (fun i=>r.getD i 0) j).re-(wF k n (fun i=>s.getD i 0) j).re).natAbs+1≤(wt k n j).re.natAbs:=by
 have fg:∀{t:List Int},Legal k n t→∀i:Nat,k.low n i≤t.getD i 0∧t.getD i 0≤k.high n i:=fun{t} ht i=>by
  by_cases hi:i<t.length
  ·exact ht.fig i hi
  ·rw[xr (by omega)];exact eI hn i
 by_cases h4:k.four=true
 ·exact d4 h4 hn j fun i _=>⟨fg hr i,fg hs i⟩
 ·have hk:k=.falling:=by cases k<;>first|rfl|exact absurd rfl h4|exact absurd rfl hp
  subst hk
  have h1:1≤n:=hn.1
  have lf:∀{t:List Int},Legal .falling n t→∀i:Nat,t.getD (i+1) 0=n→t.getD i 0=0:=fun{t} ht i e=>by
   by_cases hi:i+1<t.length
   ·exact ht.fal rfl i hi e
   ·rw[xr (by omega)]at e;omega
  obtain⟨a,b⟩:=fF h1 j (fun i _=>fg hr i) (fun i _=>lf hr i)
  obtain⟨c,d⟩:=fF h1 j (fun i _=>fg hs i) (fun i _=>lf hs i)
  have ew:(wt .falling n j).re=wf n j:=rfl
  rw[ew]
  omega
def Tr{k:Kd}{n:Int}(hp:k≠.pairs)(hb:k≠.below)(hn:k.ok n):∀j:Nat,1≤(wt k n j).re:=fun j=>by
 by_cases h4:k.four=true
 ·induction j with
  | zero=>cases k<;>first|exact BW 1|cases h4
  | succ j ih=>
   rw[gP h4]
   have h1:=hn.1
   have r1:1≤k.rat n j:=by
    cases k<;>first|exact absurd rfl hb|(cases h4;done)|(simp only[Kd.rat,Kd.lo]at *; omega)
   have:=Bt r1 (show(0:Int)≤(wt k n j).re by omega)
   omega
 ·have hk:k=.falling:=by cases k<;>first|rfl|exact absurd rfl h4|exact absurd rfl hp
  subst hk
  exact(zQ hn.1 j).1
theorem oz{n:Int}(hn:Kd.below.ok n):∀j:Nat,(j%2=0→1≤(wt .below n j).re)∧(j%2=1→(wt .below n j).re≤-1)
 | 0=>⟨fun _=>BW 1,fun h=>by omega⟩
 | j+1=>by
  obtain⟨a,b⟩:=oz hn j
  have e:(wt .below n (j+1)).re=-n*(wt .below n j).re:=gP rfl j
  have h1:2≤n:=hn.1
  rw[e]
  refine⟨fun h=>?_,fun h=>?_⟩
  ·have b:=b (by omega)
   have m:=Bt (show(1:Int)≤n by omega) (show(0:Int)≤-(wt .below n j).re by omega)
   have e2:-n*(wt .below n j).re=n * -(wt .below n j).re:=by rw[CW,Cv]
   rw[e2]
   omega
  ·have a:=a (by omega)
   have m:=Bt (show(1:Int)≤n by omega) (show(0:Int)≤(wt .below n j).re by omega)
   rw[CW]
   omega
def sg(a b:Int):Int:=if a<b then -1 else if b<a then 1 else 0
def Wv{X Y D a b w:Int}(e:X-Y=D+(a-b)*w)(hD:D.natAbs+1≤w.natAbs)(hw:1≤w)(hab:b<a):sg X Y=1:=by
 have m:=Bt (show(1:Int)≤a-b by omega) (show(0:Int)≤w by omega)
 have:Y<X:=by omega
 unfold sg
 rw[if_neg (by omega),if_pos this]
def Wu{X Y D a b w:Int}(e:X-Y=D+(a-b)*w)(hD:D.natAbs+1≤w.natAbs)(hw:1≤w)(hab:a<b):sg X Y=-1:=by
 have m:=Bt (show(1:Int)≤b-a by omega) (show(0:Int)≤w by omega)
 have e2:(a-b)*w=-((b-a)*w):=by rw[←CW,Int.neg_sub]
 have:X<Y:=by omega
 unfold sg
 rw[if_pos this]
def V4{X Y D a b w:Int}(e:X-Y=D+(a-b)*w):X-Y=D+(b-a) * -w:=by
 rw[e,Cv,←CW,Int.neg_sub]
theorem aq{k:Kd}{n:Int}{f g:Nat→Int}(hp:k≠.pairs){p:Nat}:∀d:Nat,(∀i:Nat,p<i→f i=g i)→(wF k n f (p+1+d)).re-(wF k n g (p+1+d)).re=(wF k n f p).re-(wF k n g p).re+(f p-g p)*(wt k n p).re
 | 0,_=>by
  rw[Nat.add_zero,yz hp,yz hp,Int.sub_mul]
  omega
 | d+1,h=>by
  have ih:=aq (k:=k) (n:=n) hp d h
  rw[show p+1+(d+1)=(p+1+d)+1 from rfl,yz hp,yz hp,h (p+1+d) (by omega)]
  omega
theorem lL{k:Kd}{n:Int}{r:List Int}(hp:k≠.pairs):∀d:Nat,(wF k n (fun i=>r.getD i 0) (r.length+d)).re=(zj k n r).re
 | 0=>by
  show(wF k n _ r.length).re=(yu k n r r.length).re
  rw[wP]
 | d+1=>by
  rw[show r.length+(d+1)=(r.length+d)+1 from rfl,yz hp,lL hp d]
  show _+r.getD (r.length+d) 0*_=_
  rw[xr (by omega),BV,Cp]
def ptg(xs ys:List Int):Nat→Option Nat
 | 0=>none
 | n+1=>if xs.getD n 0=ys.getD n 0 then ptg xs ys n else some n
theorem jV{xs ys:List Int}:∀{m:Nat},ptg xs ys m=none→∀i:Nat,i<m→xs.getD i 0=ys.getD i 0
 | 0,_,i,hi=>absurd hi (Cn _)
 | m+1,h,i,hi=>by
  unfold ptg at h
  by_cases e:xs.getD m 0=ys.getD m 0
  ·rw[if_pos e]at h
   rcases(by omega:i<m∨i=m) with z|z
   ·exact jV h i z
   ·rw[z];exact e
  ·rw[if_neg e]at h;cases h
theorem jU{xs ys:List Int}{p:Nat}:∀{m:Nat},ptg xs ys m=some p→p<m∧xs.getD p 0≠ys.getD p 0∧∀i:Nat,p<i→i<m→xs.getD i 0=ys.getD i 0
 | 0,h=>nomatch h
 | m+1,h=>by
  unfold ptg at h
  by_cases e:xs.getD m 0=ys.getD m 0
  ·rw[if_pos e]at h
   obtain⟨a,b,c⟩:=jU h
   refine⟨by omega,b,fun i h1 h2=>?_⟩
   rcases(by omega:i<m∨i=m) with z|z
   ·exact c i h1 z
   ·rw[z];exact e
  ·rw[if_neg e]at h
   cases h
   exact⟨by omega,e,fun i h1 h2=>by omega⟩
def Zm{k:Kd}{n:Int}{r s:List Int}(hr:Legal k n r)(hs:Legal k n s)(h:ptg r s (max r.length s.length)=none):sg (zj k n r).re (zj k n s).re=0:=by
 have:r=s:=d6 (fun p=>by
  by_cases hp:p<max r.length s.length
  ·exact jV h p hp
  ·rw[xr (by omega),xr (by omega)]) hr.end_ hs.end_
 subst this
 unfold sg
 rw[if_neg (Int.lt_irrefl _),if_neg (Int.lt_irrefl _)]
theorem Zl{k:Kd}{n:Int}{r s:List Int}{p:Nat}(hp:k≠.pairs)(hn:k.ok n)(hr:Legal k n r)(hs:Legal k n s)(h:ptg r s (max r.length s.length)=some p):
  r.getD p 0≠s.getD p 0∧(k≠.below∨p%2=0→(s.getD p 0<r.getD p 0→sg (zj k n r).re (zj k n s).re=1)∧(r.getD p 0<s.getD p 0→sg (zj k n r).re (zj k n s).re=-1))∧
  (k=.below→p%2=1→(s.getD p 0<r.getD p 0→sg (zj k n r).re (zj k n s).re=-1)∧(r.getD p 0<s.getD p 0→sg (zj k n r).re (zj k n s).re=1)):=by
 obtain⟨a,b,c⟩:=jU h
 have c':∀i:Nat,p<i→r.getD i 0=s.getD i 0:=fun i hi=>by
  by_cases z:i<max r.length s.length
  ·exact c i hi z
  ·rw[xr (by omega),xr (by omega)]
 obtain⟨d,hd⟩:∃d,max r.length s.length=p+1+d:=⟨max r.length s.length-(p+1),by omega⟩
 have t:=aq (k:=k) (n:=n) (f:=fun i=>r.getD i 0) (g:=fun i=>s.getD i 0) hp d c'
 have e1:p+1+d=r.length+(p+1+d-r.length):=by omega
 have e2:p+1+d=s.length+(p+1+d-s.length):=by omega
 have m1:=lL (k:=k) (n:=n) (r:=r) hp (p+1+d-r.length)
 have m2:=lL (k:=k) (n:=n) (r:=s) hp (p+1+d-s.length)
 rw[←e1]at m1
 rw[←e2]at m2
 rw[m1,m2]at t
 have D:=d5 hp hn hr hs p
 refine⟨b,fun hb=>?_,fun hb hodd=>?_⟩
 ·have w1:1≤(wt k n p).re:=by
   by_cases z:k=.below
   ·subst z
    exact(oz hn p).1 (by rcases hb with q|q;exact absurd rfl q;exact q)
   ·exact Tr hp z hn p
  exact⟨fun q=>Wv t D w1 q,fun q=>Wu t D w1 q⟩
 ·subst hb
  have w1:=(oz hn p).2 hodd
  have t':=V4 t
  have D':((wF .below n (fun i=>r.getD i 0) p).re-(wF .below n (fun i=>s.getD i 0) p).re).natAbs+1≤(-(wt .below n p).re).natAbs:=by rw[Int.natAbs_neg];exact D
  exact⟨fun q=>Wu t' D' (by omega) q,fun q=>Wv t' D' (by omega) q⟩
def LS:Option Nat→Dt
 | none=>.non
 | some p=>.int p
def kU(xs:List Int)(i:Nat):(xs.map Dt.int).getD i (.int 0)=.int (xs.getD i 0):=by
 rw[Br,Br,Bx]
 cases xs[i]?<;>rfl
def YF:DSp:=fun ds Q=>∃xs ys,ds=[zy xs,zy ys]∧xs.length≤1000∧ys.length≤1000∧Q (LS (ptg xs ys (max xs.length ys.length)))
inductive Op where|plus|minus|times|order
def Op.nam:Op→Str
 | .plus=>"plus" | .minus=>"minus" | .times=>"times" | .order=>"order"
def fM(z:Int):Str:=if z<0 then "less" else if 0<z then "more" else "same"
def okL(k:Kd)(r:List Int):Prop:=r.length≤500∧(k=.falling→r.length≤200)
def told(k:Kd)(n:Int)(m:Nm)(Q:Dt→Prop):Prop:=∀r,Legal k n r→zj k n r=m→r.length≤900→Q (.str (rsh r))
def Op.pre(k:Kd)(n:Int)(a b:List Int):Op→Prop
 | .plus=>True
 | .minus=>iB k→(zj k n b).re≤(zj k n a).re
 | .times=>few k a.length b.length
 | .order=>k≠.pairs
def Op.ans(k:Kd)(n:Int)(a b:List Int)(Q:Dt→Prop):Op→Prop
 | .plus=>told k n ((zj k n a).add (zj k n b)) Q
 | .minus=>told k n ((zj k n a).add ((zj k n b).mul (.i (-1)))) Q
 | .times=>told k n ((zj k n a).mul (zj k n b)) Q
 | .order=>Q (.str (fM (sg (zj k n a).re (zj k n b).re)))
def g8(k:Kd)(n:Int)(a:List Int)(m:Int)(Q:Dt→Prop):Prop:=∀s e,Legal k n s→s.length≤700→0≤e→e<m→(zj k n a).re=m*(zj k n s).re+e→Q (.str (Txt.join " " [rsh s,shw e]))
def WA(k:Kd)(n:Int)(a:List Int)(ws:List Str)(Q:Dt→Prop):Prop:=
 (∃x y,ws=[("worth":Str),x,y]∧Q (.str (tZ (zj k n a))))∨
 (∃x y m,ws=[("share":Str),x,y,shw m]∧k≠.pairs∧1≤m∧m.natAbs<10^60∧g8 k n a m Q)∨
 (∃x y k2 n2,ws=[("move":Str),x,y,wnm k2 n2]∧k2.ok n2∧yI k2 (rW k2 (zj k n a))=true∧told k2 n2 (rW k2 (zj k n a)) Q)∨
 (∃o b x y,ws=[Op.nam o,x,y,rsh b]∧Legal k n b∧okL k b∧o.pre k n a b∧o.ans k n a b Q)
def cN(a b:Str):a++(" ":Str)++b=Txt.join " " [a,b]:=by
 show _=Builtin.Str.glued _ _
 rw[StrLaws.glued_eq_join]
 rfl
def Sj(o:Op):32∉tl o.nam:=by cases o<;>decide +kernel
def sI{x:Str}(h:x≠""):(x==("":Str))=false:=beq_eq_false_iff_ne.mpr h
def lR(i:Int):shw i≠"":=fun z=>by
 have h:=congrArg tl z
 rw[lM,show tl ("":Str)=[] by decide +kernel]at h
 exact VB _ (List.append_eq_nil_iff.mp h).2
def rS(k:Kd)(n:Int):wnm k n≠"":=fun z=>by
 have h:=congrArg tl z
 unfold wnm at h
 rw[yq,show tl ("":Str)=[] by decide +kernel]at h
 exact ZC k (List.append_eq_nil_iff.mp h).1
def YZ(m:Nm):tZ m≠"":=by
 cases m with
 | i a=>exact lR a
 | p a b=>
  intro z
  have h:=congrArg tl (show shw a++(",":Str)++shw b="" from z)
  rw[yq,show tl ("":Str)=[] by decide +kernel]at h
  exact lR b (vA (List.append_eq_nil_iff.mp h).2)
def oU(r:List Int):rsh r≠"":=by
 by_cases h:r=[]
 ·subst h;decide +kernel
 ·intro z
  have e:=tw h
  rw[z,show Txt.split ("":Str) "."=[("":Str)] by decide +kernel]at e
  have hm:("":Str)∈r.reverse.map shw:=by rw[←e];exact BJ
  obtain⟨y,_,hy⟩:=BR.mp hm
  exact lR y hy
def Wd{k:Kd}{n:Int}{r:List Int}(hn:k.ok n)(h:Legal k n r)(hl:r.length≤900):bdR r:=fun t ht=>BO (yl hn h.fig hl t ht) (BS (by decide:1000≤2^10) (B6 (by decide) (by decide)))
def dF{k:Kd}{n:Int}{m:Nm}(hn:k.ok n)(hm:yI k m=true)(h:uR m):∃r,Wr k n m r∧Legal k n r∧zj k n r=m∧r.length≤900:=by
 obtain⟨r,w,l⟩:=Tt (b:=200) hn hm ⟨BS (Nat.le_of_lt h.1) (by decide),BS (Nat.le_of_lt h.2) (by decide)⟩ (by decide) (by decide)
 exact⟨r,w,ak hn hm w,aj hn hm w,by omega⟩
def YO{k:Kd}{m:Nm}(h:uR m):uR (rW k m):=by
 unfold rW
 split
 ·cases m with
  | i a=>exact⟨h.1,by show(0:Int).natAbs<10^60;decide⟩
  | p a b=>exact h
 ·cases m with
  | i a=>exact h
  | p a b=>
   show uR (if _ then _ else _)
   split
   ·exact⟨h.1,by show(0:Int).natAbs<10^60;decide⟩
   ·exact h
def nob(ws:List Str):Prop:=∀p∈ws,32∉tl p
def Uy{a b c:Str}(ha:32∉tl a)(hb:32∉tl b)(hc:32∉tl c):nob [a,b,c]:=fun p hp=>by
 rcases BE.mp hp with rfl|hp
 ·exact ha
 rcases BE.mp hp with rfl|hp
 ·exact hb
 rw[BD.mp hp];exact hc
def Ux{a b c d:Str}(ha:32∉tl a)(hb:32∉tl b)(hc:32∉tl c)(hd:32∉tl d):nob [a,b,c,d]:=fun p hp=>by
 rcases BE.mp hp with rfl|hp
 ·exact ha
 ·exact Uy hb hc hd p hp
def TW{a b c:Str}(h0:xT counts a=.int 3)(ha:a≠"")(hb:b≠"")(hc:c≠""):d7 [a,b,c]:=⟨by
 show(a==("":Str)||(b==("":Str)||(c==("":Str)||false)))=false
 rw[sI ha,sI hb,sI hc];rfl,h0⟩
def V6{a b c d:Str}(h0:xT counts a=.int 4)(ha:a≠"")(hb:b≠"")(hc:c≠"")(hd:d≠""):d7 [a,b,c,d]:=⟨by
 show(a==("":Str)||(b==("":Str)||(c==("":Str)||(d==("":Str)||false))))=false
 rw[sI ha,sI hb,sI hc,sI hd];rfl,h0⟩
def y7(k:Kd)(n:Int):Dt:=.tup [.str k.nam,.int n]
def Yw:DSp:=fun ds Q=>∃c:Int,ds=[.int c]∧∀k n,Kd.ok k n→Q (y7 k n)
def dr:DSp:=fun ds Q=>∃k n,ds=[y7 k n]∧Q (.int (k.low n 0))
def jv:DSp:=fun ds Q=>∃k n p,ds=[y7 k n,.int p]∧Kd.ok k n∧Q (.int (k.high n p))
def gL:DSp:=fun ds Q=>∃n r,ds=[.int n,zy r]∧Kd.falling.ok n∧r.length≤900∧(∀t∈r,t.natAbs<1000)∧Q (.int (zj .falling n r).re)
def wO:DSp:=fun ds Q=>∃k n r,ds=[y7 k n,zy r]∧Kd.ok k n∧Legal k n r∧r.length≤900∧Q (zj k n r).dt
def YH:DSp:=fun ds Q=>∃k n r,ds=[y7 k n,zy r]∧Kd.ok k n∧r.length≤1000∧Legal k n r∧Q (.bl true)
def nQ:DSp:=fun ds Q=>∃z:Int,ds=[.str (shw z)]∧z.natAbs<10^60∧Q (.int z)
def dq:DSp:=fun ds Q=>∃k n r,ds=[y7 k n,.str (rsh r)]∧Kd.ok k n∧Legal k n r∧r.length≤900∧Q (zy r)
def iE{m:Nm}{k:Kd}(hp:k≠.pairs)(h:m.ty k):m=.i m.re:=by
 obtain⟨a,rfl⟩:=xH hp h
 rfl
def Hd{m:Nm}(h:m.ty .pairs):m=.p m.re m.im:=by
 obtain⟨a,b,rfl⟩:=h
 rfl
def iF{a b:Int}(ha:a.natAbs<10^60)(hb:b.natAbs<10^60):IntMulOk a b:=nc (i:=200) (j:=200) (Ce ha (by decide)) (Ce hb (by decide)) (by decide)
def nj{a b c d:Str}(ha:a.length≤4000)(hb:b.length≤4000)(hc:c.length≤4000)(hd:d.length≤4000):(Txt.join (" ":Str) [a,b,c,d]).length≤20000∧JoinOk (" ":Str) [a,b,c,d]=true:=by
 have h:=kO (y:=" ") (ts:=[a,b,c,d])
 rw[wE]at h
 simp only[List.map_cons,List.map_nil,List.sum_cons,List.sum_nil,List.length_cons,List.length_nil]at h
 refine⟨by omega,ol (by rw[wE];exact Nat.le_refl _) (fun x hx=>?_) (by simp)⟩
 simp only[List.mem_cons,List.not_mem_nil,or_false]at hx
 rcases hx with rfl|rfl|rfl|rfl<;>omega
def Vo{a b c:Str}(ha:a.length≤4000)(hb:b.length≤4000)(hc:c.length≤4000):(Txt.join (" ":Str) [a,b,c]).length≤20000∧JoinOk (" ":Str) [a,b,c]=true:=by
 have h:=kO (y:=" ") (ts:=[a,b,c])
 rw[wE]at h
 simp only[List.map_cons,List.map_nil,List.sum_cons,List.sum_nil,List.length_cons,List.length_nil]at h
 refine⟨by omega,ol (by rw[wE];exact Nat.le_refl _) (fun x hx=>?_) (by simp)⟩
 simp only[List.mem_cons,List.not_mem_nil,or_false]at hx
 rcases hx with rfl|rfl|rfl<;>omega
def gh{u w a b:Str}(h:tl u=tl w++[32]):u++a++(" ":Str)++b=Txt.join " " [w,a,b]:=by
 apply vA
 show _=tl (Builtin.Str.glued _ _)
 have e:tl (" ":Str)=[32]:=by decide +kernel
 rw[StrLaws.glued_eq_join,yq,yq,yq,h,e]
 show _=tl (w++(" ":Str)++(a++(" ":Str)++b))
 rw[yq,yq,yq,yq,e]
 simp only[List.append_assoc]
def gQ(a b:Str):("write ":Str)++a++(" ":Str)++b=Txt.join " " [("write":Str),a,b]:=gh (by decide +kernel)
def gR(a b:Str):("worth ":Str)++a++(" ":Str)++b=Txt.join " " [("worth":Str),a,b]:=gh (by decide +kernel)
def Zo(o:Op):o.nam.length≤5:=by cases o<;>decide +kernel
structure Rd(k:Kd)(n:Int)(a:List Int):Prop where
 ok:k.ok n
 leg:Legal k n a
 len:a.length≤200
 lt:uR (zj k n a)
def Rd.sm{k:Kd}{n:Int}{a:List Int}(h:Rd k n a):∀z∈a,z.natAbs<1000:=yl h.ok h.leg.fig (by have:=h.len;omega)
def Rd.tx{k:Kd}{n:Int}{a:List Int}(h:Rd k n a):(rsh a).length≤1000:=by have:=rc (B:=200) h.len (by decide) h.sm;omega
def Rd.okl{k:Kd}{n:Int}{a:List Int}(h:Rd k n a):okL k a:=⟨by have:=h.len;omega,fun _=>h.len⟩
def Op.res:Op→Nm→Nm→Nm
 | .plus,a,b=>a.add b
 | .minus,a,b=>a.add (b.mul (.i (-1)))
 | .times,a,b=>a.mul b
 | .order,a,_=>a
def Op.sum(o:Op):Prop:=o≠.order
def YV{o:Op}{k:Kd}{n:Int}{a b:List Int}{Q:Dt→Prop}(h:o.sum)(q:told k n (o.res (zj k n a) (zj k n b)) Q):o.ans k n a b Q:=by
 cases o
 ·exact q
 ·exact q
 ·exact q
 ·exact absurd rfl h
theorem jB{i:Nat}{D:nS}{ρ:DS}{ms:List Int}(hi:ρ[i]? = some (.own (ms.map Dt.int)))(q:D.nx (ρ.set i (.own ((trim ms).map Dt.int)))):
  df (VF (Ti (pd (dOp gNe (X7 i) (Tf bZ))) (pd (dOp gEq (dIx (X7 i) (Tc (dC (Dt.int 1)))) (dC (Dt.int 0)))))) (U_ i) D ρ:=by
 have hl:i<ρ.length:=by
  rcases Ca i ρ.length with h|h
  ·exact h
  ·rw[BG h]at hi;cases hi
 refine⟨fun m ρ'=>∃l:List Int,ρ'=ρ.set i (.own (l.map Dt.int))∧l.length=m∧trim l=trim ms,⟨_,ms,?_,rfl,rfl⟩,?_⟩
 ·apply List.ext_getElem?
  intro j
  by_cases hj:i=j
  ·subst hj;rw[B0 hl];exact hi
  ·rw[BK hj]
 ·rintro m ρ' ⟨l,rfl,rfl,ht⟩
  have hg:(ρ.set i (.own (l.map Dt.int)))[i]? = some (.own (l.map Dt.int)):=B0 hl
  have hg':((ρ.set i (.own (l.map Dt.int))).map fz)[i]? = some (.some (.lst (l.map Dt.int))):=by rw[Bx,hg];rfl
  refine⟨_,hg',rfl,kE _,rfl,_,rfl,?_⟩
  rcases zU l with rfl|⟨l',z,rfl⟩
  ·refine ifF rfl (ifF rfl ?_)
   rw[←ht,jF]at q
   exact q
  ·refine ifT (by cases l'<;>rfl) ?_
   refine⟨_,hg',_,rfl,_,_,_,rfl,rfl,atI_last,rfl,rfl,_,rfl,?_⟩
   by_cases hz:z=0
   ·refine ifT (eqI hz) ?_
    subst hz
    refine⟨_,hg,by simp,l'.length,by rw[List.length_append];exact Nat.lt_succ_self _,l',?_,rfl,?_⟩
    ·rw[lu,List.dropLast_concat,List.set_set]
    ·rw[←ht,vh]
   ·refine ifF (neI hz) ?_
    rw[←ht,sY hz]at q
    exact q
def bn{lo hi f m:Int}(l1:lo≤0)(l2:0≤hi)(x0:lo≤f)(x1:f≤hi):∃g,atI [Dt.int lo,.int hi,.int 0,.int f,.int f,.int f,.int f] (m.fmod 7)=some (.int g)∧lo≤g∧g≤hi:=by
 have a0:=Bz m (show(0:Int)<7 by decide)
 have a1:=BF m (show(0:Int)<7 by decide)
 rcases(by omega:m.fmod 7=0∨m.fmod 7=1∨m.fmod 7=2∨m.fmod 7=3∨m.fmod 7=4∨m.fmod 7=5∨m.fmod 7=6) with e|e|e|e|e|e|e<;>rw[e]
 ·exact⟨_,rfl,BW _,by omega⟩
 ·exact⟨_,rfl,by omega,BW _⟩
 ·exact⟨_,rfl,l1,l2⟩
 all_goals exact⟨_,rfl,x0,x1⟩
def c7:DSp:=fun ds Q=>∃k n cs,ds=[y7 k n,zy cs]∧Kd.ok k n∧cs.length≤100∧∀r,Legal k n r→r.length≤cs.length→Q (zy r)
def YA:DSp:=fun ds Q=>∃k n,∃c s:Int,ds=[y7 k n,.int c,.int s]∧Kd.ok k n∧-10≤s∧s≤10∧∀r,Legal k n r→r.length≤9→Q (zy r)
def VM:DSp:=fun ds Q=>∃k n,∃c:Int,ds=[y7 k n,.int c]∧∀m,yI k m=true→uR m→Q (Nm.dt m)
def cW:DSp:=fun ds Q=>∃m,ds=[Nm.dt m]∧uR m∧Q (.str (tZ m))
def oy:DSp:=fun ds Q=>∃k n r m,ds=[y7 k n,.str (rsh r),Nm.dt m]∧Kd.ok k n∧Legal k n r∧r.length≤900∧zj k n r=m∧Q (.bl true)
def VN:DSp:=fun ds Q=>∃o k n a b,ds=[.str (Op.nam o),y7 k n,Nm.dt a,Nm.dt b]∧o.sum∧a.ty k∧b.ty k∧uR a∧uR b∧Q (o.res a b).dt
def qE(k:Kd)(n:Int)(a:List Int):Prop:=Legal k n a∧a.length≤9
def YG:DSp:=fun ds Q=>∃o k n a b,ds=[.str (Op.nam o),y7 k n,.str (wnm k n),zy a,zy b]∧o.sum∧Kd.ok k n∧qE k n a∧qE k n b∧Q (.bl true)
def gH:DSp:=fun ds Q=>∃k n a m,ds=[y7 k n,.str (wnm k n),zy a,.int m]∧k≠.pairs∧Kd.ok k n∧qE k n a∧1≤m∧m≤1000000∧Q (.bl true)
def gJ:DSp:=fun ds Q=>∃k n a b,ds=[y7 k n,.str (wnm k n),zy a,zy b]∧k≠.pairs∧Kd.ok k n∧qE k n a∧qE k n b∧Q (.bl true)
def ju:DSp:=fun ds Q=>∃k n a,∃c:Int,ds=[y7 k n,.str (wnm k n),zy a,.int c]∧Kd.ok k n∧qE k n a∧Q (.bl true)
def YK:DSp:=fun ds Q=>∃c:Int,ds=[.int c]∧Q (.bl true)
def w60{k:Kd}{n:Int}{r:List Int}(hn:k.ok n)(h:qE k n r):uR (zj k n r):=by
 obtain⟨hL,hl⟩:=h
 obtain⟨a,b⟩:=jz hn (fun t ht=>by have:=yl hn hL.fig (by omega) t ht;omega) r.length (by omega)
 have:2^(7*r.length+13)≤2^76:=B6 (by decide) (by omega)
 exact⟨Cj (BS a this) (by decide),Cj (BS b this) (by decide)⟩
def vW{k:Kd}{n:Int}{r:List Int}(hn:k.ok n)(h:qE k n r):Rd k n r:=⟨hn,h.1,by have:=h.2;omega,w60 hn h⟩
def p20:(10:Int)^Int.toNat 20=100000000000000000000:=by decide
def p9:(10:Int)^Int.toNat 9=1000000000:=by decide
def p8:(10:Int)^Int.toNat 8=100000000:=by decide
def T6(c:Int):∃k2 n2,(k2=.pairs∨k2=.below∨k2=.balanced)∧Kd.ok k2 n2∧atI [.tup [.str (Str.ofString "pairs"),.int (1+c.fmod 9)],.tup [.str (Str.ofString "below"),.int (2+c.fmod 59)],.tup [.str (Str.ofString "balanced"),.int (1+c.fmod 30)]] ((c.fdiv 60).fmod 3)=some (y7 k2 n2):=by
 have s0:=Bz (c.fdiv 60) (show(0:Int)<3 by decide)
 have s1:=BF (c.fdiv 60) (show(0:Int)<3 by decide)
 have a0:=Bz c (show(0:Int)<9 by decide)
 have a1:=BF c (show(0:Int)<9 by decide)
 have b0:=Bz c (show(0:Int)<59 by decide)
 have b1:=BF c (show(0:Int)<59 by decide)
 have c0:=Bz c (show(0:Int)<30 by decide)
 have c1:=BF c (show(0:Int)<30 by decide)
 rcases(by omega:(c.fdiv 60).fmod 3=0∨(c.fdiv 60).fmod 3=1∨(c.fdiv 60).fmod 3=2) with e|e|e<;>rw[e]
 ·exact⟨.pairs,_,.inl rfl,⟨by show(1:Int)≤1+_;omega,by show 1+_≤(9:Int);omega⟩,rfl⟩
 ·exact⟨.below,_,.inr (.inl rfl),⟨by show(2:Int)≤2+_;omega,by show 2+_≤(60:Int);omega⟩,rfl⟩
 ·exact⟨.balanced,_,.inr (.inr rfl),⟨by show(1:Int)≤1+_;omega,by show 1+_≤(30:Int);omega⟩,rfl⟩
def T5(c:Int):∃k2 n2,iB k2∧Kd.ok k2 n2∧atI [.tup [.str (Str.ofString "plain"),.int (2+c.fmod 59)],.tup [.str (Str.ofString "growing"),.int (2+c.fmod 59)],.tup [.str (Str.ofString "falling"),.int (1+c.fmod 9)]] ((c.fdiv 60).fmod 3)=some (y7 k2 n2):=by
 have s0:=Bz (c.fdiv 60) (show(0:Int)<3 by decide)
 have s1:=BF (c.fdiv 60) (show(0:Int)<3 by decide)
 have a0:=Bz c (show(0:Int)<9 by decide)
 have a1:=BF c (show(0:Int)<9 by decide)
 have b0:=Bz c (show(0:Int)<59 by decide)
 have b1:=BF c (show(0:Int)<59 by decide)
 rcases(by omega:(c.fdiv 60).fmod 3=0∨(c.fdiv 60).fmod 3=1∨(c.fdiv 60).fmod 3=2) with e|e|e<;>rw[e]
 ·exact⟨.plain,_,.inl (.inl rfl),⟨by show(2:Int)≤2+_;omega,by show 2+_≤(60:Int);omega⟩,rfl⟩
 ·exact⟨.growing,_,.inl (.inr rfl),⟨by show(2:Int)≤2+_;omega,by show 2+_≤(60:Int);omega⟩,rfl⟩
 ·exact⟨.falling,_,.inr rfl,⟨by show(1:Int)≤1+_;omega,by show 1+_≤(9:Int);omega⟩,rfl⟩
def V3{N s:Int}(h0:0≤N)(h1:N<100000000000000000000)(hs:s=1∨s=-1):(N*s).natAbs<10^60:=by
 rcases hs with rfl|rfl
 ·omega
 ·omega
structure Adr where
 Plain:Addr
 Below:Addr
 Balanced:Addr
 Growing:Addr
 Falling:Addr
 Pairs:Addr
structure Txt(K:Bq)(mg:be)(A:Adr):Prop where
 kt:Wj K
 isinstance:mg "isinstance"=none
 n_int:mg "int"=none
 n_bool:mg "bool"=none
 n_tuple:mg "tuple"=none
 n_list:mg "list"=none
 len:mg "len"=none
 range:mg "range"=none
 n_zip:mg "zip"=none
 n_enumerate:mg "enumerate"=none
 n_reversed:mg "reversed"=none
 n_min:mg "min"=none
 n_max:mg "max"=none
 n_str:mg "str"=none
 gs_FIGURES:∃tk,mg "FIGURES"=some (.str "0123456789" tk)
 Ge:Cls K A.Plain
 Gw:NoAttr K A.Plain "base"
 Gf:Cls K A.Below
 Gx:NoAttr K A.Below "base"
 Gd:Cls K A.Balanced
 Gu:NoAttr K A.Balanced "half"
 Gg:Cls K A.Growing
 Gy:NoAttr K A.Growing "first"
 HX:Cls K A.Falling
 H8:NoAttr K A.Falling "most"
 H9:Cls K A.Pairs
 Gh:NoAttr K A.Pairs "most"
 Gi:mg "Falling"=some (.ref A.Falling)
 Gz:mg "Pairs"=some (.ref A.Pairs)
 G7:mg "Below"=some (.ref A.Below)
 G8:pj K A.Plain
 GA:PySem.W.kitOne K (.ref A.Plain) (.ref A.Falling)=some false
 GB:PySem.W.kitOne K (.ref A.Plain) (.ref A.Pairs)=some false
 GC:PySem.W.kitOne K (.ref A.Plain) (.ref A.Below)=some false
 G9:pj K A.Below
 GD:PySem.W.kitOne K (.ref A.Below) (.ref A.Falling)=some false
 GE:PySem.W.kitOne K (.ref A.Below) (.ref A.Pairs)=some false
 GF:PySem.W.kitOne K (.ref A.Below) (.ref A.Below)=some true
 G_:pj K A.Balanced
 GG:PySem.W.kitOne K (.ref A.Balanced) (.ref A.Falling)=some false
 GH:PySem.W.kitOne K (.ref A.Balanced) (.ref A.Pairs)=some false
 GI:PySem.W.kitOne K (.ref A.Balanced) (.ref A.Below)=some false
 Fa:pj K A.Growing
 GJ:PySem.W.kitOne K (.ref A.Growing) (.ref A.Falling)=some false
 GK:PySem.W.kitOne K (.ref A.Growing) (.ref A.Pairs)=some false
 GL:PySem.W.kitOne K (.ref A.Growing) (.ref A.Below)=some false
 GX:pj K A.Falling
 Gv:PySem.W.kitOne K (.ref A.Falling) (.ref A.Falling)=some true
 GM:PySem.W.kitOne K (.ref A.Falling) (.ref A.Pairs)=some false
 GN:PySem.W.kitOne K (.ref A.Falling) (.ref A.Below)=some false
 Fb:pj K A.Pairs
 GO:PySem.W.kitOne K (.ref A.Pairs) (.ref A.Falling)=some false
 GP:PySem.W.kitOne K (.ref A.Pairs) (.ref A.Pairs)=some true
 GQ:PySem.W.kitOne K (.ref A.Pairs) (.ref A.Below)=some false
def Adr.at(A:Adr):Kd→Addr
 | .plain=>A.Plain|.below=>A.Below|.balanced=>A.Balanced|.growing=>A.Growing|.falling=>A.Falling|.pairs=>A.Pairs
def zJ(A:Adr)(k:Kd)(n:Int):Dt:=.way (A.at k) k.fld n
def vx(A:Adr)(k:Kd)(g:Int→Int→Int):DSp:=fun ds Q=>∃n p,ds=[zJ A k n,.int p]∧k.ok n∧Q (.int (g n p))
def vf(A:Adr)(k:Kd)(g:Int→Int→Nm):DSp:=fun ds Q=>∃n p,ds=[zJ A k n,.int p]∧k.ok n∧Q (g n p).dt
def Tn:DSp:=fun ds Q=>∃o p,ds=[o,p]∧Q (.int 0)
def Lq:DSp:=fun ds Q=>∃o,ds=[o]∧Q (.int 0)
def Lp:DSp:=fun ds Q=>∃o,ds=[o]∧Q (.tup [.int 0,.int 0])
def Wh(k:Kd):DSp:=fun ds Q=>∃o,ds=[o]∧Q k.zero.dt
def HU(A:Adr):DSp:=fun ds Q=>∃k n m,ds=[zJ A k n,.int m]∧k.five=true∧k.ok n∧0≤m∧m≤1000∧Q (.lst (wts k n m.toNat))
def Lo(A:Adr):DSp:=fun ds Q=>∃n m,ds=[zJ A .falling n,.int m]∧Kd.falling.ok n∧0≤m∧m≤1000∧Q (.lst (wts .falling n m.toNat))
def Yv(A:Adr)(k:Kd):DSp:=fun ds Q=>∃n m,ds=[zJ A k n,.int m]∧k.ok n∧0≤m∧m≤1000∧Q (.lst (wts k n m.toNat))
def uU{K:Bq}{mg:be}{A:Adr}(T:Txt K mg A)(k:Kd):pj K (A.at k):=by
 cases k
 ·exact T.G8
 ·exact T.G9
 ·exact T.G_
 ·exact T.Fa
 ·exact T.GX
 ·exact T.Fb
def kiF{K:Bq}{mg:be}{A:Adr}(T:Txt K mg A)(k:Kd):PySem.W.kitOne K (.ref (A.at k)) (.ref A.Falling)=some k.isF:=by
 cases k
 ·exact T.GA
 ·exact T.GD
 ·exact T.GG
 ·exact T.GJ
 ·exact T.Gv
 ·exact T.GO
def YJ(A:Adr):DSp:=fun ds Q=>∃k n r,ds=[zJ A k n,zy r]∧k.ok n∧r.length≤1000∧Q (.bl (iG k n r))
def du(A:Adr):DSp:=fun ds Q=>∃k n r,ds=[zJ A k n,zy r]∧k.ok n∧r.length≤1000∧∀b:Bool,(b=true↔∀p,p<r.length→k.low n p≤r.getD p 0∧r.getD p 0≤k.high n p)→Q (.bl b)
def cY(A:Adr):DSp:=fun ds Q=>∃n r,ds=[zJ A .falling n,zy r]∧Kd.falling.ok n∧r.length≤1000∧∀b:Bool,(b=true↔∀p,p+1<r.length→r.getD (p+1) 0=n→r.getD p 0=0)→Q (.bl b)
def Vz(k:Kd):(("low":Str)==k.fld)=false:=by cases k<;>decide +kernel
def Z2(k:Kd):(("high":Str)==k.fld)=false:=by cases k<;>decide +kernel
def Yy(A:Adr):DSp:=fun ds Q=>∃k n t j,ds=[zJ A k n,.int t,.int ((j:Nat):Int)]∧k.four=true∧k.ok n∧j≤100000∧Q (.tup [.int (sF k n j (.i t)),(sC k n j (.i t)).dt])
def Yz(A:Adr):DSp:=fun ds Q=>∃n d m j,ds=[zJ A .pairs n,d,.int ((j:Nat):Int)]∧o_ d=some m∧Kd.pairs.ok n∧Q (.tup [.int (sF .pairs n j m),(sC .pairs n j m).dt])
def cS(A:Adr)(k:Kd):DSp:=fun ds Q=>∃n m j,ds=[zJ A k n,Nm.dt m,.int ((j:Nat):Int)]∧m.ty k∧k.ok n∧j≤100000∧Q (.tup [.int (sF k n j m),(sC k n j m).dt])
def XV(k:Kd):(("split":Str)==k.fld)=false:=by cases k<;>decide +kernel
def kY(k:Kd):(("ratio":Str)==k.fld)=false:=by cases k<;>decide +kernel
def rE(k:Kd):(("nought":Str)==k.fld)=false:=by cases k<;>decide +kernel
def VA(k:Kd):(("has":Str)==k.fld)=false:=by cases k<;>decide +kernel
def lq(k:Kd):(("weights":Str)==k.fld)=false:=by cases k<;>decide +kernel
def Lu(A:Adr):DSp:=fun ds Q=>∃k n ts J,ds=[zJ A k n,pq ts]∧k.five=true∧k.ok n∧(∀t∈ts,tot k t)∧Fin k n ts J∧J≤50000∧Q (.tup [zy (vt k n ts J),.lst (gd k n ts (J+1))])
def qU(A:Adr):DSp:=fun ds Q=>∃k n ts J,ds=[zJ A k n,pq ts]∧k.five=true∧k.ok n∧(∀t∈ts,tot k t)∧Fin k n ts J∧J≤50000∧Q (zy (pr k n ts J))
def jq(A:Adr):DSp:=fun ds Q=>∃k n ns,ds=[zJ A k n,zy ns]∧k.ok n∧ns.length≤1000∧bdR ns∧Q (zj k n ns).dt
def VJ(A:Adr):DSp:=fun ds Q=>∃n m,ds=[zJ A .falling n,.int m]∧Kd.falling.ok n∧0≤m∧Builtin.Int.intBits m≤500∧Q (zy (nw n m))
def qT(A:Adr):DSp:=fun ds Q=>∃k n m r,ds=[zJ A k n,Nm.dt m]∧k.ok n∧yI k m=true∧Wr k n m r∧Q (zy r)
def VO(A:Adr):DSp:=fun ds Q=>∃n s,ds=[zJ A .falling n,xK s]∧Kd.falling.ok n∧(s.1=true→0<s.2)∧Q (.lst ((chg n s).map chD))
def gA(A:Adr):DSp:=fun ds Q=>∃n l,∃p:Nat,ds=[zJ A .falling n,zy l,.int p]∧Kd.falling.ok n∧p<l.length∧Q (Sb (y8 n (hf l) p))
def cV(A:Adr):DSp:=fun ds Q=>∃n l s,ds=[zJ A .falling n,zy l,xK s]∧Kd.falling.ok n∧s.2<l.length∧Can n s (hf l)∧∀m:Int,1≤m→Oft n s (hf l) m→Q (.int m)
def Lw(A:Adr):ASp:=fun d0 es0 ds Q=>∃n l s m,d0=zJ A .falling n∧es0=l.map Dt.int∧ds=[xK s,.int m]∧Kd.falling.ok n∧(s.1=true→0<s.2)∧s.2≤5000∧∀l',l'.length=max l.length (s.2+2)→(∀i,hf l' i=hf l i+m*dlt n s i)→Q (l'.map Dt.int)
def c6(A:Adr):DSp:=fun ds Q=>∃n h,ds=[zJ A .falling n,zy h]∧(∀z∈h,0≤z)∧Q .non
def YB(A:Adr):DSp:=fun ds Q=>∃n h,ds=[zJ A .falling n,zy h]∧Kd.falling.ok n∧h.length≤1000∧(∀z∈h,0≤z)∧pot n h≤15000000∧∀ss r,Lz n h ss r→Q (.tup [.lst (ss.map xK),zy r])
def lH(A:Adr):DSp:=fun ds Q=>∃n h,ds=[zJ A .falling n,zy h]∧Kd.falling.ok n∧h.length≤1000∧(∀z∈h,0≤z)∧pot n h≤15000000∧∀ss r,Lz n h ss r→Q (zy r)
def sU(A:Adr):DSp:=fun ds Q=>∃k n,∃rs:List (List Int),ds=[zJ A k n,.lst (rs.map zy)]∧k.ok n∧(∀r∈rs,Legal k n r∧r.length≤1000)∧Q .non
def tm(A:Adr):DSp:=fun ds Q=>∃k n ts b,ds=[zJ A k n,pq ts]∧k.ok n∧ts.length≤900∧(∀t∈ts,tot k t)∧(∀t∈ts,t.re.natAbs≤2^b∧t.im.natAbs≤2^b)∧7≤b∧b≤1000∧(qw k→0≤(yp k n ts).re)∧(k=.falling→∃h,ts=h.map Nm.i∧(∀z∈h,0≤z)∧pot n h≤15000000)∧∀r,Legal k n r→zj k n r=yp k n ts→r.length≤ts.length+4*b+60→Q (zy r)
def rO:DSp:=fun ds Q=>∃a b,ds=[pq a,pq b]∧a.length≤1000∧b.length≤1000∧Q (pq (vb a b))
def YE(A:Adr):DSp:=fun ds Q=>∃k n a b,ds=[zJ A k n,zy a,zy b]∧k.ok n∧Legal k n a∧Legal k n b∧(a.length≤700∧(k=.falling→a.length≤200))∧(b.length≤700∧(k=.falling→b.length≤200))∧∀r,Legal k n r→zj k n r=(zj k n a).add (zj k n b)→r.length≤900→Q (zy r)
def rN:DSp:=fun ds Q=>∃a f,ds=[zy a,Nm.dt f]∧a.length≤1000∧(-1000000≤f.re∧f.re≤1000000∧-1000000≤f.im∧f.im≤1000000)∧Q (pq (xj a f))
def gx(A:Adr):DSp:=fun ds Q=>∃k n a b,ds=[zJ A k n,zy a,zy b]∧k.five=true∧k.ok n∧Legal k n a∧Legal k n b∧few k a.length b.length∧∀r,Legal k n r→zj k n r=(zj k n a).mul (zj k n b)→r.length≤870→Q (zy r)
def gz(A:Adr):DSp:=fun ds Q=>∃n a b,ds=[zJ A .falling n,zy a,zy b]∧Kd.falling.ok n∧Legal .falling n a∧Legal .falling n b∧a.length+b.length≤100∧∀r,Legal .falling n r→hw n r=hw n a*hw n b→r.length≤110→Q (zy r)
def cQ(A:Adr):DSp:=fun ds Q=>∃k n a b,ds=[zJ A k n,zy a,zy b]∧k.ok n∧Legal k n a∧Legal k n b∧few k a.length b.length∧∀r,Legal k n r→zj k n r=(zj k n a).mul (zj k n b)→r.length≤870→Q (zy r)
def oA{A:Adr}{ds:List Dt}{Q:Dt→Prop}(h:tm A ds Q):tm A ds Q:=h
def gG(A:Adr):DSp:=fun ds Q=>∃k n a b,ds=[zJ A k n,zy a,zy b]∧k.ok n∧Legal k n a∧Legal k n b∧(a.length≤700∧(k=.falling→a.length≤200))∧(b.length≤700∧(k=.falling→b.length≤200))∧(iB k→(zj k n b).re≤(zj k n a).re)∧∀r,Legal k n r→zj k n r=(zj k n a).add ((zj k n b).mul (.i (-1)))→r.length≤900→Q (zy r)
def gK:DSp:=fun ds Q=>∃r,∃p:Nat,ds=[zy r,.int p]∧r.length≤1000∧p≤1000∧¬(∀i,p<i→hf r i≤0)∧∀l:Nat,p<l→l<r.length→(∀i,p<i→i<l→hf r i≤0)→0<hf r l→Q (.int l)
def YI(A:Adr):ASp:=fun d0 es0 ds Q=>∃n r,∃l:Nat,d0=zJ A .falling n∧es0=r.map Dt.int∧ds=[.int l]∧Kd.falling.ok n∧1≤l∧l<r.length∧r.length≤1000∧∀r',r'.length=r.length→(∀i,hf r' i=hf r i+xh (lnd n l) i)→Q (r'.map Dt.int)
def VI(A:Adr):DSp:=fun ds Q=>∃n r o,ds=[zJ A .falling n,zy r]∧Kd.falling.ok n∧r.length≤1000∧(∀i,-n≤hf r i∧hf r i≤n)∧(∀i,hf r i≤o i)∧(∀p,p<r.length→sm (wf n) o p<wf n p)∧0≤hw n r∧∀r',r'.length=r.length→hw n r'=hw n r→(∀z∈r',0≤z∧z≤n+1)→Q (zy r')
def kiP{K:Bq}{mg:be}{A:Adr}(T:Txt K mg A)(k:Kd):PySem.W.kitOne K (.ref (A.at k)) (.ref A.Pairs)=some (match k with|.pairs=>true|_=>false):=by
 cases k
 ·exact T.GB
 ·exact T.GE
 ·exact T.GH
 ·exact T.GK
 ·exact T.GM
 ·exact T.GP
def YC(A:Adr):DSp:=fun ds Q=>∃k n r m,ds=[zJ A k n,zy r,.int m]∧k.four=true∧gM k n r m∧∀qs e,Quo k n r m qs e→Q (.tup [zy qs,.int e])
def YD(A:Adr):DSp:=fun ds Q=>∃n r m,ds=[zJ A .falling n,zy r,.int m]∧gM .falling n r m∧∀qs e,Quo .falling n r m qs e→Q (.tup [zy qs,.int e])
def VL(A:Adr):DSp:=fun ds Q=>∃k n r m,ds=[zJ A k n,zy r,.int m]∧k≠.pairs∧gM k n r m∧∀qs e,Quo k n r m qs e→Q (.tup [zy qs,.int e])
def gC(A:Adr):DSp:=fun ds Q=>∃k n r m,ds=[zJ A k n,zy r,.int m]∧k≠.pairs∧gM k n r m∧∀s e,Legal k n s→s.length≤700→0≤e→e<m→(zj k n r).re=m*(zj k n s).re+e→Q (.tup [zy s,.int e])
def Yx(A:Adr):DSp:=fun ds Q=>∃k n m,ds=[zJ A k n,Nm.dt m]∧Q (rW k m).dt
def cX(A:Adr):DSp:=fun ds Q=>∃k n r k2 n2 r2,ds=[zJ A k n,zy r,zJ A k2 n2]∧k.ok n∧k2.ok n2∧Legal k n r∧r.length≤1000∧yI k2 (rW k2 (zj k n r))=true∧Wr k2 n2 (rW k2 (zj k n r)) r2∧Q (zy r2)
def nN(A:Adr):DSp:=fun ds Q=>∃k n r,ds=[zJ A k n,.str (rsh r)]∧Kd.ok k n∧Legal k n r∧r.length≤900∧Q (zy r)
def cP(A:Adr):DSp:=fun ds Q=>∃k n,ds=[.str (Kd.nam k),.int n]∧k.ok n∧Q (zJ A k n)
def jr(A:Adr):DSp:=fun ds Q=>∃k n,ds=[.str (wnm k n)]∧k.ok n∧Q (zJ A k n)
def cU(A:Adr):DSp:=fun ds Q=>∃k n r s,ds=[zJ A k n,zy r,zy s]∧k≠.pairs∧k.ok n∧Legal k n r∧Legal k n s∧r.length≤1000∧s.length≤1000∧Q (.int (sg (zj k n r).re (zj k n s).re))
def kiB{K:Bq}{mg:be}{A:Adr}(T:Txt K mg A)(k:Kd):PySem.W.kitOne K (.ref (A.at k)) (.ref A.Below)=some (match k with|.below=>true|_=>false):=by
 cases k
 ·exact T.GC
 ·exact T.GF
 ·exact T.GI
 ·exact T.GL
 ·exact T.GN
 ·exact T.GQ
def cR(A:Adr):DSp:=fun ds Q=>∃k n a m,ds=[zJ A k n,zy a,.int m]∧k≠.pairs∧gM k n a m∧m.natAbs<10^60∧g8 k n a m Q
def cT(A:Adr):DSp:=fun ds Q=>∃k n a b,ds=[zJ A k n,zy a,zy b]∧k≠.pairs∧k.ok n∧Legal k n a∧Legal k n b∧a.length≤1000∧b.length≤1000∧Q (.str (fM (sg (zj k n a).re (zj k n b).re)))
def gE(A:Adr):DSp:=fun ds Q=>∃o k n a b,ds=[.str (Op.nam o),zJ A k n,zy a,zy b]∧k.ok n∧Legal k n a∧Legal k n b∧okL k a∧okL k b∧o.pre k n a b∧o.ans k n a b Q
def gv(A:Adr):DSp:=fun ds Q=>∃k n a ws,ds=[.lst (ws.map Dt.str),zJ A k n,zy a]∧k.ok n∧Legal k n a∧okL k a∧uR (zj k n a)∧WA k n a ws Q
def wM:DSp:=fun ds Q=>∃k n ws,ds=[.str (Txt.join " " ws)]∧(Txt.join (" ":Str) ws).length≤20000∧k.ok n∧((∃m,ws=[("write":Str),wnm k n,tZ m]∧yI k m=true∧uR m∧told k n m Q)∨(∃a w rs,ws=w::wnm k n::rsh a::rs∧Legal k n a∧okL k a∧uR (zj k n a)∧WA k n a ws Q))
def dX{o:Op}{k:Kd}{n:Int}{a b:List Int}{Q:Dt→Prop}(ha:Rd k n a)(hb:Rd k n b)(hp:o.pre k n a b)(q:o.ans k n a b Q):wM [.str (Txt.join " " [o.nam,wnm k n,rsh a,rsh b])] Q:=by
 have h1:=Zo o
 have h2:=yH ha.ok
 have h3:=ha.tx
 have h4:=hb.tx
 exact⟨k,n,_,rfl,(nj (by omega) (by omega) (by omega) (by omega)).1,ha.ok,.inr ⟨a,_,_,rfl,ha.leg,ha.okl,ha.lt,.inr (.inr (.inr ⟨o,b,_,_,rfl,hb.leg,hb.okl,hp,q⟩))⟩⟩
def bq{k k2:Kd}{n n2:Int}{a:List Int}{Q:Dt→Prop}(ha:Rd k n a)(h2:k2.ok n2)(hh:yI k2 (rW k2 (zj k n a))=true)(q:told k2 n2 (rW k2 (zj k n a)) Q):wM [.str (Txt.join " " [("move":Str),wnm k n,rsh a,wnm k2 n2])] Q:=by
 have h1:(("move":Str)).length=4:=by decide +kernel
 have e2:=yH ha.ok
 have h3:=ha.tx
 have h4:=yH h2
 exact⟨k,n,_,rfl,(nj (by omega) (by omega) (by omega) (by omega)).1,ha.ok,.inr ⟨a,_,_,rfl,ha.leg,ha.okl,ha.lt,.inr (.inr (.inl ⟨_,_,k2,n2,rfl,h2,hh,q⟩))⟩⟩
def fA{k:Kd}{n:Int}{a:List Int}{m:Int}{Q:Dt→Prop}(ha:Rd k n a)(hk:k≠.pairs)(m1:1≤m)(hm:m.natAbs<10^60)(q:g8 k n a m Q):wM [.str (Txt.join " " [("share":Str),wnm k n,rsh a,shw m])] Q:=by
 have h1:(("share":Str)).length=5:=by decide +kernel
 have e2:=yH ha.ok
 have h3:=ha.tx
 have h4:=zT (k:=60) m (by decide) hm
 exact⟨k,n,_,rfl,(nj (by omega) (by omega) (by omega) (by omega)).1,ha.ok,.inr ⟨a,_,_,rfl,ha.leg,ha.okl,ha.lt,.inr (.inl ⟨_,_,m,rfl,hk,m1,hm,q⟩)⟩⟩
def fw{k:Kd}{n:Int}{a:List Int}{Q:Dt→Prop}(ha:Rd k n a)(q:Q (.str (tZ (zj k n a)))):wM [.str (Txt.join " " [("worth":Str),wnm k n,rsh a])] Q:=by
 have h1:(("worth":Str)).length=5:=by decide +kernel
 have e2:=yH ha.ok
 have h3:=ha.tx
 exact⟨k,n,_,rfl,(Vo (by omega) (by omega) (by omega)).1,ha.ok,.inr ⟨a,_,_,rfl,ha.leg,ha.okl,ha.lt,.inl ⟨_,_,rfl,q⟩⟩⟩
def fv{k:Kd}{n:Int}{m:Nm}{Q:Dt→Prop}(hn:k.ok n)(hm:yI k m=true)(h6:uR m)(q:told k n m Q):wM [.str (Txt.join " " [("write":Str),wnm k n,tZ m])] Q:=by
 have h1:(("write":Str)).length=5:=by decide +kernel
 have e2:=yH hn
 have h3:=oJ h6
 exact⟨k,n,_,rfl,(Vo (by omega) (by omega) (by omega)).1,hn,.inl ⟨m,rfl,hm,h6,q⟩⟩
def nb{k:Kd}(h:iB k):k=.plain∨k=.growing∨k=.falling:=by
 rcases h with (h|h)|h
 ·exact .inl h
 ·exact .inr (.inl h)
 ·exact .inr (.inr h)
section
variable{P:Program}{w:World}{K:Bq}{mg:be}{base:Heap}{f:Addr}{fd:FuncData}{A:Adr}
abbrev qg:Stmt:=top 94
def sc_law_way:zk ["_law_cell","_law_kind","_law_number_here"] ["_law_cell"] (defScope qg):=by walk_at "sc"
def fU(T:Txt K mg A)(F:Fun K "_law_way" "_law_way" qg f fd):FnOk P w K mg base CX0 1 f fd ["_law_cell"] (zw K (Yw)):=by
 refine okD F sc_law_way (by walk_at "ln") fun _ _ _ _ _ _ hr ds Q h=>?_
 obtain⟨c,rfl,q⟩:=h
 refine⟨_,(ze (zq (i:=1) sc_law_way.nd rfl (Or.inl rfl) (zi z8 (dv 0) zd))
 (ze (zq (i:=2) sc_law_way.nd rfl (Or.inl rfl) (zi yF (dv 0) zd))
 (ze (zx (zp (uO) (dv 1) zd (zo _)) (zf (zl (zF (za (zr (z9 (za zt (za zt zg))) (dv 1) (fun _ _=>rfl)) (za (zi zK zd (zi z8 (dv 2) zd)) zg))))) zm)
 (ze (zx (zp (wC hr) (dv 1) zd (zo _)) (zf (zl (zF (za zt (za (zi zK zd (zi z8 (dv 2) zd)) zg))))) zm)
 (ze (zx (zp (wC hr) (dv 1) zd (zo _)) (zf (zl (zF (za zt (za (zi zK zd (zi z8 (dv 2) zd)) zg))))) zm)
 (zf (zl (zF (za (zr (z9 (za zt (za zt zg))) (zi zN (dv 1) zd) (fun _ _=>rfl)) (za (zi zK zd (zi z8 (dv 2) zd)) zg)))))))))),?_⟩
 have a0:=Bz c (show(0:Int)<6 by decide)
 have a1:=BF c (show(0:Int)<6 by decide)
 have b0:=Bz (c.fdiv 6) (show(0:Int)<59 by decide)
 have b1:=BF (c.fdiv 6) (show(0:Int)<59 by decide)
 have c0:=Bz (c.fdiv 6) (show(0:Int)<30 by decide)
 have c1:=BF (c.fdiv 6) (show(0:Int)<30 by decide)
 have d0:=Bz (c.fdiv 6) (show(0:Int)<9 by decide)
 have d1:=BF (c.fdiv 6) (show(0:Int)<9 by decide)
 refine⟨_,rfl,_,_,rfl,rfl,uj (by decide),?_⟩
 dsimp only
 generalize c.fmod 6=j at *
 rcases(by omega:j=0∨j=1∨j=2∨j=3∨j=4∨j=5) with rfl|rfl|rfl|rfl|rfl|rfl
 all_goals repeat(first|(walk_at "rd1")|refine⟨_,_,_,rfl,rfl,rfl,?_⟩)
 ·exact q .plain _ ⟨by show(2:Int)≤2+_;omega,by show 2+_≤(60:Int);omega⟩
 ·exact q .below _ ⟨by show(2:Int)≤2+_;omega,by show 2+_≤(60:Int);omega⟩
 ·exact q .balanced _ ⟨by show(1:Int)≤1+_;omega,by show 1+_≤(30:Int);omega⟩
 ·exact q .growing _ ⟨by show(2:Int)≤2+_;omega,by show 2+_≤(60:Int);omega⟩
 ·exact q .falling _ ⟨by show(1:Int)≤1+_;omega,by show 1+_≤(9:Int);omega⟩
 ·exact q .pairs _ ⟨by show(1:Int)≤1+_;omega,by show 1+_≤(9:Int);omega⟩
abbrev qi:Stmt:=top 95
def fh:zk ["_law_way_here"] ["_law_way_here"] (defScope qi):=by walk_at "sc"
def fW(T:Txt K mg A)(F:Fun K "_law_low" "_law_low" qi f fd):FnOk P w K mg base CX0 1 f fd ["_law_way_here"] (zw K (dr)):=by
 refine okD F fh (by walk_at "ln") fun _ _ _ _ _ _ hr ds Q h=>?_
 obtain⟨k,n,rfl,q⟩:=h
 refine⟨_,(ze (zx (zp (zW) (zr (dv 0) zd (fun _ _=>rfl)) zt (zo _)) (zf (zl (zi zN zd (zr (dv 0) zd (fun _ _=>rfl))))) zm)
 (zf (zl zd))),?_⟩
 have e0:(0:Int)-n=-n:=by omega
 cases k
 all_goals
  walk_at "rd"
  first
  | exact q
  | (dsimp only;rw[e0];exact q)
abbrev sw:Stmt:=top 96
def jR:zk ["_law_way_here","_law_place"] ["_law_way_here","_law_place"] (defScope sw):=by walk_at "sc"
def ik(T:Txt K mg A)(F:Fun K "_law_high" "_law_high" sw f fd):FnOk P w K mg base CX0 1 f fd ["_law_way_here","_law_place"] (zw K (jv)):=by
 refine okD F jR (by walk_at "ln") fun _ _ _ _ _ _ hr ds Q h=>?_
 obtain⟨k,n,p,rfl,hn,q⟩:=h
 refine⟨_,(ze (zx (zp ZA (zr (dv 0) zd (fun _ _=>rfl)) (zF (za zt (za zt zg))) (by with_unfolding_all rfl)) (zf (zl (zi zN (zr (dv 0) zd (fun _ _=>rfl)) zd))) zm)
 (ze (zx (zp (zW) (zr (dv 0) zd (fun _ _=>rfl)) zt (zo _)) (zf (zl (zi zN (zi zK (zr (dv 0) zd (fun _ _=>rfl)) (dv 1)) zd))) zm)
 (ze (zx (zp (zW) (zr (dv 0) zd (fun _ _=>rfl)) zt (zo _)) (zf (zl (zi z5 (zr (dv 0) zd (fun _ _=>rfl)) (zr (dv 0) zd (fun _ _=>rfl))))) zm)
 (zf (zl (zr (dv 0) zd (fun _ _=>rfl))))))),?_⟩
 obtain⟨b1,b2⟩:=xq hn
 cases k
 all_goals
  repeat(first|(walk_at "rd1")|refine⟨small (by omega) (by omega) _,?_⟩)
  exact q
abbrev uC:Stmt:=top 97
def sc_law_drawn:zk ["_law_way_here","_law_cells","_law_row","_law_cell","_law_mixed","_law_low_here","_law_high_here","_law_free","_law_figure"] ["_law_way_here","_law_cells"] (defScope uC):=by walk_at "sc"
def kz(T:Txt K mg A)(Au:DOk P w K mg base 1 "_law_low" (dr))(Av:DOk P w K mg base 1 "_law_high" (jv))(F:Fun K "_law_drawn" "_law_drawn" uC f fd):FnOk P w K mg base CX0 2 f fd ["_law_way_here","_law_cells"] (zZ K (c7)):=by
 refine okF F sc_law_drawn (by walk_at "ln") fun _ _ _ _ _ _ hr ds Q h=>?_
 obtain⟨k,n,cs,rfl,hn,hl,q⟩:=h
 refine⟨_,(ze (yc (i:=2) sc_law_drawn.nd rfl (Or.inl rfl) (xg zg))
 (ze (nB (j:=3) rfl sc_law_drawn.nd rfl (Or.inl rfl) PassesOwn.never (dv 1) (ze (zq (i:=4) sc_law_drawn.nd rfl (Or.inl rfl) (zi z8 (zi z5 (dv 3) zd) zd))
 (ze (zq (i:=5) sc_law_drawn.nd rfl (Or.inl rfl) (zh Au (rom hr) rfl (za (dv 0) zg)))
 (ze (zq (i:=6) sc_law_drawn.nd rfl (Or.inl rfl) (zh Av (rom hr) rfl (za (dv 0) (za (ua 2 rfl T.len) zg))))
 (ze (zq (i:=7) sc_law_drawn.nd rfl (Or.inl rfl) (zi zK (dv 5) (zi z8 (zi yF (dv 4) zd) (zi zK (zi zN (dv 6) (dv 5)) zd))))
 (ze (zq (i:=8) sc_law_drawn.nd rfl (Or.inl rfl) (zr (z9 (za (dv 5) (za (dv 6) (za zd (za (dv 7) (za (dv 7) (za (dv 7) (za (dv 7) zg)))))))) (zi z8 (dv 4) zd) (fun _ _=>rfl)))
 (zX (zx (DW.dt (yk (zp (zW) (zr (dv 0) zd (fun _ _=>rfl)) zt (zo _)) (yk (zp (wC hr) (dv 8) (zr (dv 0) zd (fun _ _=>rfl)) (zo _)) (yk (zp (rk) (ua 2 rfl T.len) zd (zo _)) (yo (zp (kF hr) (db 2 (z0 zd) (fun _ _=>rfl)) zd (zo _))))))) (zf (zq (i:=8) sc_law_drawn.nd rfl (Or.inl rfl) (zi zN (zr (dv 0) zd (fun _ _=>rfl)) zd))) zm)
 (zf (xB 2 (dv 8))))))))))
 (ze (xN PassesOwn.never (eW (DW.dt (yk (zp (kF hr) (dv 2) (z9 zg) (zo _)) (yo (zp (wC hr) (zr (dv 2) (z0 zd) (fun _ _=>rfl)) zd (zo _)))))) (zf (Z5 2)))
 (zf (x8 2))))),?_⟩
 have ll:=zH cs
 obtain⟨b1,b2⟩:=xq hn
 walk_at "rd"
 refine⟨_,fun i ρ=>∃(r:List Int)(v3 v4 v5 v6 v7 v8:Sl),ρ=[.some (y7 k n),.some (zy cs),.own (r.map Dt.int),v3,v4,v5,v6,v7,v8]∧r.length=i∧Lg k n r,rfl,⟨[],_,_,_,_,_,_,rfl,rfl,Lg.nil k n⟩,?_,?_⟩
 ·rintro i e ρ' he ⟨r,v3,v4,v5,v6,v7,v8,rfl,hlr,hL⟩
  have he:(cs.map Dt.int)[i]? = some e:=he
  rw[Bx]at he
  obtain⟨c,hc,rfl⟩:=BU.mp he
  have hi:i<cs.length:=(Cd.mp hc).1
  have lr:=zH r
  refine⟨_,rfl,_,_,rfl,rfl,small (by decide) (by decide) _,_,_,rfl,rfl,uj (by decide),?_⟩
  dsimp only
  generalize (c*48271).fmod 2147483647=m
  refine⟨_,rfl,k,n,rfl,?_⟩
  refine⟨_,rfl,_,rfl,k,n,_,rfl,hn,?_⟩
  rw[lr,hlr]
  have el:k.low n 0=k.low n i:=by cases k<;>rfl
  rw[el]
  obtain⟨l1,l2⟩:=eI hn i
  have hp0:(0:Int)<k.high n i-k.low n i+1:=by omega
  have f0:=Bz (m.fdiv 7) hp0
  have f1:=BF (m.fdiv 7) hp0
  obtain⟨g,eg,hg⟩:=bn (m:=m) l1 l2 (f:=k.low n i+(m.fdiv 7).fmod (k.high n i-k.low n i+1)) (by omega) (by omega)
  walk_at "rd"
  refine⟨(by show k.high n i-k.low n i+1≠0;omega),?_⟩
  walk_at "rd"
  refine⟨_,_,_,rfl,rfl,eg,?_⟩
  refine⟨fun ρ=>∃(g':Int)(v3 v4 v5 v6 v7:Sl),ρ=[.some (y7 k n),.some (zy cs),.own (r.map Dt.int),v3,v4,v5,v6,v7,.some (.int g')]∧Lg k n (r++[g']),?_,?_⟩
  ·refine⟨_,rfl,_,_,_,rfl,rfl,rfl,_,_,rfl,rfl,_,rfl,?_⟩
   have hg':k.low n r.length≤g∧g≤k.high n r.length:=by rw[hlr];exact hg
   by_cases hk:k=.falling
   ·subst hk
    refine ifT rfl ?_
    refine⟨_,rfl,_,rfl,_,_,_,rfl,rfl,rfl,rfl,rfl,_,rfl,ifB (fun h1=>?_) (fun h1=>?_)⟩
    rotate_left
    ·exact ifF rfl ⟨g,_,_,_,_,_,rfl,hL.push hg' fun _ e=>absurd (eqI e) (by rw[h1];exact Bw)⟩
    refine⟨_,rfl,_,_,rfl,rfl,_,rfl,?_⟩
    rcases zU r with rfl|⟨r',z,rfl⟩
    ·exact ifF rfl (ifF rfl ⟨g,_,_,_,_,_,rfl,hL.push hg' fun _ _=>.inl rfl⟩)
    ·have ez:(r'++[z]).getD ((r'++[z]).length-1) 0=z:=by rw[List.length_append];simp[List.getD_eq_getElem?_getD]
     refine ifT (by rw[decide_eq_true_iff,List.length_map,List.length_append];simp) ?_
     refine⟨_,rfl,_,rfl,_,_,rfl,atI_last,rfl,rfl,_,rfl,?_⟩
     by_cases hz:z=0
     ·refine ifF (nT (eqI hz)) ?_
      exact⟨g,_,_,_,_,_,rfl,hL.push hg' fun _ _=>.inr (by rw[ez];exact hz)⟩
     ·refine ifT (nF (neI hz)) ?_
      refine⟨_,rfl,_,_,_,rfl,rfl,rfl,_,_,rfl,rfl,n-1,_,_,_,_,_,rfl,hL.push ⟨?_,?_⟩ fun _ e=>?_⟩
      ·show(0:Int)≤n-1
       have:(1:Int)≤n:=hn.1
       omega
      ·show n-1≤n
       omega
      ·omega
   ·refine ifF (by cases k<;>first|rfl|exact absurd rfl hk) (ifF rfl ⟨g,_,_,_,_,_,rfl,hL.push hg' fun hf=>absurd (by cases k<;>first|rfl|cases hf) hk⟩)
  ·rintro ρ ⟨g',w3,w4,w5,w6,w7,rfl,hL'⟩
   refine⟨_,rfl,_,rfl,by rw[zH];omega,r++[g'],w3,w4,w5,w6,w7,.some (.int g'),?_,by rw[Bv,hlr];rfl,hL'⟩
   rw[←vw]
   rfl
 ·rintro ρ' ⟨r,v3,v4,v5,v6,v7,v8,rfl,hl0,hL⟩
  refine jB rfl ?_
  have:=wb r
  exact⟨_,rfl,q _ hL.trim (by omega)⟩
abbrev vK:Stmt:=top 104
def sc_law_some:zk ["_law_way_here","_law_cell","_law_salt","_law_size"] ["_law_way_here","_law_cell","_law_salt"] (defScope vK):=by walk_at "sc"
def ii(T:Txt K mg A)(AH:FOk P w K mg base 2 "_law_drawn" (c7))(F:Fun K "_law_some" "_law_some" vK f fd):FnOk P w K mg base CX0 3 f fd ["_law_way_here","_law_cell","_law_salt"] (zZ K (YA)):=by
 refine okF F sc_law_some (by walk_at "ln") fun _ _ _ _ _ _ hr ds Q h=>?_
 obtain⟨k,n,c,s,rfl,hn,s1,s2,q⟩:=h
 refine⟨_,(ze (zq (i:=3) sc_law_some.nd rfl (Or.inl rfl) (zi z8 (zi z8 (zi z5 (dv 1) zd) zd) zd))
 (zf (yx (zM AH (rom hr) rfl (za (dv 0) (za (DF.de (VG (u6 (osc:=defScope vK) (N0:=["_law_way_here","_law_cell","_law_salt","_law_size"]) (bs:=["_law_k"]) (caps:=["_law_cell","_law_salt"]) (js:=[1,2]) rfl (by decide +kernel) rfl rfl rfl (hG rfl T.range (dv 3)) (fun _ _ _ _ _=>(yf (i:=0) (show List.Nodup [("_law_k":Str),("_law_cell":Str),("_law_salt":Str)] by decide +kernel) rfl (Or.inl (lookup_relabel_local rfl)) (.inl rfl))) vX (fun _ _ _ _ _=>sQ) (fun _ _ _ _ _=>(zi zK (zi yF (dv 1) (zi zK (dv 0) zd)) (zi z5 (dv 2) (zi zK (dv 0) zd))))))) zg)))))),?_⟩
 have a0:=Bz ((c*16807).fmod 2147483587) (show(0:Int)<10 by decide)
 have a1:=BF ((c*16807).fmod 2147483587) (show(0:Int)<10 by decide)
 walk_at "rd"
 refine⟨_,fun i es=>∃cs:List Int,es=cs.map Dt.int∧cs.length=i,rfl,CN (by decide) a0,by omega,⟨[],rfl,rfl⟩,?_,?_⟩
 ·rintro i es hi ⟨cs,rfl,hl⟩
  have hi:(i:Int)<10:=by omega
  refine⟨_,rfl,_,rfl,_,_,rfl,rfl,_,_,rfl,rfl,rL ?_,_,rfl,_,rfl,_,_,rfl,rfl,_,_,rfl,rfl,small (by omega) (by omega) _,_,_,rfl,rfl,cs++[_],vw cs _,by rw[Bv,hl];rfl⟩
  rw[BL,bne_iff_ne,decide_eq_true_iff]
  omega
 ·rintro es ⟨cs,rfl,hl⟩
  exact⟨k,n,cs,rfl,hn,by omega,fun r hr hlr=>q r hr (by omega)⟩
abbrev vL:Stmt:=top 105
def sc_law_number:zk ["_law_way_here","_law_cell","_law_number_here"] ["_law_way_here","_law_cell"] (defScope vL):=by walk_at "sc"
def mh(T:Txt K mg A)(F:Fun K "_law_number" "_law_number" vL f fd):FnOk P w K mg base CX0 1 f fd ["_law_way_here","_law_cell"] (zw K (VM)):=by
 refine okD F sc_law_number (by walk_at "ln") fun _ _ _ _ _ _ hr ds Q h=>?_
 obtain⟨k,n,c,rfl,q⟩:=h
 refine⟨_,(ze (zq (i:=2) sc_law_number.nd rfl (Or.inl rfl) (zi z8 (dv 1) (zi qY zd zd)))
 (ze (zx (zp (zW) (zr (dv 0) zd (fun _ _=>rfl)) zt (zo _)) (zf (zl (zF (za (zi z5 (dv 2) (zi zN zd (zi z5 zd (zi z8 (dv 1) zd)))) (za (zi zN (zi z8 (zi oj (dv 1) zd) (zi qY zd zd)) (zi qY zd zd)) zg))))) zm)
 (ze (zx (zp ZA (zr (dv 0) zd (fun _ _=>rfl)) (zF (za zt (za zt zg))) (by with_unfolding_all rfl)) (zf (zl (zi z5 (dv 2) (zi zN zd (zi z5 zd (zi z8 (dv 1) zd)))))) zm)
 (zf (zl (dv 2)))))),?_⟩
 have a0:=Bz c (show(0:Int)<100000000000000000000 by decide)
 have a1:=BF c (show(0:Int)<100000000000000000000 by decide)
 have b0:=Bz c (show(0:Int)<2 by decide)
 have b1:=BF c (show(0:Int)<2 by decide)
 have c0:=Bz (c.fdiv 3) (show(0:Int)<1000000000 by decide)
 have c1:=BF (c.fdiv 3) (show(0:Int)<1000000000 by decide)
 have hs:=V3 a0 a1 (s:=1-2*c.fmod 2) (by omega)
 have z6:(0:Int).natAbs<10^60:=by decide
 walk_at "rd"
 dsimp only
 rw[p20]
 by_cases hk:k=.pairs
 ·subst hk
  refine ifT rfl ?_
  refine⟨_,rfl,_,rfl,_,_,rfl,rfl,uj (by decide),_,_,rfl,rfl,small (by omega) (by omega) _,_,_,rfl,rfl,_,_,rfl,rfl,small (by omega) (by omega) _,_,rfl,_,_,rfl,rfl,cK (by decide) (by decide),_,_,rfl,rfl,ge (by decide),_,_,rfl,rfl,uj (by decide),_,_,rfl,rfl,ge (by decide),_,_,rfl,rfl,rfl,?_⟩
  dsimp only
  rw[p9,p8]
  exact q (.p _ _) rfl ⟨hs,by show(_-_:Int).natAbs<10^60;omega⟩
 ·refine ifF (by cases k<;>first|rfl|exact absurd rfl hk) ?_
  refine⟨_,rfl,_,_,_,rfl,rfl,rfl,rfl,_,_,_,rfl,rfl,rfl,_,rfl,ifB (fun h=>?_) (fun h=>?_)⟩
  ·refine⟨_,rfl,_,rfl,_,_,rfl,rfl,uj (by decide),_,_,rfl,rfl,small (by omega) (by omega) _,_,_,rfl,rfl,_,_,rfl,rfl,small (by omega) (by omega) _,?_⟩
   exact q (.i _) (by cases k<;>first|rfl|cases h|exact absurd rfl hk) ⟨hs,z6⟩
  ·exact⟨_,rfl,q (.i _) (by cases k<;>first|rfl|exact absurd rfl hk|exact decide_eq_true a0) ⟨by show(Int.fmod _ _).natAbs<10^60;omega,z6⟩⟩
abbrev wm:Stmt:=top 102
def sc_law_whole_of:zk ["_law_text","_law_figures","_law_sign"] ["_law_text"] (defScope wm):=by walk_at "sc"
def pO(T:Txt K mg A)(F:Fun K "_law_whole_of" "_law_whole_of" wm f fd):FnOk P w K mg base CX0 1 f fd ["_law_text"] (zw K (nQ)):=by
 refine okD F sc_law_whole_of (by walk_at "ln") fun _ _ _ _ _ _ hr ds Q h=>?_
 obtain⟨z,rfl,hz,q⟩:=h
 refine⟨_,(ze (zq (i:=1) sc_law_whole_of.nd rfl (Or.inl rfl) (dv 0))
 (zX (zx (zp (zW) (tL (dv 0) rH (rG zd)) zt (zo _)) (zf (zq (i:=1) sc_law_whole_of.nd rfl (Or.inl rfl) (tL (dv 0) (rG zd) rH))) zm)
 (ze (zx (yV (nA (Zz) (Zz) zd (jd rfl T.len (dv 1)) zd)) (zf (zl u8)) zm)
 (ze (cx (j:=2) rfl sc_law_whole_of.nd rfl (Or.inl rfl) PassesOwn.never (dv 1) (zf (zx (zp iq (dv 2) zt (by with_unfolding_all rfl)) (zf (zl u8)) zm)))
 (zX (zx (DW.dt (yk (zp (zW) (Yi (dv 1) zd) zt (zo _)) (yo (zp (Zy) (dv 0) zt (zo _))))) (zf (zl u8)) zm)
 (zf (zl (cG rfl T.n_int (dv 0))))))))),?_⟩
 obtain⟨hN,hv,hf⟩:=jL z
 have hx:=vC z
 have hl:=zT (k:=60) z (by decide) hz
 have hd:=jc (by decide:0<60) hz
 generalize shw z=x at *
 have hxl:=yR x
 obtain⟨n1,n2,n3⟩:=(o9 rfl).mp hN
 refine⟨_,rfl,fun ρ=>∃f,ρ=[.some (.str x),.some (.str f),.none]∧tl f=fg x∧asc f,?_,?_⟩
 ·refine⟨_,rfl,_,rfl,_,rfl,by omega,_,_,rfl,rfl,_,rfl,?_⟩
  rw[jK]
  refine ifB (fun h=>?_) (fun h=>⟨x,rfl,by unfold fg;rw[if_neg (of_decide_eq_false h)],hx⟩)
  have h:=of_decide_eq_true h
  have h1:1≤(tl x).length:=by
   cases e:tl x with
   | nil=>rw[e]at h;cases h
   | cons c r=>rw[BM];omega
  exact⟨_,rfl,_,rfl,_,rfl,by omega,_,rfl,by rw[tY (by decide) (by omega)];unfold fg;rw[if_pos h];rfl,lG hx⟩
 rintro ρ ⟨f,rfl,t1,a1⟩
 have hfl:=yR f
 obtain⟨c,r,ec⟩:∃c r,fg x=c::r:=by
  cases e:fg x with
  | nil=>exact absurd e n1
  | cons c r=>exact⟨c,r,rfl⟩
 have f1:1≤f.length:=by rw[←hfl,t1,ec,BM];omega
 have f2:f.length≤60:=by rw[←hfl,t1,hf];exact hd
 refine⟨_,rfl,_,rfl,by omega,_,_,rfl,rfl,_,rfl,ifT (decide_eq_true (by omega)) ?_⟩
 refine⟨_,_,rfl,rfl,_,rfl,ifF (nT (decide_eq_true (by omega))) ?_⟩
 refine⟨_,rfl,f,fun i ρ=>∃v,ρ=[.some (.str x),.some (.str f),v],rfl,cO a1,⟨_,rfl⟩,?_,?_⟩
 ·rintro i c ρ' hc ⟨v,rfl⟩
  have hc':(tl f)[i]? = some c:=by unfold tl;rw[Array.getElem?_toList];exact hc
  refine⟨_,rfl,_,_,rfl,rfl,_,rfl,?_⟩
  rw[cg]
  exact ifF (nT (figB_iff.mpr (n2 c (by rw[←t1];exact BH hc')))) ⟨_,rfl⟩
 rintro ρ' ⟨v,rfl⟩
 refine⟨fun ρ=>ρ=[.some (.str x),.some (.str f),v],?_,?_⟩
 ·refine⟨_,rfl,_,_,c,rfl,rfl,by decide,by decide,by omega,nG (t1.trans ec),_,_,rfl,rfl,_,rfl,?_⟩
  rw[sA]
  refine ifB (fun h=>?_) (fun h=>ifF rfl rfl)
  refine⟨_,rfl,_,_,rfl,rfl,_,rfl,?_⟩
  rw[qJ,decide_eq_true (n3 (by rw[ec,of_decide_eq_true h];rfl))]
  exact ifF rfl rfl
 rintro ρ rfl
 refine⟨_,rfl,x,rfl,hN,?_,?_⟩
 ·show(tl x).length≤640
  omega
 ·rw[←hv]at q;exact q
abbrev xy:Stmt:=top 101
def sc_law_is_writing:zk ["_law_way_here","_law_row","_law_k"] ["_law_way_here","_law_row"] (defScope xy):=by walk_at "sc"
def rh(T:Txt K mg A)(Au:DOk P w K mg base 1 "_law_low" (dr))(Av:DOk P w K mg base 1 "_law_high" (jv))(F:Fun K "_law_is_writing" "_law_is_writing" xy f fd):FnOk P w K mg base CX0 2 f fd ["_law_way_here","_law_row"] (zw K (YH)):=by
 refine okD F sc_law_is_writing (by walk_at "ln") fun _ _ _ _ _ _ hr ds Q h=>?_
 obtain⟨k,n,r,rfl,hn,hl,hL,q⟩:=h
 refine⟨_,(ze (ja (j:=2) rfl sc_law_is_writing.nd rfl (Or.inl rfl) PassesOwn.never rfl T.range (yt rfl T.len (dv 1)) (ze (zx (yV (nA (Zz) (Zz) (zh Au (rom hr) rfl (za (dv 0) zg)) (zr (dv 1) (dv 2) (fun _ _=>rfl)) (zh Av (rom hr) rfl (za (dv 0) (za (dv 2) zg))))) (zf (zl wJ)) zm)
 (zf (zx (DW.dt (yk (zp (zW) (zr (dv 0) zd (fun _ _=>rfl)) zt (zo _)) (yk (zp (wC hr) (zr (dv 1) (dv 2) (fun _ _=>rfl)) (zr (dv 0) zd (fun _ _=>rfl)) (zo _)) (yk (zp (rk) (dv 2) zd (zo _)) (yo (zp (kF hr) (zr (dv 1) (zi zN (dv 2) zd) (fun _ _=>rfl)) zd (zo _))))))) (zf (zl wJ)) zm))))
 (zf (zl (MB (xR (wC hr) (dv 1) (z9 zg) (zo _)) (sP (xR (kF hr) (zr (dv 1) (z0 zd) (fun _ _=>rfl)) zd (zo _))))))),?_⟩
 have ll:=zH r
 walk_at "rd"
 refine⟨_,fun i ρ=>∃v,ρ=[.some (y7 k n),.some (zy r),v],rfl,by omega,by omega,⟨_,rfl⟩,?_,?_⟩
 ·rintro i ρ' hi ⟨v,rfl⟩
  have hi':i<r.length:=by omega
  have el:k.low n 0=k.low n i:=by cases k<;>rfl
  obtain⟨g1,g2⟩:=hL.fig i hi'
  refine⟨_,rfl,k,n,rfl,_,rfl,_,rfl,_,_,_,rfl,rfl,xA hi',_,_,rfl,rfl,_,rfl,?_⟩
  rw[el]
  refine ifT (decide_eq_true g1) ?_
  refine⟨_,rfl,_,rfl,k,n,_,rfl,hn,_,_,rfl,rfl,_,rfl,?_⟩
  refine ifF (nT (decide_eq_true g2)) ?_
  refine⟨_,rfl,_,_,_,rfl,rfl,rfl,_,_,rfl,rfl,_,rfl,?_⟩
  by_cases hk:k=.falling
  ·subst hk
   refine ifT rfl ?_
   refine⟨_,rfl,_,rfl,_,_,_,rfl,rfl,xA hi',_,rfl,_,_,_,rfl,rfl,rfl,rfl,rfl,_,rfl,ifB (fun e1=>?_) (fun e1=>ifF rfl ⟨_,rfl⟩)⟩
   refine⟨_,rfl,_,_,rfl,rfl,_,rfl,ifB (fun e2=>?_) (fun e2=>ifF rfl ⟨_,rfl⟩)⟩
   have e2:(0:Int)<i:=of_decide_eq_true e2
   obtain⟨j,rfl⟩:∃j,i=j+1:=⟨i-1,by omega⟩
   have ej:((j+1:Nat):Int)-1=(j:Int):=by omega
   exact⟨_,rfl,_,rfl,_,_,rfl,rfl,_,_,_,rfl,rfl,(by rw[ej];exact xA (by omega)),rfl,rfl,_,rfl,ifF (nT (eqI (hL.fal rfl j hi' (qD e1)))) ⟨_,rfl⟩⟩
  ·exact ifF (by cases k<;>first|rfl|exact absurd rfl hk) (ifF rfl ⟨_,rfl⟩)
 ·rintro ρ' ⟨v,rfl⟩
  walk_at "rd"
  refine⟨kE _,rfl,_,rfl,?_⟩
  rcases zU r with rfl|⟨l,z,rfl⟩
  ·exact ifT rfl q
  ·have ez:(l++[z]).getD ((l++[z]).length-1) 0=z:=by rw[List.length_append];simp[List.getD_eq_getElem?_getD]
   refine ifF (by cases l<;>rfl) ?_
   refine⟨_,rfl,_,rfl,_,_,_,rfl,rfl,atI_last,rfl,rfl,?_⟩
   have hz:z≠0:=by
    rcases hL.end_ with h|h
    ·simp at h
    ·rw[ez]at h;exact h
   rw[show eqD (.int z) (.int 0)=false from neI hz]
   exact q
abbrev xV:Stmt:=top 103
def sc_law_row_of:zk ["_law_way_here","_law_text","_law_row"] ["_law_way_here","_law_text"] (defScope xV):=by walk_at "sc"
def mf(T:Txt K mg A)(Aw:DOk P w K mg base 1 "_law_whole_of" (nQ))(AI:DOk P w K mg base 2 "_law_is_writing" (YH))(F:Fun K "_law_row_of" "_law_row_of" xV f fd):FnOk P w K mg base CX0 3 f fd ["_law_way_here","_law_text"] (zw K (dq)):=by
 refine okD F sc_law_row_of (by walk_at "ln") fun _ _ _ _ _ _ hr ds Q h=>?_
 obtain⟨k,n,r,rfl,hn,hL,hl,q⟩:=h
 refine⟨_,(ze (zx (yV (zR (ox T.isinstance T.n_str (dv 1)))) (zf (zl u8)) zm)
 (ze (zx (zp (zW) (dv 1) zt (zo _)) (zf (zl (z9 zg))) zm)
 (ze (k_ (i:=2) (L:=0) (osc:=defScope xV) (N0:=["_law_way_here","_law_text","_law_row"]) (bs:=["_law_part"]) (caps:=[]) (js:=[]) rfl (by decide +kernel) rfl rfl rfl sc_law_row_of.nd rfl (Or.inl rfl) (e7 rfl T.n_reversed (za (DF.de (u5 (dv 1) zt)) zg)) (fun _ _ _ _ _=>(yf (i:=0) (show List.Nodup [("_law_part":Str)] by decide +kernel) rfl (Or.inl (lookup_relabel_local rfl)) (.inl rfl))) vX (fun _ _ _ _ _=>sQ) (fun _ _ _ _ _=>(zh Aw (rom hr) rfl (za (dv 0) zg))))
 (zX (zx (DW.dt (uZ (zp Sm u8 (dv 2) (by with_unfolding_all rfl)) (uY (yV (zR (zh AI (rom hr) rfl (za (dv 0) (za (dv 2) zg)))))))) (zf (zl u8)) zm)
 (zf (zl (dv 2))))))),?_⟩
 refine⟨_,rfl,_,rfl,_,rfl,ifF rfl ?_⟩
 refine⟨_,rfl,_,_,rfl,rfl,_,rfl,?_⟩
 rw[oT hn hL hl]
 refine ifB (fun h0=>?_) (fun h0=>?_)
 ·cases of_decide_eq_true h0
  exact⟨rfl,q⟩
 have h0:=of_decide_eq_false h0
 have hs:=yl hn hL.fig hl
 have hsl:=rc hl (by decide) hs
 refine⟨_,rfl,_,rfl,by omega,_,rfl,Z6,?_⟩
 rw[tw h0]
 refine⟨_,_,rfl,rfl,by rw[Bs,Bs,BQ];omega,fun i es=>es=(r.take i).map Dt.int,rfl,?_,?_⟩
 ·rintro i e es hi he rfl
  have he:((r.reverse.map shw).map Dt.str).reverse[i]? = some e:=he
  rw[Cy,←CJ,CV,Bx]at he
  obtain⟨z,hz,rfl⟩:=BU.mp he
  refine⟨_,rfl,each_t (ifT rfl ?_)⟩
  refine⟨_,rfl,z,rfl,n60 (hs z (BH hz)),?_⟩
  show _++[_]=(r.take (i+1)).map Dt.int
  rw[CQ,hz,B3]
  rfl
 ·rintro es rfl
  rw[CT (by rw[Bs,Bs,BQ];exact By _)]
  refine⟨fun ρ=>ρ=[.some (y7 k n),.some (.str (rsh r)),.some (zy r)],?_,?_⟩
  ·have sv:(r.map some).any Option.isNone=false:=by
    rw[List.any_eq_false]
    intro x hx
    obtain⟨z,_,rfl⟩:=BR.mp hx
    exact Bw
   refine⟨_,rfl,_,r.map some,rfl,rfl,by rw[Cy];rfl,_,rfl,?_⟩
   rw[sv]
   refine ifF rfl ?_
   exact⟨_,rfl,_,rfl,k,n,r,rfl,hn,by omega,hL,_,rfl,ifF rfl rfl⟩
  ·rintro ρ rfl
   exact⟨_,rfl,q⟩
abbrev yT:Stmt:=top 99
def sc_law_falling_worth:zk ["_law_most","_law_row","_law_total","_law_weight","_law_behind","_law_figure"] ["_law_most","_law_row"] (defScope yT):=by walk_at "sc"
def uM(T:Txt K mg A)(F:Fun K "_law_falling_worth" "_law_falling_worth" yT f fd):FnOk P w K mg base CX0 1 f fd ["_law_most","_law_row"] (zw K (gL)):=by
 refine okD F sc_law_falling_worth (by walk_at "ln") fun _ _ _ _ _ _ hr ds Q h=>?_
 obtain⟨n,r,rfl,hn,hl,hb,q⟩:=h
 refine⟨_,(ze (zq (i:=2) sc_law_falling_worth.nd rfl (Or.inl rfl) zd)
 (ze (zq (i:=3) sc_law_falling_worth.nd rfl (Or.inl rfl) zd)
 (ze (zq (i:=4) sc_law_falling_worth.nd rfl (Or.inl rfl) zd)
 (ze (nB (j:=5) rfl sc_law_falling_worth.nd rfl (Or.inl rfl) PassesOwn.never (dv 1) (ze (zq (i:=2) sc_law_falling_worth.nd rfl (Or.inl rfl) (zi zK (dv 2) (zi z5 (dv 5) (dv 3))))
 (zf (eY (i:=3) (j:=4) rfl sc_law_falling_worth.nd rfl rfl (by decide) rfl rfl (za (zi zK (zi z5 (dv 0) (dv 3)) (dv 4)) (za (dv 3) zg)) rfl))))
 (zf (zl (dv 2))))))),?_⟩
 obtain⟨b1,b2⟩:=xq hn
 walk_at "rd"
 refine⟨_,fun i ρ=>∃v,ρ=[.some (.int n),.some (zy r),.some (.int (yu .falling n r i).re),.some (.int (wtF n i).2),.some (.int (wtF n i).1),v]∧i≤r.length,rfl,⟨_,rfl,B4 _⟩,?_,?_⟩
 ·rintro i e ρ' he ⟨v,rfl,hi⟩
  obtain⟨rfl,hi'⟩:=ka he
  have hf:=hb (r.getD i 0) (by
   rw[Br,Bu hi']
   exact List.getElem_mem hi')
  have e1:(yu .falling n r (i+1)).re=(yu .falling n r i).re+r.getD i 0*(wtF n i).2:=by
   show((yu .falling n r i).add ((Nm.i (r.getD i 0)).mul (wt .falling n i))).re=_
   rw[zS,zE]
   show _+(r.getD i 0*(wtF n i).2-0*0)=_
   omega
  refine⟨_,rfl,_,rfl,_,rfl,_,_,rfl,rfl,yJ (by omega) (by omega) _,_,_,rfl,rfl,?_⟩
  refine⟨_,rfl,_,rfl,_,_,rfl,rfl,yJ (by omega) (by omega) _,_,rfl,_,_,rfl,rfl,_,rfl,_,_,rfl,.some (.int (r.getD i 0)),?_,hi'⟩
  rw[e1]
  rfl
 ·rintro ρ' ⟨v,rfl,hi⟩
  rw[zH]
  exact⟨_,rfl,q⟩
abbrev uy:Stmt:=top 100
def sc_law_worth:zk ["_law_way_here","_law_row","_law_x","_law_y","_law_k"] ["_law_way_here","_law_row"] (defScope uy):=by walk_at "sc"
def kr(T:Txt K mg A)(AJ:DOk P w K mg base 1 "_law_falling_worth" (gL))(F:Fun K "_law_worth" "_law_worth" uy f fd):FnOk P w K mg base CX0 2 f fd ["_law_way_here","_law_row"] (zw K (wO)):=by
 refine okD F sc_law_worth (by walk_at "ln") fun _ _ _ _ _ _ hr ds Q h=>?_
 obtain⟨k,n,r,rfl,hn,hL,hl,q⟩:=h
 refine⟨_,(ze (zx (zp (zW) (zr (dv 0) zd (fun _ _=>rfl)) zt (zo _)) (zf (zl (zh AJ (rom hr) rfl (za (zr (dv 0) zd (fun _ _=>rfl)) (za (dv 1) zg))))) zm)
 (ze (zq (i:=2) sc_law_worth.nd rfl (Or.inl rfl) zd)
 (ze (zq (i:=3) sc_law_worth.nd rfl (Or.inl rfl) zd)
 (ze (vZ (j:=4) rfl sc_law_worth.nd rfl (Or.inl rfl) PassesOwn.never rfl T.range (za (zi zN (yt rfl T.len (dv 1)) zd) (za (z0 zd) (za (z0 zd) zg))) (zf (zx (zp (zW) (zr (dv 0) zd (fun _ _=>rfl)) zt (zo _)) (zf (eY (i:=2) (j:=3) rfl sc_law_worth.nd rfl rfl (by decide) rfl rfl (za (zi zN (zi zN (zr (dv 1) (dv 4) (fun _ _=>rfl)) (zi z5 (zr (dv 0) zd (fun _ _=>rfl)) (dv 2))) (dv 3)) (za (zi zN (dv 2) (zi z5 (zr (dv 0) zd (fun _ _=>rfl)) (dv 3))) zg)) rfl)) (zf (zx (zp (zW) (zr (dv 0) zd (fun _ _=>rfl)) zt (zo _)) (zf (zq (i:=2) sc_law_worth.nd rfl (Or.inl rfl) (zi zN (zr (dv 1) (dv 4) (fun _ _=>rfl)) (zi z5 (zr (dv 0) zd (fun _ _=>rfl)) (dv 2))))) (zf (zx (zp (zW) (zr (dv 0) zd (fun _ _=>rfl)) zt (zo _)) (zf (zq (i:=2) sc_law_worth.nd rfl (Or.inl rfl) (zi zK (zr (dv 1) (dv 4) (fun _ _=>rfl)) (zi z5 (zi zK (zi z5 zd (zr (dv 0) zd (fun _ _=>rfl))) zd) (dv 2))))) (zf (zq (i:=2) sc_law_worth.nd rfl (Or.inl rfl) (zi zK (zr (dv 1) (dv 4) (fun _ _=>rfl)) (zi z5 (zi zK (zr (dv 0) zd (fun _ _=>rfl)) (zi z5 (dv 4) (jf rfl T.n_int (xR (zW) (zr (dv 0) zd (fun _ _=>rfl)) zt (zo _))))) (dv 2))))))))))))
 (ze (zx (zp (zW) (zr (dv 0) zd (fun _ _=>rfl)) zt (zo _)) (zf (zl (zF (za (dv 2) (za (dv 3) zg))))) zm)
 (zf (zl (dv 2)))))))),?_⟩
 have ll:=zH r
 obtain⟨b1,b2⟩:=xq hn
 have hb:=yl hn hL.fig hl
 refine⟨_,rfl,_,_,_,rfl,rfl,rfl,_,_,rfl,rfl,_,rfl,?_⟩
 by_cases hk:k=.falling
 ·subst hk
  rw[iE (k:=.falling) (fun z=>nomatch z) (zD .falling n r)]at q
  exact ifT rfl ⟨_,rfl,_,_,_,rfl,rfl,rfl,_,rfl,n,r,rfl,hn,hl,hb,q⟩
 ·refine ifF (by cases k<;>first|rfl|exact absurd rfl hk) ?_
  have h5:k.five=true:=by cases k<;>first|rfl|exact absurd rfl hk
  walk_at "rd"
  by_cases hp:k=.pairs
  ·subst hp
   rw[Hd (zD .pairs n r)]at q
   refine⟨_,_,fun i ρ=>∃v,ρ=[.some (y7 .pairs n),.some (zy r),.some (.int (Vt .pairs n (r.length-i) (r.drop (r.length-i))).re),.some (.int (Vt .pairs n (r.length-i) (r.drop (r.length-i))).im),v],rfl,by omega,by omega,by decide,by decide,⟨.none,?_⟩,?_,?_⟩
   ·rw[Nat.sub_zero,List.drop_length]
    rfl
   ·rintro i ρ' hi ⟨v,rfl⟩
    obtain⟨p,hp'⟩:∃p:Nat,p+i+1=r.length:=⟨r.length-1-i,by omega⟩
    have ep:((List.map Dt.int r).length:Int)-1-i=p:=by omega
    rw[ep]
    have e1:r.length-i=p+1:=by omega
    have e2:r.length-(i+1)=p:=by omega
    have hpl:p<r.length:=by omega
    have eg:r.getD p 0=r[p]:=by rw[Br,Bu hpl];rfl
    have ev:Vt .pairs n p (r.drop p)=(Nm.i (r.getD p 0)).add ((Kd.ratN .pairs n p).mul (Vt .pairs n (p+1) (r.drop (p+1)))):=by
     rw[B9 hpl,eg]
     rfl
    obtain⟨V,hV⟩:∃V,Vt .pairs n (p+1) (r.drop (p+1))=V:=⟨_,rfl⟩
    have er:(Vt .pairs n p (r.drop p)).re=r.getD p 0-n*V.re-V.im:=by
     rw[ev,hV,zS,zE]
     show r.getD p 0+(-n*V.re-1*V.im)=_
     rw[CW]
     omega
    have ei:(Vt .pairs n p (r.drop p)).im=V.re-n*V.im:=by
     rw[ev,hV,ye,zI]
     show 0+(-n*V.im+1*V.re)=_
     rw[CW]
     omega
    rw[e1,hV]
    refine⟨_,rfl,_,_,_,rfl,rfl,rfl,_,_,rfl,rfl,_,rfl,ifT rfl ?_⟩
    repeat(first|(walk_at "rd1")|refine⟨_,_,_,rfl,rfl,xA hpl,?_⟩|refine⟨yJ (by omega) (by omega) _,?_⟩)
    exact⟨.some (.int p),by rw[e2,er,ei];rfl⟩
   ·rintro ρ' ⟨v,rfl⟩
    have e:r.length-(((List.map Dt.int r).length:Int)-1-(-1)).toNat=0:=by omega
    rw[e,CZ,←sW h5]
    walk_at "rd"
    exact q
  rw[iE hp (zD k n r)]at q
  refine⟨_,_,fun i ρ=>∃v,ρ=[.some (y7 k n),.some (zy r),.some (.int (Vt k n (r.length-i) (r.drop (r.length-i))).re),.some (.int 0),v],rfl,by omega,by omega,by decide,by decide,⟨.none,?_⟩,?_,?_⟩
  ·rw[Nat.sub_zero,List.drop_length]
   show _=[_,_,Sl.some (.int (k.zero).re),_,_]
   rw[zY]
   rfl
  ·rintro i ρ' hi ⟨v,rfl⟩
   obtain⟨p,hp'⟩:∃p:Nat,p+i+1=r.length:=⟨r.length-1-i,by omega⟩
   have ep:((List.map Dt.int r).length:Int)-1-i=p:=by omega
   rw[ep]
   have e1:r.length-i=p+1:=by omega
   have e2:r.length-(i+1)=p:=by omega
   have hpl:p<r.length:=by omega
   have ev:(Vt k n p (r.drop p)).re=r.getD p 0+(k.ratN n p).re*(Vt k n (p+1) (r.drop (p+1))).re:=by
    rw[B9 hpl]
    show((Nm.i r[p]).add ((k.ratN n p).mul (Vt k n (p+1) (r.drop (p+1))))).re=_
    rw[zS,zE]
    have ei:(k.ratN n p).im=0:=by cases k<;>first|rfl|exact absurd rfl hp
    have eg:r.getD p 0=r[p]:=by rw[Br,Bu hpl];rfl
    rw[ei,eg]
    show r[p]+(_-0*_)=_
    omega
   obtain⟨x,hx⟩:∃x,(Vt k n (p+1) (r.drop (p+1))).re=x:=⟨_,rfl⟩
   rw[e1,hx]
   rw[hx]at ev
   have fin:∀y:Int,y=r.getD p 0+(k.ratN n p).re*x→∃v,[Sl.some (y7 k n),.some (zy r),.some (.int y),.some (.int 0),.some (.int p)]=[.some (y7 k n),.some (zy r),.some (.int (Vt k n (r.length-(i+1)) (r.drop (r.length-(i+1)))).re),.some (.int 0),v]:=fun y hy=>⟨.some (.int p),by rw[e2,ev,hy]⟩
   cases k with
   | pairs=>exact absurd rfl hp
   | falling=>exact absurd rfl hk
   | plain=>
    repeat(first|(walk_at "rd1")|refine⟨_,_,_,rfl,rfl,xA hpl,?_⟩|refine⟨yJ (by omega) (by omega) _,?_⟩)
    have e0:(n+(p:Int)*if(Kd.plain.nam==Str.ofString "growing")=true then 1 else 0)=n:=by
     rw[if_neg (by decide +kernel)];omega
    rw[e0]
    refine⟨yJ (by omega) (by omega) _,?_⟩
    exact⟨_,_,rfl,rfl,fin _ rfl⟩
   | below=>
    repeat(first|(walk_at "rd1")|refine⟨_,_,_,rfl,rfl,xA hpl,?_⟩|refine⟨yJ (by omega) (by omega) _,?_⟩)
    exact fin _ (by show r.getD p 0-n*x=r.getD p 0 + -n*x;rw[CW];omega)
   | balanced=>
    repeat(first|(walk_at "rd1")|refine⟨_,_,_,rfl,rfl,xA hpl,?_⟩|refine⟨yJ (by omega) (by omega) _,?_⟩)
    exact fin _ rfl
   | growing=>
    repeat(first|(walk_at "rd1")|refine⟨_,_,_,rfl,rfl,xA hpl,?_⟩|refine⟨yJ (by omega) (by omega) _,?_⟩)
    have e0:(n+(p:Int)*if(Kd.growing.nam==Str.ofString "growing")=true then 1 else 0)=n+p:=by
     rw[if_pos (by decide +kernel)];omega
    rw[e0]
    refine⟨yJ (by omega) (by omega) _,?_⟩
    exact⟨_,_,rfl,rfl,fin _ rfl⟩
  ·rintro ρ' ⟨v,rfl⟩
   have e:r.length-(((List.map Dt.int r).length:Int)-1-(-1)).toNat=0:=by omega
   rw[e,CZ,←sW h5]
   walk_at "rd"
   refine ifF (by cases k<;>first|rfl|exact absurd rfl hp) ?_
   exact⟨_,rfl,q⟩
abbrev uz:Stmt:=top 107
def sc_law_tells:zk ["_law_way_here","_law_text","_law_number_here","_law_row"] ["_law_way_here","_law_text","_law_number_here"] (defScope uz):=by walk_at "sc"
def ku(T:Txt K mg A)(Ax:DOk P w K mg base 3 "_law_row_of" (dq))(Ab:DOk P w K mg base 2 "_law_worth" (wO))(F:Fun K "_law_tells" "_law_tells" uz f fd):FnOk P w K mg base CX0 4 f fd ["_law_way_here","_law_text","_law_number_here"] (zw K (oy)):=by
 refine okD F sc_law_tells (by walk_at "ln") fun _ _ _ _ _ _ hr ds Q h=>?_
 obtain⟨k,n,r,m,rfl,hn,hL,hl,e,q⟩:=h
 refine⟨_,(ze (zq (i:=3) sc_law_tells.nd rfl (Or.inl rfl) (zh Ax (rom hr) rfl (za (dv 0) (za (dv 1) zg))))
 (zf (zl (u9 (X2 (dv 3)) (sP (xR (wC hr) (zh Ab (rom hr) rfl (za (dv 0) (za (dv 3) zg))) (dv 2) (zo _))))))),?_⟩
 refine⟨_,rfl,_,rfl,k,n,r,rfl,hn,hL,hl,?_⟩
 refine⟨_,rfl,_,rfl,ifT rfl ?_⟩
 refine⟨_,rfl,_,rfl,k,n,r,rfl,hn,hL,hl,?_⟩
 refine⟨_,rfl,?_⟩
 rw[e]
 refine⟨sG m,sG m,?_⟩
 rw[Z0 40 (sG m)]
 exact q
abbrev sf:Stmt:=top 87
def sc_words_of:zk ["row","words"] ["row"] (defScope sf):=by walk_at "sc"
def j5(T:Txt K mg A)(GD_COUNTS:GDi P w K mg "COUNTS" [("write",3),("worth",3),("plus",4),("minus",4),("times",4),("share",4),("order",4),("move",4)])(F:Fun K "words_of" "words_of" sf f fd):FnOk P w K mg base CX0 1 f fd ["row"] (zZ K (gw)):=by
 refine okF F sc_words_of (by walk_at "ln") fun _ _ _ _ _ _ hr ds Q h=>?_
 obtain⟨s,ws,rfl,hs,ew,ho,q⟩:=h
 refine⟨_,(ze (yc (i:=1) sc_words_of.nd rfl (Or.inl rfl) (u5 (dv 0) zt))
 (zX (zx (eW (DW.dt (uZ (zp ZA zt (dv 1) (by with_unfolding_all rfl)) (uY (zp (kF hr) (X5 GD_COUNTS rfl (zr (dv 1) zd (fun _ _=>rfl))) (yt rfl T.len (dv 1)) (zo _)))))) (zf zP) zm)
 (zf (x8 1)))),?_⟩
 walk_at "rd"
 refine⟨by omega,?_⟩
 walk_at "rd"
 rw[ew]
 obtain⟨h1,h2⟩:=ho
 refine⟨fun ρ=>ρ=[.some (.str s),.own (ws.map Dt.str)],?_,?_⟩
 ·refine⟨_,rfl,_,_,ws,rfl,rfl,pe ws,_,rfl,?_⟩
  rw[h1]
  refine ifF rfl ?_
  cases ws with
  | nil=>
   have e:xT counts (([]:List Str).getD 0 ("":Str))=.non:=by unfold xT;rw[show(counts.find? fun p=>decide (p.1=([]:List Str).getD 0 ("":Str)))=none by decide +kernel];rfl
   rw[e]at h2
   cases h2
  | cons w0 wl=>
   have ll:((w0::wl).map Dt.str).length=(w0::wl).length:=Bs _
   have at0:atI ((w0::wl).map Dt.str) 0=some (.str w0):=by
    unfold atI
    rw[XH (BW 0) (by rw[ll];exact Int.ofNat_lt.mpr (Nat.succ_pos _))]
    rfl
   have h2:xT counts w0=.int (w0::wl).length:=h2
   refine⟨_,rfl,_,0,.str w0,rfl,rfl,at0,w0,rfl,?_⟩
   show MQ (X7 1) _ fun e=>gNe (xT counts w0) e _
   walk_at "rd"
   rw[ll,h2]
   exact⟨rfl,rfl,_,rfl,ifF (nT (eqI rfl)) rfl⟩
 ·rintro ρ rfl
  exact⟨_,rfl,q⟩
abbrev yj:Stmt:=top 78
def sc_has_figures_alone_texts:zk ["text","sign"] ["text"] (defScope yj):=by walk_at "sc"
def wA(T:Txt K mg A)(F:Fun K "has_figures_alone" "has_figures_alone" yj f fd):FnOk P w K mg base CX0 1 f fd ["text"] (zw K (jw)):=by
 refine okD F sc_has_figures_alone_texts (by walk_at "ln") fun _ _ _ _ _ _ hr ds Q h=>?_
 obtain⟨x,rfl,hx,q⟩:=h
 refine⟨_,(ze (cx (j:=1) rfl sc_has_figures_alone_texts.nd rfl (Or.inl rfl) PassesOwn.never (dv 0) (zf (zx (zp iq (dv 1) (hZ rfl T.gs_FIGURES) (by with_unfolding_all rfl)) (zf (zl wJ)) zm)))
 (zf (zl wJ))),?_⟩
 refine⟨_,rfl,x,fun i ρ=>∃v,ρ=[.some (.str x),v]∧∀c∈(tl x).take i,kX c=true,rfl,cO hx,⟨_,rfl,fun c hc=>by cases hc⟩,?_,?_⟩
 ·rintro i c ρ' hc ⟨v,rfl,hb⟩
  have hc':(tl x)[i]? = some c:=by unfold tl;rw[Array.getElem?_toList];exact hc
  refine⟨_,rfl,_,_,rfl,rfl,_,rfl,?_⟩
  rw[cg]
  refine ifB (fun h=>?_) (fun h=>⟨_,rfl,fun c' hc2=>?_⟩)
  ·have:gm x=false:=by
    rw[←Bool.not_eq_true]
    intro z
    have:=Co.mp z c (BH hc')
    unfold kX at this
    rw[this]at h;cases h
   rw[this]at q
   exact q
  ·rw[CQ,hc']at hc2
   rcases B7.mp hc2 with h2|h2
   ·exact hb c' h2
   ·rw[BD.mp h2]
    exact Zw h
 ·rintro ρ' ⟨v,rfl,hb⟩
  have:gm x=true:=Co.mpr fun c hc=>hb c (by
   rw[List.take_of_length_le (by unfold tl;simp)];exact hc)
  rw[this]at q
  exact q
abbrev vE:Stmt:=top 80
def sc_whole_read:zk ["text","figures"] ["text"] (defScope vE):=by walk_at "sc"
def n8(T:Txt K mg A)(AK:DOk P w K mg base 1 "has_figures_alone_texts" (jw))(F:Fun K "whole_read" "whole_read" vE f fd):FnOk P w K mg base CX0 2 f fd ["text"] (zw K (tq)):=by
 refine okD F sc_whole_read (by walk_at "ln") fun _ _ _ _ _ _ hr ds Q h=>?_
 obtain⟨x,i,rfl,hx,hl,hv,q⟩:=h
 refine⟨_,(ze (zq (i:=1) sc_whole_read.nd rfl (Or.inl rfl) (hW (zR (bY (dv 0) zt)) (tL (dv 0) (rG zd) rH) (dv 0)))
 (zX (zx (DW.dt (uZ (zp (zW) (dv 1) zt (zo _)) (uZ (zp (rk) (jd rfl T.len (dv 1)) zd (zo _)) (uY (yV (zR (zh AK (rom hr) rfl (za (dv 1) zg)))))))) (zf zP) zm)
 (zX (zx (DW.dt (yk (zp (zW) (Yi (dv 1) zd) zt (zo _)) (yo (zp (Zy) (dv 0) zt (zo _))))) (zf zP) zm)
 (zf (zl (cG rfl T.n_int (dv 0))))))),?_⟩
 have hxl:=yR x
 have hx60:(fg x).length≤60→x.length≤61:=fun h=>by
  rw[←hxl]
  rcases Vu (x:=x) rfl with ⟨e,_⟩|e
  ·rw[e];omega
  ·rw[e,BM];omega
 obtain⟨hN,h60⟩:Numl (tl x)∧(fg x).length≤60:=Classical.byContradiction fun z=>by rw[YN z]at hv;cases hv
 rw[dw hN h60]at hv
 cases hv
 obtain⟨n1,n2,n3⟩:=(o9 rfl).mp hN
 refine⟨_,rfl,_,rfl,by omega,_,rfl,_,rfl,?_⟩
 rw[jI]
 refine ifB (fun h=>?_) (fun h=>?_)
 ·have h:=of_decide_eq_true h
  have h1:1≤(tl x).length:=by
   cases e:tl x with
   | nil=>rw[e]at h;cases h
   | cons c r=>rw[BM];omega
  refine⟨_,rfl,_,rfl,_,rfl,by omega,?_⟩
  obtain⟨f,hf⟩:∃f,Txt.slice x (some 1) none=f:=⟨_,rfl⟩
  have t1:tl f=fg x:=by rw[←hf,tY (by decide) (by omega)];unfold fg;rw[if_pos h];rfl
  have a1:asc f:=hf ▸ lG hx
  have l1:f.length≤5000:=by have:=bj x (some 1) none;rw[hf]at this;omega
  rw[hf]
  have hfl:=yR f
  refine⟨fun ρ=>ρ=[.some (.str x),.some (.str f)],?_,?_⟩
  ·refine⟨_,rfl,_,_,rfl,rfl,_,rfl,?_⟩
   rw[dP,t1]
   refine ifF (decide_eq_false n1) ?_
   refine⟨_,rfl,_,rfl,by omega,_,_,rfl,rfl,_,rfl,ifF (decide_eq_false (by rw[←t1]at h60;omega)) ?_⟩
   refine⟨_,rfl,f,rfl,a1,_,rfl,?_⟩
   rw[allFg_iff.mpr (by rw[t1];exact n2)]
   exact ifF rfl rfl
  rintro ρ rfl
  obtain⟨c,r,ec⟩:∃c r,fg x=c::r:=by
   cases e:fg x with
   | nil=>exact absurd e n1
   | cons c r=>exact⟨c,r,rfl⟩
  refine⟨fun ρ=>ρ=[.some (.str x),.some (.str f)],?_,?_⟩
  ·refine⟨_,rfl,_,_,c,rfl,rfl,by decide,by decide,by rw[←yR,t1,ec,BM];omega,nG (t1.trans ec),_,_,rfl,rfl,_,rfl,?_⟩
   rw[sA]
   refine ifB (fun h=>?_) (fun h=>ifF rfl rfl)
   refine⟨_,rfl,_,_,rfl,rfl,_,rfl,?_⟩
   rw[qJ,decide_eq_true (n3 (by rw[ec,of_decide_eq_true h];rfl))]
   exact ifF rfl rfl
  rintro ρ rfl
  exact⟨_,rfl,x,rfl,hN,by show(tl x).length≤640;rw[hxl];have:=hx60 h60;omega,q⟩
 ·refine⟨_,rfl,?_⟩
  have t1:tl x=fg x:=by unfold fg;rw[if_neg (of_decide_eq_false h)]
  have a1:=hx
  have l1:=hl
  have hfl:=yR x
  refine⟨fun ρ=>ρ=[.some (.str x),.some (.str x)],?_,?_⟩
  ·refine⟨_,rfl,_,_,rfl,rfl,_,rfl,?_⟩
   rw[dP,t1]
   refine ifF (decide_eq_false n1) ?_
   refine⟨_,rfl,_,rfl,by omega,_,_,rfl,rfl,_,rfl,ifF (decide_eq_false (by rw[←t1]at h60;omega)) ?_⟩
   refine⟨_,rfl,x,rfl,a1,_,rfl,?_⟩
   rw[allFg_iff.mpr (by rw[t1];exact n2)]
   exact ifF rfl rfl
  rintro ρ rfl
  obtain⟨c,r,ec⟩:∃c r,fg x=c::r:=by
   cases e:fg x with
   | nil=>exact absurd e n1
   | cons c r=>exact⟨c,r,rfl⟩
  refine⟨fun ρ=>ρ=[.some (.str x),.some (.str x)],?_,?_⟩
  ·refine⟨_,rfl,_,_,c,rfl,rfl,by decide,by decide,by rw[←yR,t1,ec,BM];omega,nG (t1.trans ec),_,_,rfl,rfl,_,rfl,?_⟩
   rw[sA]
   refine ifB (fun h=>?_) (fun h=>ifF rfl rfl)
   refine⟨_,rfl,_,_,rfl,rfl,_,rfl,?_⟩
   rw[qJ,decide_eq_true (n3 (by rw[ec,of_decide_eq_true h];rfl))]
   exact ifF rfl rfl
  rintro ρ rfl
  exact⟨_,rfl,x,rfl,hN,by show(tl x).length≤640;rw[hxl];have:=hx60 h60;omega,q⟩
abbrev sx:Stmt:=top 13
def jS:zk ["value"] ["value"] (defScope sx):=by walk_at "sc"
def io(T:Txt K mg A)(F:Fun K "is_whole" "is_whole" sx f fd):FnOk P w K mg base CX0 1 f fd ["value"] (zw K (x_)):=by
 refine okD F jS (by walk_at "ln") fun _ _ _ _ _ _ hr ds Q h=>?_
 obtain⟨d,b,rfl,hw,q⟩:=h
 refine⟨_,(zf (zl (u9 (je (T:=.int) T.kt T.isinstance T.n_int PyProof.Rows.boot_int (dv 0)) (sP (Ye (je (T:=.bool) T.kt T.isinstance T.n_bool PyProof.Rows.boot_bool (dv 0))))))),?_⟩
 cases d<;>cases hw
 all_goals
  walk_at "rd"
  exact q
abbrev qm:Stmt:=top 19
def fm:zk ["number","least","most"] ["number","least","most"] (defScope qm):=by walk_at "sc"
def f_(T:Txt K mg A)(Aa:DOk P w K mg base 1 "is_whole" (x_))(F:Fun K "bounded" "bounded" qm f fd):FnOk P w K mg base CX0 2 f fd ["number","least","most"] (zw K (xC)):=by
 refine okD F fm (by walk_at "ln") fun _ _ _ _ _ _ hr ds Q h=>?_
 obtain⟨n,lo,hi,rfl,h1,h2,q⟩:=h
 refine⟨_,(ze (zx (DW.dt (uZ (yV (zR (zh Aa (rom hr) rfl (za (dv 0) zg)))) (uZ (zp (uO) (dv 0) (dv 1) (zo _)) (uY (zp (rk) (dv 0) (dv 2) (zo _)))))) (zf zP) zm)
 (zf (zl (dv 0)))),?_⟩
 walk_at "rd"
 rw[decide_eq_false (by omega:¬n<lo)]
 walk_at "rd"
 rw[decide_eq_false (by omega:¬hi<n)]
 walk_at "rd"
 exact q
abbrev xW:Stmt:=inClass (top 21) 0
def nX:zk ["self","base"] ["self","base"] (defScope xW):=by walk_at "sc"
def mj(T:Txt K mg A)(Ac:DOk P w K mg base 2 "bounded" (xC))(F:Fun K "__init__" "Plain.__init__" xW f fd):FnOk P w K mg base CX0 3 f fd ["self","base"] (wR A.Plain "base" (Kd.ok .plain)):=by
 refine tG F nX T.Ge T.Gw (fun cdv A outer s H E hr=>?_)
 obtain⟨te,p,l⟩:=((zh Ac (rom hr) rfl (za (dv 1) (za zd (za zd zg)))):DE (ub CX0 P w K mg base ["self","base"] "Plain.__init__" (defScope xW) f cdv A outer s H E).nox _ _)
 refine⟨te,_,vR (qu (pv 0) p rfl),l,fun i hi=>?_⟩
 exact⟨_,rfl,_,_,_,rfl,hi.1,hi.2,rfl⟩
abbrev xY:Stmt:=inClass (top 22) 0
def n5:zk ["self","base"] ["self","base"] (defScope xY):=by walk_at "sc"
def mr(T:Txt K mg A)(Ac:DOk P w K mg base 2 "bounded" (xC))(F:Fun K "__init__" "Below.__init__" xY f fd):FnOk P w K mg base CX0 3 f fd ["self","base"] (wR A.Below "base" (Kd.ok .below)):=by
 refine tG F n5 T.Gf T.Gx (fun cdv A outer s H E hr=>?_)
 obtain⟨te,p,l⟩:=((zh Ac (rom hr) rfl (za (dv 1) (za zd (za zd zg)))):DE (ub CX0 P w K mg base ["self","base"] "Below.__init__" (defScope xY) f cdv A outer s H E).nox _ _)
 refine⟨te,_,vR (qu (pv 0) p rfl),l,fun i hi=>?_⟩
 exact⟨_,rfl,_,_,_,rfl,hi.1,hi.2,rfl⟩
abbrev y4:Stmt:=inClass (top 23) 0
def rZ:zk ["self","half"] ["self","half"] (defScope y4):=by walk_at "sc"
def qB(T:Txt K mg A)(Ac:DOk P w K mg base 2 "bounded" (xC))(F:Fun K "__init__" "Balanced.__init__" y4 f fd):FnOk P w K mg base CX0 3 f fd ["self","half"] (wR A.Balanced "half" (Kd.ok .balanced)):=by
 refine tG F rZ T.Gd T.Gu (fun cdv A outer s H E hr=>?_)
 obtain⟨te,p,l⟩:=((zh Ac (rom hr) rfl (za (dv 1) (za zd (za zd zg)))):DE (ub CX0 P w K mg base ["self","half"] "Balanced.__init__" (defScope y4) f cdv A outer s H E).nox _ _)
 refine⟨te,_,vR (qu (pv 0) p rfl),l,fun i hi=>?_⟩
 exact⟨_,rfl,_,_,_,rfl,hi.1,hi.2,rfl⟩
abbrev xl:Stmt:=inClass (top 24) 0
def pF:zk ["self","first"] ["self","first"] (defScope xl):=by walk_at "sc"
def pR(T:Txt K mg A)(Ac:DOk P w K mg base 2 "bounded" (xC))(F:Fun K "__init__" "Growing.__init__" xl f fd):FnOk P w K mg base CX0 3 f fd ["self","first"] (wR A.Growing "first" (Kd.ok .growing)):=by
 refine tG F pF T.Gg T.Gy (fun cdv A outer s H E hr=>?_)
 obtain⟨te,p,l⟩:=((zh Ac (rom hr) rfl (za (dv 1) (za zd (za zd zg)))):DE (ub CX0 P w K mg base ["self","first"] "Growing.__init__" (defScope xl) f cdv A outer s H E).nox _ _)
 refine⟨te,_,vR (qu (pv 0) p rfl),l,fun i hi=>?_⟩
 exact⟨_,rfl,_,_,_,rfl,hi.1,hi.2,rfl⟩
abbrev xn:Stmt:=inClass (top 25) 0
def pH:zk ["self","most"] ["self","most"] (defScope xn):=by walk_at "sc"
def pT(T:Txt K mg A)(Ac:DOk P w K mg base 2 "bounded" (xC))(F:Fun K "__init__" "Falling.__init__" xn f fd):FnOk P w K mg base CX0 3 f fd ["self","most"] (wR A.Falling "most" (Kd.ok .falling)):=by
 refine tG F pH T.HX T.H8 (fun cdv A outer s H E hr=>?_)
 obtain⟨te,p,l⟩:=((zh Ac (rom hr) rfl (za (dv 1) (za zd (za zd zg)))):DE (ub CX0 P w K mg base ["self","most"] "Falling.__init__" (defScope xn) f cdv A outer s H E).nox _ _)
 refine⟨te,_,vR (qu (pv 0) p rfl),l,fun i hi=>?_⟩
 exact⟨_,rfl,_,_,_,rfl,hi.1,hi.2,rfl⟩
abbrev xX:Stmt:=inClass (top 26) 0
def nZ:zk ["self","most"] ["self","most"] (defScope xX):=by walk_at "sc"
def mm(T:Txt K mg A)(Ac:DOk P w K mg base 2 "bounded" (xC))(F:Fun K "__init__" "Pairs.__init__" xX f fd):FnOk P w K mg base CX0 3 f fd ["self","most"] (wR A.Pairs "most" (Kd.ok .pairs)):=by
 refine tG F nZ T.H9 T.Gh (fun cdv A outer s H E hr=>?_)
 obtain⟨te,p,l⟩:=((zh Ac (rom hr) rfl (za (dv 1) (za zd (za zd zg)))):DE (ub CX0 P w K mg base ["self","most"] "Pairs.__init__" (defScope xX) f cdv A outer s H E).nox _ _)
 refine⟨te,_,vR (qu (pv 0) p rfl),l,fun i hi=>?_⟩
 exact⟨_,rfl,_,_,_,rfl,hi.1,hi.2,rfl⟩
abbrev sj:Stmt:=top 83
def jP:zk ["name","number"] ["name","number"] (defScope sj):=by walk_at "sc"
def j7(T:Txt K mg A)(GR:KOk P w K mg base 3 "Plain" A.Plain "base" (Kd.ok .plain))(GS:KOk P w K mg base 3 "Below" A.Below "base" (Kd.ok .below))(GT:KOk P w K mg base 3 "Balanced" A.Balanced "half" (Kd.ok .balanced))(GU:KOk P w K mg base 3 "Growing" A.Growing "first" (Kd.ok .growing))(GV:KOk P w K mg base 3 "Falling" A.Falling "most" (Kd.ok .falling))(GW:KOk P w K mg base 3 "Pairs" A.Pairs "most" (Kd.ok .pairs))(F:Fun K "way_made" "way_made" sj f fd):FnOk P w K mg base CX0 5 f fd ["name","number"] (zw K (cP A)):=by
 refine okD F jP (by walk_at "ln") fun _ _ _ _ _ _ hr ds Q h=>?_
 obtain⟨k,n,rfl,hn,q⟩:=h
 refine⟨_,(ze (zx (zp (zW) (dv 0) zt (zo _)) (zf (zl (tM GR (rom hr) rfl (za (dv 1) zg)))) zm)
 (ze (zx (zp (zW) (dv 0) zt (zo _)) (zf (zl (tM GS (rom hr) rfl (za (dv 1) zg)))) zm)
 (ze (zx (zp (zW) (dv 0) zt (zo _)) (zf (zl (tM GT (rom hr) rfl (za (dv 1) zg)))) zm)
 (ze (zx (zp (zW) (dv 0) zt (zo _)) (zf (zl (tM GU (rom hr) rfl (za (dv 1) zg)))) zm)
 (ze (zx (zp (zW) (dv 0) zt (zo _)) (zf (zl (tM GV (rom hr) rfl (za (dv 1) zg)))) zm)
 (ze (zx (zp (zW) (dv 0) zt (zo _)) (zf (zl (tM GW (rom hr) rfl (za (dv 1) zg)))) zm)
 (zf zP))))))),?_⟩
 cases k
 all_goals
  walk_at "rd"
  exact⟨hn,q⟩
abbrev si:Stmt:=top 84
def sc_way_read:zk ["text","name","number"] ["text"] (defScope si):=by walk_at "sc"
def j6(T:Txt K mg A)(Ak:DOk P w K mg base 2 "whole_read" (tq))(AL:DOk P w K mg base 5 "way_made" (cP A))(F:Fun K "way_read" "way_read" si f fd):FnOk P w K mg base CX0 6 f fd ["text"] (zw K (jr A)):=by
 refine okD F sc_way_read (by walk_at "ln") fun _ _ _ _ _ _ hr ds Q h=>?_
 obtain⟨k,n,rfl,hn,q⟩:=h
 refine⟨_,(ze (zq (i:=1) sc_way_read.nd rfl (Or.inl rfl) (e9 (dv 0) (hZ rfl T.gs_FIGURES)))
 (ze (zq (i:=2) sc_way_read.nd rfl (Or.inl rfl) (zh Ak (rom hr) rfl (za (tL (dv 0) (rG (jd rfl T.len (dv 1))) rH) zg)))
 (zf (eX (zh AL (rom hr) rfl (za (dv 1) (za (dv 2) zg))))))),?_⟩
 obtain⟨m,rfl,m1,m2⟩:=kq hn
 have hst:Txt.rstripChars (wnm k m) (Str.ofString "0123456789")=k.nam:=vA eO
 have ln:k.nam.length≤8:=by cases k<;>decide +kernel
 have lw:=zT (k:=2) (m:Int) (by decide) (by rw[B5];omega)
 have lm:=yH hn
 have hsl:Txt.slice (wnm k m) (some (k.nam.length:Int)) none=shw (m:Int):=vA (by
  unfold wnm
  rw[tY (by omega) (by rw[yq,Bv,yR];omega),yq,Cb,←yR,List.drop_left])
 refine⟨_,rfl,_,rfl,by omega,_,rfl,?_⟩
 dsimp only
 rw[hst]
 refine⟨_,rfl,_,rfl,_,rfl,by omega,_,rfl,_,rfl,by omega,?_⟩
 rw[hsl]
 exact⟨_,_,rfl,vC _,by omega,uu (by rw[B5];exact Cj m2 (by decide)),_,rfl,_,rfl,k,_,rfl,hn,q⟩
abbrev xE:Stmt:=top 75
def sc_whole_shown:zk ["number","limit","parts","rest"] ["number"] (defScope xE):=by walk_at "sc"
def qz(T:Txt K mg A)(F:Fun K "whole_shown" "whole_shown" xE f fd):FnOk P w K mg base CX0 1 f fd ["number"] (zw K (gB)):=by
 refine okD F sc_whole_shown (by walk_at "ln") fun _ _ _ _ _ _ hr ds Q h=>?_
 obtain⟨n,rfl,hn,q⟩:=h
 refine⟨_,(ze (zx (zp (uO) (dv 0) zd (zo _)) (zf zP) zm)
 (ze (zq (i:=1) sc_whole_shown.nd rfl (Or.inl rfl) (zi qY zd zd))
 (ze (yc (i:=2) sc_whole_shown.nd rfl (Or.inl rfl) (xg zg))
 (ze (zq (i:=3) sc_whole_shown.nd rfl (Or.inl rfl) (dv 0))
 (ze (xN PassesOwn.never (zp (eA) (dv 3) (dv 1) (zo _)) (ze zP (zf zP)))
 (ze (xB 2 (x9 rfl T.n_str (dv 3)))
 (ze (qP 2)
 (xt 2 (zf (zl (wV zt (dv 2)))))))))))),?_⟩
 refine⟨_,rfl,_,_,rfl,rfl,_,rfl,ifF (decide_eq_false (by omega)) ?_⟩
 walk_at "rd"
 refine⟨fun _ ρ=>ρ=[.some (.int n),.some (.int (10^Int.toNat 60)),.own [],.some (.int n)],⟨0,rfl⟩,?_⟩
 rintro _ ρ' rfl
 refine⟨_,rfl,_,rfl,_,_,rfl,rfl,_,rfl,?_⟩
 rw[VH]
 refine ifF (decide_eq_false (fun z=>absurd (Int.ofNat_le.mp z) (Nat.not_le_of_lt hn))) ?_
 refine⟨_,rfl,_,rfl,_,rfl,Ce (rp (i:=n) (by rw[B5];exact hn)) (by decide),by decide,?_⟩
 have ej:Txt.join ("":Str) [shw n]=shw n:=by
  show Builtin.Str.glued _ _=_
  rw[StrLaws.glued_eq_join]
  rfl
 refine⟨_,rfl,_,rfl,_,rfl,_,rfl,[shw n],rfl,?_,?_⟩
 ·have e0:(("":Str)).length=0:=by decide +kernel
  have:=StrLaws.joinFits (sep:=("":Str)) (texts:=[shw n]) (B:=61) (fun y hy=>by
   rw[BD.mp hy]
   exact zT (k:=60) _ (by decide) (by rw[B5];exact hn)) (by rw[e0];exact CK rfl)
  unfold JoinOk
  rw[this]
  rfl
 ·rw[ej]
  exact q
def oZ(T:Txt K mg A)(Ao:DOk P w K mg base 1 "whole_shown" (gB))(F:Fun K "whole_shown" "whole_shown" xE f fd):FnOk P w K mg base CX0 2 f fd ["number"] (zw K (nM)):=by
 refine okD F sc_whole_shown (by walk_at "ln") fun _ _ _ _ _ _ hr ds Q h=>?_
 obtain⟨i,rfl,hi,q⟩:=h
 refine⟨_,(ze (zx (zp (uO) (dv 0) zd (zo _)) (zf (zl (zi xb zt (zh Ao (rom hr) rfl (za (z0 (dv 0)) zg))))) zm)
 (ze (zq (i:=1) sc_whole_shown.nd rfl (Or.inl rfl) (zi qY zd zd))
 (ze (yc (i:=2) sc_whole_shown.nd rfl (Or.inl rfl) (xg zg))
 (ze (zq (i:=3) sc_whole_shown.nd rfl (Or.inl rfl) (dv 0))
 (ze (xN PassesOwn.never (zp (eA) (dv 3) (dv 1) (zo _)) (ze zP (zf zP)))
 (ze (xB 2 (x9 rfl T.n_str (dv 3)))
 (ze (qP 2)
 (xt 2 (zf (zl (wV zt (dv 2)))))))))))),?_⟩
 refine⟨_,rfl,_,_,rfl,rfl,_,rfl,ifB (fun h=>?_) (fun h=>?_)⟩
 ·have h0:i<0:=of_decide_eq_true h
  obtain⟨n,rfl,hn⟩:∃n:Nat,i=-(n:Int)∧0<n:=⟨i.natAbs,by omega,by omega⟩
  rw[YX hn]at q
  have hn2:n<10^60:=by rw[Int.natAbs_neg,B5]at hi;exact hi
  refine⟨_,rfl,_,rfl,n,by rw[Int.neg_neg],hn2,_,_,rfl,rfl,?_,q⟩
  have e:(("-":Str)).length=1:=by decide +kernel
  have:=zT (k:=60) (n:Int) (by decide) (by rw[B5];exact hn2)
  rw[e];omega
 ·have h0:¬i<0:=of_decide_eq_false h
  obtain⟨n,rfl⟩:=Int.eq_ofNat_of_zero_le (show 0≤i by omega)
  have hn:n<10^60:=by rw[B5]at hi;exact hi
  walk_at "rd"
  refine⟨fun _ ρ=>ρ=[.some (.int n),.some (.int (10^Int.toNat 60)),.own [],.some (.int n)],⟨0,rfl⟩,?_⟩
  rintro _ ρ' rfl
  refine⟨_,rfl,_,rfl,_,_,rfl,rfl,_,rfl,?_⟩
  rw[VH]
  refine ifF (decide_eq_false (fun z=>absurd (Int.ofNat_le.mp z) (Nat.not_le_of_lt hn))) ?_
  refine⟨_,rfl,_,rfl,_,rfl,Ce (rp (i:=n) (by rw[B5];exact hn)) (by decide),by decide,?_⟩
  have ej:Txt.join ("":Str) [shw n]=shw n:=by
   show Builtin.Str.glued _ _=_
   rw[StrLaws.glued_eq_join]
   rfl
  refine⟨_,rfl,_,rfl,_,rfl,_,rfl,[shw n],rfl,?_,?_⟩
  ·have e0:(("":Str)).length=0:=by decide +kernel
   have:=StrLaws.joinFits (sep:=("":Str)) (texts:=[shw n]) (B:=61) (fun y hy=>by
    rw[BD.mp hy]
    exact zT (k:=60) _ (by decide) (by rw[B5];exact hn)) (by rw[e0];exact CK rfl)
   unfold JoinOk
   rw[this]
   rfl
  ·rw[ej]
   exact q
abbrev wT:Stmt:=top 77
def lU:zk ["row"] ["row"] (defScope wT):=by walk_at "sc"
def ko(T:Txt K mg A)(Ao:DOk P w K mg base 2 "whole_shown" (nM))(F:Fun K "row_shown" "row_shown" wT f fd):FnOk P w K mg base CX0 3 f fd ["row"] (zw K (uk)):=by
 refine okD F lU (by walk_at "ln") fun _ _ _ _ _ _ hr ds Q h=>?_
 obtain⟨r,rfl,hl,hb,q⟩:=h
 refine⟨_,(ze (zx (yV (Z3 (dv 0))) (zf (zl zt)) zm)
 (zf (zl (wV zt (DF.de (u6 (L:=0) (osc:=defScope wT) (N0:=["row"]) (bs:=["figure"]) (caps:=[]) (js:=[]) rfl (by decide +kernel) rfl rfl rfl (e7 rfl T.n_reversed (za (dv 0) zg)) (fun _ _ _ _ _=>(yf (i:=0) (show List.Nodup [("figure":Str)] by decide +kernel) rfl (Or.inl (lookup_relabel_local rfl)) (.inl rfl))) vX (fun _ _ _ _ _=>sQ) (fun _ _ _ _ _=>(zh Ao (rom hr) rfl (za (dv 0) zg))))))))),?_⟩
 have ll:=zH r
 refine⟨_,rfl,_,rfl,ifB (fun h=>?_) (fun h=>?_)⟩
 ·have e:r=[]:=by cases r with|nil=>rfl|cons a b=>cases h
  subst e
  exact q
 ·have e:r≠[]:=fun z=>by subst z;cases h
  have e2:rsh r=Txt.join "." (r.reverse.map shw):=by unfold rsh;rw[if_neg e]
  rw[e2]at q
  refine⟨_,rfl,_,rfl,_,_,rfl,rfl,by omega,fun i es=>es=(r.reverse.take i).map fun z=>Dt.str (shw z),rfl,?_,?_⟩
  ·rintro i e' es hi he rfl
   have he:(r.map Dt.int).reverse[i]? = some e':=he
   rw[←CJ,Bx]at he
   obtain⟨z,hz,rfl⟩:=BU.mp he
   have hzm:z∈r:=B'.mp (BH hz)
   refine⟨_,rfl,each_t (ifT rfl ?_)⟩
   refine⟨_,rfl,z,rfl,n60 (hb z hzm),?_⟩
   show _++[_]=((r.reverse.take (i+1)).map fun z=>Dt.str (shw z))
   rw[CQ,hz,B3]
   rfl
  ·rintro es rfl
   refine⟨r.reverse.map shw,?_,ol (by rw[kK];exact By _) (fun y hy=>?_) (by rw[Bs,BQ];omega),q⟩
   ·show some _=_
    rw[CT (by rw[BQ,ll];exact By _),Cy]
    rfl
   ·obtain⟨z,hz,rfl⟩:=BR.mp hy
    have:=zT (k:=3) z (by decide) (hb z (B'.mp hz))
    omega
abbrev qc:Stmt:=top 29
def sc_trimmed:zk ["row","things"] ["row"] (defScope qc):=by walk_at "sc"
def fP(T:Txt K mg A)(F:Fun K "trimmed" "trimmed" qc f fd):FnOk P w K mg base CX0 1 f fd ["row"] (zZ K (jt)):=by
 refine okF F sc_trimmed (by walk_at "ln") fun _ _ _ _ _ _ hr ds Q h=>?_
 obtain⟨r,rfl,q⟩:=h
 refine⟨_,(ze (yc (i:=1) sc_trimmed.nd rfl (Or.inl rfl) (ou rfl T.n_list (dv 0)))
 (ze (xN PassesOwn.never (DW.dt (yk (XW 1) (yo (zp (wC hr) (db 1 (z0 zd) (fun _ _=>rfl)) zd (zo _))))) (zf (Z5 1)))
 (zf (x8 1)))),?_⟩
 refine⟨_,rfl,_,rfl,_,rfl,?_⟩
 exact jC rfl ⟨_,rfl,q⟩
abbrev qo:Stmt:=top 15
def fq:zk ["number"] ["number"] (defScope qo):=by walk_at "sc"
def eh(T:Txt K mg A)(Aa:DOk P w K mg base 1 "is_whole" (x_))(F:Fun K "as_pair" "as_pair" qo f fd):FnOk P w K mg base CX0 2 f fd ["number"] (zw K (vy)):=by
 refine okD F fq (by walk_at "ln") fun _ _ _ _ _ _ hr ds Q h=>?_
 obtain⟨d,m,rfl,hm,q⟩:=h
 refine⟨_,(ze (zx (zR (zh Aa (rom hr) rfl (za (dv 0) zg))) (zf (zl (zF (za (dv 0) (za zd zg))))) zm)
 (zf (zl (dv 0)))),?_⟩
 obtain rfl:=xF hm
 cases m with
 | i n=>
  walk_at "rd"
  exact q
 | p a b=>
  walk_at "rd"
  exact q
abbrev l9:Stmt:=top 16
def sc_added:zk ["one","other","left","right"] ["one","other"] (defScope l9):=by walk_at "sc"
def Zv(T:Txt K mg A)(Aa:DOk P w K mg base 1 "is_whole" (x_))(Al:DOk P w K mg base 2 "as_pair" (vy))(F:Fun K "added" "added" l9 f fd):FnOk P w K mg base CX0 3 f fd ["one","other"] (zw K (rP)):=by
 refine okD F sc_added (by walk_at "ln") fun _ _ _ _ _ _ hr ds Q h=>?_
 obtain⟨d,e,m,n,rfl,hm,hn,q⟩:=h
 refine⟨_,(ze (zx (DW.dt (yk (zR (zh Aa (rom hr) rfl (za (dv 0) zg))) (yo (zR (zh Aa (rom hr) rfl (za (dv 1) zg)))))) (zf (zl (zi zK (dv 0) (dv 1)))) zm)
 (ze (zq (i:=2) sc_added.nd rfl (Or.inl rfl) (zh Al (rom hr) rfl (za (dv 0) zg)))
 (ze (zq (i:=3) sc_added.nd rfl (Or.inl rfl) (zh Al (rom hr) rfl (za (dv 1) zg)))
 (zf (zl (zF (za (zi zK (zr (dv 2) zd (fun _ _=>rfl)) (zr (dv 3) zd (fun _ _=>rfl))) (za (zi zK (zr (dv 2) zd (fun _ _=>rfl)) (zr (dv 3) zd (fun _ _=>rfl))) zg)))))))),?_⟩
 obtain rfl:=xF hm
 obtain rfl:=xF hn
 cases m<;>cases n
 all_goals
  walk_at "rd"
  exact q
abbrev vJ:Stmt:=top 17
def sc_multiplied:zk ["one","other","left","right"] ["one","other"] (defScope vJ):=by walk_at "sc"
def md(T:Txt K mg A)(Aa:DOk P w K mg base 1 "is_whole" (x_))(Al:DOk P w K mg base 2 "as_pair" (vy))(F:Fun K "multiplied" "multiplied" vJ f fd):FnOk P w K mg base CX0 3 f fd ["one","other"] (zw K (nP)):=by
 refine okD F sc_multiplied (by walk_at "ln") fun _ _ _ _ _ _ hr ds Q h=>?_
 obtain⟨d,e,m,n,rfl,hm,hn,k1,q⟩:=h
 refine⟨_,(ze (zx (DW.dt (yk (zR (zh Aa (rom hr) rfl (za (dv 0) zg))) (yo (zR (zh Aa (rom hr) rfl (za (dv 1) zg)))))) (zf (zl (zi z5 (dv 0) (dv 1)))) zm)
 (ze (zq (i:=2) sc_multiplied.nd rfl (Or.inl rfl) (zh Al (rom hr) rfl (za (dv 0) zg)))
 (ze (zq (i:=3) sc_multiplied.nd rfl (Or.inl rfl) (zh Al (rom hr) rfl (za (dv 1) zg)))
 (zf (zl (zF (za (zi zN (zi z5 (zr (dv 2) zd (fun _ _=>rfl)) (zr (dv 3) zd (fun _ _=>rfl))) (zi z5 (zr (dv 2) zd (fun _ _=>rfl)) (zr (dv 3) zd (fun _ _=>rfl)))) (za (zi zK (zi z5 (zr (dv 2) zd (fun _ _=>rfl)) (zr (dv 3) zd (fun _ _=>rfl))) (zi z5 (zr (dv 2) zd (fun _ _=>rfl)) (zr (dv 3) zd (fun _ _=>rfl)))) zg)))))))),?_⟩
 obtain rfl:=xF hm
 obtain rfl:=xF hn
 obtain⟨h1,h2,h3,h4⟩:=k1
 cases m<;>cases n
 all_goals
  walk_at "rd"
  first|refine⟨h1,?_⟩|skip
  walk_at "rd"
  first|exact q|skip
  try refine⟨h2,?_⟩
  walk_at "rd"
  try refine⟨h3,?_⟩
  walk_at "rd"
  try refine⟨h4,?_⟩
  walk_at "rd"
  try exact q
abbrev vN:Stmt:=inClass (top 20) 0
def nW:zk ["self"] ["self"] (defScope vN):=by walk_at "sc"
def yY(T:Txt K mg A)(F:Fun K "nought" "Way.nought" vN f fd):FnOk P w K mg base CX0 1 f fd ["self"] (zw K (Lq)):=by
 refine okD F nW (by walk_at "ln") fun _ _ _ _ _ _ hr ds Q h=>?_
 obtain⟨o,rfl,q⟩:=h
 refine⟨_,(zf (zl zd)),?_⟩
 exact q
abbrev wr:Stmt:=inClass (top 26) 1
def pE:zk ["self"] ["self"] (defScope wr):=by walk_at "sc"
def pQ(T:Txt K mg A)(F:Fun K "nought" "Pairs.nought" wr f fd):FnOk P w K mg base CX0 1 f fd ["self"] (zw K (Lp)):=by
 refine okD F pE (by walk_at "ln") fun _ _ _ _ _ _ hr ds Q h=>?_
 obtain⟨o,rfl,q⟩:=h
 refine⟨_,(zf (zl (zF (za zd (za zd zg))))),?_⟩
 exact⟨rfl,q⟩
abbrev wZ:Stmt:=inClass (top 21) 2
def oN:zk ["self","place"] ["self","place"] (defScope wZ):=by walk_at "sc"
def o3(T:Txt K mg A)(F:Fun K "ratio" "Plain.ratio" wZ f fd):FnOk P w K mg base CX0 1 f fd ["self","place"] (zw K (vf A .plain (Kd.ratN .plain))):=by
 refine okD F oN (by walk_at "ln") fun _ _ _ _ _ _ hr ds Q h=>?_
 obtain⟨n,p,rfl,hn,q⟩:=h
 refine⟨_,(zf (zl (z4 (dv 0)))),?_⟩
 exact⟨_,rfl,_,_,_,rfl,rfl,T.Ge,T.Gw,q⟩
abbrev w_:Stmt:=inClass (top 22) 2
def oP:zk ["self","place"] ["self","place"] (defScope w_):=by walk_at "sc"
def o8(T:Txt K mg A)(F:Fun K "ratio" "Below.ratio" w_ f fd):FnOk P w K mg base CX0 1 f fd ["self","place"] (zw K (vf A .below (Kd.ratN .below))):=by
 refine okD F oP (by walk_at "ln") fun _ _ _ _ _ _ hr ds Q h=>?_
 obtain⟨n,p,rfl,hn,q⟩:=h
 refine⟨_,(zf (zl (z0 (z4 (dv 0))))),?_⟩
 exact⟨_,rfl,_,_,_,rfl,rfl,T.Gf,T.Gx,_,rfl,q⟩
abbrev xz:Stmt:=inClass (top 23) 3
def s_:zk ["self","place"] ["self","place"] (defScope xz):=by walk_at "sc"
def rj(T:Txt K mg A)(F:Fun K "ratio" "Balanced.ratio" xz f fd):FnOk P w K mg base CX0 1 f fd ["self","place"] (zw K (vf A .balanced (Kd.ratN .balanced))):=by
 refine okD F s_ (by walk_at "ln") fun _ _ _ _ _ _ hr ds Q h=>?_
 obtain⟨n,p,rfl,hn,q⟩:=h
 refine⟨_,(zf (zl (zi zK (zi z5 zd (z4 (dv 0))) zd))),?_⟩
 exact⟨_,rfl,_,_,_,rfl,rfl,T.Gd,T.Gu,_,_,rfl,rfl,Xz (by decide),_,_,rfl,rfl,q⟩
abbrev xP:Stmt:=inClass (top 24) 2
def rY:zk ["self","place"] ["self","place"] (defScope xP):=by walk_at "sc"
def qA(T:Txt K mg A)(F:Fun K "ratio" "Growing.ratio" xP f fd):FnOk P w K mg base CX0 1 f fd ["self","place"] (zw K (vf A .growing (Kd.ratN .growing))):=by
 refine okD F rY (by walk_at "ln") fun _ _ _ _ _ _ hr ds Q h=>?_
 obtain⟨n,p,rfl,hn,q⟩:=h
 refine⟨_,(zf (zl (zi zK (z4 (dv 0)) (dv 1)))),?_⟩
 exact⟨_,rfl,_,_,_,rfl,rfl,T.Gg,T.Gy,_,rfl,_,_,rfl,rfl,q⟩
abbrev w9:Stmt:=inClass (top 26) 3
def oO:zk ["self","place"] ["self","place"] (defScope w9):=by walk_at "sc"
def o7(T:Txt K mg A)(F:Fun K "ratio" "Pairs.ratio" w9 f fd):FnOk P w K mg base CX0 1 f fd ["self","place"] (zw K (vf A .pairs (Kd.ratN .pairs))):=by
 refine okD F oO (by walk_at "ln") fun _ _ _ _ _ _ hr ds Q h=>?_
 obtain⟨n,p,rfl,hn,q⟩:=h
 refine⟨_,(zf (zl (zF (za (z0 (z4 (dv 0))) (za zd zg))))),?_⟩
 exact⟨_,rfl,_,_,_,rfl,rfl,T.H9,T.Gh,_,rfl,rfl,q⟩
abbrev wY:Stmt:=inClass (top 20) 2
def sc_Way_weights:zk ["self","many","weights","weight","place"] ["self","many"] (defScope wY):=by walk_at "sc"
def yN(T:Txt K mg A)(Ag:DOk P w K mg base 3 "added" (rP))(Ah:DOk P w K mg base 3 "multiplied" (nP))(HNo:∀k:Kd,MOk P w K mg base 1 (A.at k) "nought" (Wh k))(HR:∀k:Kd,k.five=true→MOk P w K mg base 1 (A.at k) "ratio" (vf A k (k.ratN)))(F:Fun K "weights" "Way.weights" wY f fd):FnOk P w K mg base CX0 4 f fd ["self","many"] (zZ K (HU A)):=by
 refine okF F sc_Way_weights (by walk_at "ln") fun _ _ _ _ _ _ hr ds Q h=>?_
 obtain⟨k,n,m,rfl,hk,hn,hm0,hm1,q⟩:=h
 refine⟨_,(ze (yc (i:=2) sc_Way_weights.nd rfl (Or.inl rfl) (xg zg))
 (ze (zq (i:=3) sc_Way_weights.nd rfl (Or.inl rfl) (zh Ag (rom hr) rfl (za (rJ hr (dv 0)) (za zd zg))))
 (ze (ja (j:=4) rfl sc_Way_weights.nd rfl (Or.inl rfl) PassesOwn.never rfl T.range (dv 1) (ze (xB 2 (dv 3))
 (zf (zq (i:=3) sc_Way_weights.nd rfl (Or.inl rfl) (zh Ah (rom hr) rfl (za (xu hr (dv 0) (za (dv 4) zg)) (za (dv 3) zg)))))))
 (zf (x8 2))))),?_⟩
 have e1:(("nought":Str)==k.fld)=false:=by cases k<;>decide +kernel
 have e2:(("ratio":Str)==k.fld)=false:=by cases k<;>decide +kernel
 have ew:∀j,wt k n j=wtR k n j:=fun j=>dA hk
 refine⟨rfl,_,rfl,_,rfl,_,_,_,_,rfl,e1,(HNo k).mono (by decide),⟨_,rfl,_,_,k.zero,.i 1,rfl,ym _,rfl,?_⟩⟩
 refine⟨_,rfl,_,fun i ρ=>∃v,ρ=[.some (zJ A k n),.some (.int m),.own (wts k n i),.some (wtR k n i).dt,v],rfl,by omega,by omega,⟨_,rfl⟩,?_,?_⟩
 ·rintro i ρ' hi ⟨v,rfl⟩
  have hi1:i<1000:=by omega
  refine⟨_,rfl,_,rfl,by rw[wa];omega,?_⟩
  refine⟨_,rfl,_,_,_,_,rfl,e2,(HR k hk).mono (by decide),_,rfl,n,i,rfl,hn,_,rfl,_,_,k.ratN n i,wtR k n i,rfl,ym _,ym _,Y9 hn (by omega) (by omega) _,?_⟩
  exact⟨.some (.int i),by rw[jx,ew];rfl⟩
 ·rintro ρ' ⟨v,rfl⟩
  exact⟨_,rfl,q⟩
abbrev xm:Stmt:=inClass (top 25) 2
def Gj:zk ["self","many","weights","ahead","weight","place","following"] ["self","many"] (defScope xm):=by walk_at "sc"
def sE(T:Txt K mg A)(F:Fun K "weights" "Falling.weights" xm f fd):FnOk P w K mg base CX0 1 f fd ["self","many"] (zZ K (Lo A)):=by
 refine okF F Gj (by walk_at "ln") fun _ _ _ _ _ _ hr ds Q h=>?_
 obtain⟨n,m,rfl,hn,hm0,hm1,q⟩:=h
 refine⟨_,(ze (yc (i:=2) Gj.nd rfl (Or.inl rfl) (xg zg))
 (ze (zq (i:=3) Gj.nd rfl (Or.inl rfl) zd)
 (ze (zq (i:=4) Gj.nd rfl (Or.inl rfl) zd)
 (ze (ja (j:=5) rfl Gj.nd rfl (Or.inl rfl) PassesOwn.never rfl T.range (dv 1) (ze (xB 2 (dv 4))
 (ze (zq (i:=6) Gj.nd rfl (Or.inl rfl) (zi zK (zi z5 (z4 (dv 0)) (dv 4)) (dv 3)))
 (ze (zq (i:=3) Gj.nd rfl (Or.inl rfl) (dv 4))
 (zf (zq (i:=4) Gj.nd rfl (Or.inl rfl) (dv 6)))))))
 (zf (x8 2)))))),?_⟩
 obtain⟨b1,b2⟩:=xq hn
 refine⟨rfl,_,rfl,?_⟩
 refine⟨_,rfl,_,fun i ρ=>∃v u,ρ=[.some (zJ A .falling n),.some (.int m),.own (wts .falling n i),.some (.int (wtF n i).1),.some (.int (wtF n i).2),v,u],rfl,by omega,by omega,⟨_,_,rfl⟩,?_,?_⟩
 ·rintro i ρ' hi ⟨v,u,rfl⟩
  refine⟨_,rfl,_,rfl,by rw[wa];omega,?_⟩
  refine⟨_,rfl,_,_,_,rfl,rfl,T.HX,T.H8,_,rfl,_,_,rfl,rfl,yJ (by omega) (by omega) _,_,rfl,_,_,rfl,rfl,?_⟩
  refine⟨_,rfl,_,rfl,?_⟩
  exact⟨.some (.int i),.some (.int (n*(wtF n i).2+(wtF n i).1)),by rw[jx];rfl⟩
 ·rintro ρ' ⟨v,u,rfl⟩
  exact⟨_,rfl,q⟩
abbrev yK:Stmt:=top 48
def sc_written_by_weights:zk ["way","number","figures","rest","weight"] ["way","number"] (defScope yK):=by walk_at "sc"
def um(T:Txt K mg A)(Aq:FOk P w K mg base 1 "trimmed" (jt))(HW:∀k:Kd,FMOk P w K mg base 4 (A.at k) "weights" (Yv A k))(F:Fun K "written_by_weights" "written_by_weights" yK f fd):FnOk P w K mg base CX0 5 f fd ["way","number"] (zZ K (VJ A)):=by
 refine okF F sc_written_by_weights (by walk_at "ln") fun _ _ _ _ _ _ hr ds Q h=>?_
 obtain⟨n,m,rfl,hn,hm,hb,q⟩:=h
 refine⟨_,(ze (yc (i:=2) sc_written_by_weights.nd rfl (Or.inl rfl) (xg zg))
 (ze (zq (i:=3) sc_written_by_weights.nd rfl (Or.inl rfl) (dv 1))
 (ze (pZ (j:=4) rfl sc_written_by_weights.nd rfl (Or.inl rfl) PassesOwn.never rfl T.n_reversed (za (DF.de (cC hr (dv 0) (za (zi z5 zd (X6 (dv 1))) zg))) zg) (ze (xB 2 (zi oj (dv 3) (dv 4)))
 (zf (zq (i:=3) sc_written_by_weights.nd rfl (Or.inl rfl) (zi z8 (dv 3) (dv 4))))))
 (ze (qP 2)
 (xt 2 (zf (yx (zM Aq (rom hr) rfl (za (dv 2) zg))))))))),?_⟩
 have h1:1≤n:=hn.1
 have h9:n≤9:=hn.2
 refine⟨rfl,_,rfl,_,rfl,?_⟩
 have e2:(2:Int)*((Builtin.Int.intBits m:Nat):Int)=((2*Builtin.Int.intBits m:Nat):Int):=by omega
 refine⟨_,rfl,_,_,_,_,rfl,lq .falling,(HW .falling).mono (by decide),_,rfl,_,rfl,_,_,rfl,rfl,Xz (by decide),n,_,rfl,hn,by omega,by omega,?_⟩
 unfold nw lj at q
 rw[e2,Cb]
 generalize hL:2 * Builtin.Int.intBits m=L at *
 have lw:=wa .falling n L
 refine⟨_,_,fun i ρ=>∃v,ρ=[.some (zJ A .falling n),.some (.int m),.own (((List.range i).map fun q=>gs n m L (L-1-q)).map Dt.int),.some (.int (rs n m L i)),v]∧i≤L,rfl,rfl,⟨_,rfl,B4 _⟩,?_,?_⟩
 ·rintro i x ρ' hx ⟨v,rfl,hi⟩
  obtain⟨hi2,hx2⟩:=d9 hx
  rw[lw]at hi2 hx2
  obtain rfl:=dz hx2
  have hw:(wt .falling n (L-1-i)).dt=.int (wf n (L-1-i)):=rfl
  rw[hw]
  have p1:=(zQ h1 (L-1-i)).1
  have b:=ao h1 h9 (L-1-i)
  have b2:(wf n (L-1-i)).natAbs<2^(4*(L-1-i)+1):=by rw[CG];have:=Nat.two_pow_pos (4*(L-1-i));omega
  have hbig:(wf n (L-1-i)).natAbs<2^9000:=BO b2 (B6 (by decide) (by omega))
  refine⟨_,rfl,_,rfl,_,rfl,_,_,rfl,rfl,cK (by omega) hbig,by rw[Bs,Bs,Ch];omega,?_⟩
  ·refine⟨_,rfl,_,rfl,_,_,rfl,rfl,(by show wf n (L-1-i)≠0;omega),.some (.int (wf n (L-1-i))),?_,by omega⟩
   rw[List.range_succ,B3,B3]
   have eg:gs n m L (L-1-i)=(rs n m L i).fdiv (wf n (L-1-i)):=by unfold gs;rw[show L-1-(L-1-i)=i by omega]
   rw[Cg,List.map_nil,Cg,List.map_nil,eg]
   rfl
 ·rintro ρ' ⟨v,rfl,_⟩
  refine⟨_,rfl,_,rfl,_,rfl,_,?_,q⟩
  rw[lw,←CJ,bu]
  rfl
abbrev sr:Stmt:=top 28
def jQ:zk ["row","place"] ["row","place"] (defScope sr):=by walk_at "sc"
def j8(T:Txt K mg A)(F:Fun K "thing_at" "thing_at" sr f fd):FnOk P w K mg base CX0 1 f fd ["row","place"] (zw K (wL)):=by
 refine okD F jQ (by walk_at "ln") fun _ _ _ _ _ _ hr ds Q h=>?_
 obtain⟨xs,p,rfl,hp,q⟩:=h
 refine⟨_,(ze (zx (zp (uO) (dv 1) (yt rfl T.len (dv 0)) (zo _)) (zf (zl (zr (dv 0) (dv 1) (fun _ _=>rfl)))) zm)
 (zf (zl zd))),?_⟩
 refine⟨_,rfl,_,rfl,_,rfl,_,_,rfl,rfl,_,rfl,Hj (fun h=>?_) (fun h=>?_)⟩
 ·have h:p<(xs.length:Int):=of_decide_eq_true h
  have hl:p.toNat<xs.length:=by omega
  have e:((p.toNat:Nat):Int)=p:=Int.toNat_of_nonneg hp
  have:=ud (Bu hl)
  rw[e]at this
  rw[Br,Bu hl]at q
  exact⟨_,rfl,_,rfl,_,_,_,rfl,rfl,this,q⟩
 ·have h:¬p<(xs.length:Int):=fun z=>h (decide_eq_true z)
  rw[Br,BG (by omega)]at q
  exact q
abbrev qr:Stmt:=inClass (top 20) 5
def fu:zk ["self","number"] ["self","number"] (defScope qr):=by walk_at "sc"
def sD(T:Txt K mg A)(Aa:DOk P w K mg base 1 "is_whole" (x_))(F:Fun K "has" "Way.has" qr f fd):FnOk P w K mg base CX0 2 f fd ["self","number"] (zw K (sV .plain)):=by
 refine okD F fu (by walk_at "ln") fun _ _ _ _ _ _ hr ds Q h=>?_
 obtain⟨o,d,m,rfl,hm,q⟩:=h
 refine⟨_,(zf (zl (u9 (zh Aa (rom hr) rfl (za (dv 1) zg)) (sP (xR (eA) (dv 1) zd (zo _)))))),?_⟩
 obtain rfl:=xF hm
 cases m
 all_goals
  walk_at "rd"
  exact q
abbrev uH:Stmt:=inClass (top 22) 3
def lY:zk ["self","number"] ["self","number"] (defScope uH):=by walk_at "sc"
def kD(T:Txt K mg A)(Aa:DOk P w K mg base 1 "is_whole" (x_))(F:Fun K "has" "Below.has" uH f fd):FnOk P w K mg base CX0 2 f fd ["self","number"] (zw K (sV .below)):=by
 refine okD F lY (by walk_at "ln") fun _ _ _ _ _ _ hr ds Q h=>?_
 obtain⟨o,d,m,rfl,hm,q⟩:=h
 refine⟨_,(zf (zl (zh Aa (rom hr) rfl (za (dv 1) zg)))),?_⟩
 obtain rfl:=xF hm
 cases m
 all_goals
  walk_at "rd"
  exact q
abbrev wy:Stmt:=inClass (top 23) 4
def pK:zk ["self","number"] ["self","number"] (defScope wy):=by walk_at "sc"
def pW(T:Txt K mg A)(Aa:DOk P w K mg base 1 "is_whole" (x_))(F:Fun K "has" "Balanced.has" wy f fd):FnOk P w K mg base CX0 2 f fd ["self","number"] (zw K (sV .balanced)):=by
 refine okD F pK (by walk_at "ln") fun _ _ _ _ _ _ hr ds Q h=>?_
 obtain⟨o,d,m,rfl,hm,q⟩:=h
 refine⟨_,(zf (zl (zh Aa (rom hr) rfl (za (dv 1) zg)))),?_⟩
 obtain rfl:=xF hm
 cases m
 all_goals
  walk_at "rd"
  exact q
abbrev qk:Stmt:=top 14
def fk:zk ["value"] ["value"] (defScope qk):=by walk_at "sc"
def fY(T:Txt K mg A)(Aa:DOk P w K mg base 1 "is_whole" (x_))(F:Fun K "is_pair" "is_pair" qk f fd):FnOk P w K mg base CX0 2 f fd ["value"] (zw K (tO)):=by
 refine okD F fk (by walk_at "ln") fun _ _ _ _ _ _ hr ds Q h=>?_
 obtain⟨d,m,rfl,hm,q⟩:=h
 refine⟨_,(zf (zl (u9 (je (T:=.tuple) T.kt T.isinstance T.n_tuple PyProof.Rows.boot_tuple (dv 0)) (u9 (xR (wC hr) (yt rfl T.len (dv 0)) zd (zo _)) (u9 (zh Aa (rom hr) rfl (za (zr (dv 0) zd (fun _ _=>rfl)) zg)) (sP (zh Aa (rom hr) rfl (za (zr (dv 0) zd (fun _ _=>rfl)) zg)))))))),?_⟩
 obtain rfl:=xF hm
 cases m
 all_goals
  walk_at "rd"
  exact q
abbrev uG:Stmt:=inClass (top 26) 5
def lX:zk ["self","number"] ["self","number"] (defScope uG):=by walk_at "sc"
def kC(T:Txt K mg A)(Ar:DOk P w K mg base 2 "is_pair" (tO))(F:Fun K "has" "Pairs.has" uG f fd):FnOk P w K mg base CX0 3 f fd ["self","number"] (zw K (sV .pairs)):=by
 refine okD F lX (by walk_at "ln") fun _ _ _ _ _ _ hr ds Q h=>?_
 obtain⟨o,d,m,rfl,hm,q⟩:=h
 refine⟨_,(zf (zl (zh Ar (rom hr) rfl (za (dv 1) zg)))),?_⟩
 obtain rfl:=xF hm
 refine⟨_,rfl,_,m,rfl,hm,?_⟩
 cases m<;>exact q
abbrev qp:Stmt:=inClass (top 20) 1
def ft:zk ["self","place"] ["self","place"] (defScope qp):=by walk_at "sc"
def wB(T:Txt K mg A)(F:Fun K "low" "Way.low" qp f fd):FnOk P w K mg base CX0 1 f fd ["self","place"] (zw K (Tn)):=by
 refine okD F ft (by walk_at "ln") fun _ _ _ _ _ _ hr ds Q h=>?_
 obtain⟨o,p,rfl,q⟩:=h
 refine⟨_,(zf (zl zd)),?_⟩
 exact q
abbrev wx:Stmt:=inClass (top 23) 1
def pJ:zk ["self","place"] ["self","place"] (defScope wx):=by walk_at "sc"
def pV(T:Txt K mg A)(F:Fun K "low" "Balanced.low" wx f fd):FnOk P w K mg base CX0 1 f fd ["self","place"] (zw K (vx A .balanced (Kd.low .balanced))):=by
 refine okD F pJ (by walk_at "ln") fun _ _ _ _ _ _ hr ds Q h=>?_
 obtain⟨n,p,rfl,hn,q⟩:=h
 refine⟨_,(zf (zl (z0 (z4 (dv 0))))),?_⟩
 exact⟨_,rfl,_,_,_,rfl,rfl,T.Gd,T.Gu,_,rfl,q⟩
abbrev vO:Stmt:=inClass (top 21) 1
def nY:zk ["self","place"] ["self","place"] (defScope vO):=by walk_at "sc"
def ml(T:Txt K mg A)(F:Fun K "high" "Plain.high" vO f fd):FnOk P w K mg base CX0 1 f fd ["self","place"] (zw K (vx A .plain (Kd.high .plain))):=by
 refine okD F nY (by walk_at "ln") fun _ _ _ _ _ _ hr ds Q h=>?_
 obtain⟨n,p,rfl,hn,q⟩:=h
 refine⟨_,(zf (zl (zi zN (z4 (dv 0)) zd))),?_⟩
 exact⟨_,rfl,_,_,_,rfl,rfl,T.Ge,T.Gw,_,_,rfl,rfl,q⟩
abbrev vQ:Stmt:=inClass (top 22) 1
def n6:zk ["self","place"] ["self","place"] (defScope vQ):=by walk_at "sc"
def mt(T:Txt K mg A)(F:Fun K "high" "Below.high" vQ f fd):FnOk P w K mg base CX0 1 f fd ["self","place"] (zw K (vx A .below (Kd.high .below))):=by
 refine okD F n6 (by walk_at "ln") fun _ _ _ _ _ _ hr ds Q h=>?_
 obtain⟨n,p,rfl,hn,q⟩:=h
 refine⟨_,(zf (zl (zi zN (z4 (dv 0)) zd))),?_⟩
 exact⟨_,rfl,_,_,_,rfl,rfl,T.Gf,T.Gx,_,_,rfl,rfl,q⟩
abbrev xQ:Stmt:=inClass (top 23) 2
def r0:zk ["self","place"] ["self","place"] (defScope xQ):=by walk_at "sc"
def qC(T:Txt K mg A)(F:Fun K "high" "Balanced.high" xQ f fd):FnOk P w K mg base CX0 1 f fd ["self","place"] (zw K (vx A .balanced (Kd.high .balanced))):=by
 refine okD F r0 (by walk_at "ln") fun _ _ _ _ _ _ hr ds Q h=>?_
 obtain⟨n,p,rfl,hn,q⟩:=h
 refine⟨_,(zf (zl (z4 (dv 0)))),?_⟩
 exact⟨_,rfl,_,_,_,rfl,rfl,T.Gd,T.Gu,q⟩
abbrev wu:Stmt:=inClass (top 24) 1
def pG:zk ["self","place"] ["self","place"] (defScope wu):=by walk_at "sc"
def pS(T:Txt K mg A)(F:Fun K "high" "Growing.high" wu f fd):FnOk P w K mg base CX0 1 f fd ["self","place"] (zw K (vx A .growing (Kd.high .growing))):=by
 refine okD F pG (by walk_at "ln") fun _ _ _ _ _ _ hr ds Q h=>?_
 obtain⟨n,p,rfl,hn,q⟩:=h
 refine⟨_,(zf (zl (zi zN (zi zK (z4 (dv 0)) (dv 1)) zd))),?_⟩
 exact⟨_,rfl,_,_,_,rfl,rfl,T.Gg,T.Gy,_,rfl,_,_,rfl,rfl,_,_,rfl,rfl,q⟩
abbrev ww:Stmt:=inClass (top 25) 1
def pI:zk ["self","place"] ["self","place"] (defScope ww):=by walk_at "sc"
def pU(T:Txt K mg A)(F:Fun K "high" "Falling.high" ww f fd):FnOk P w K mg base CX0 1 f fd ["self","place"] (zw K (vx A .falling (Kd.high .falling))):=by
 refine okD F pI (by walk_at "ln") fun _ _ _ _ _ _ hr ds Q h=>?_
 obtain⟨n,p,rfl,hn,q⟩:=h
 refine⟨_,(zf (zl (z4 (dv 0)))),?_⟩
 exact⟨_,rfl,_,_,_,rfl,rfl,T.HX,T.H8,q⟩
abbrev vP:Stmt:=inClass (top 26) 2
def n4:zk ["self","place"] ["self","place"] (defScope vP):=by walk_at "sc"
def mq(T:Txt K mg A)(F:Fun K "high" "Pairs.high" vP f fd):FnOk P w K mg base CX0 1 f fd ["self","place"] (zw K (vx A .pairs (Kd.high .pairs))):=by
 refine okD F n4 (by walk_at "ln") fun _ _ _ _ _ _ hr ds Q h=>?_
 obtain⟨n,p,rfl,hn,q⟩:=h
 refine⟨_,(zf (zl (zi z5 (z4 (dv 0)) (z4 (dv 0))))),?_⟩
 obtain⟨h1,h2⟩:=xq hn
 exact⟨_,rfl,_,_,_,rfl,rfl,T.H9,T.Gh,_,rfl,_,_,_,rfl,rfl,T.H9,T.Gh,_,_,rfl,rfl,small (by omega) (by omega) _,q⟩
abbrev uF:Stmt:=inClass (top 20) 4
def sc_Way_split:zk ["self","total","place","low","figures","figure"] ["self","total","place"] (defScope uF):=by walk_at "sc"
def xZ(T:Txt K mg A)(HLo:∀k:Kd,MOk P w K mg base 1 (A.at k) "low" (vx A k (k.low))∧MOk P w K mg base 1 (A.at k) "high" (vx A k (k.high)))(HR:∀k:Kd,k.five=true→MOk P w K mg base 1 (A.at k) "ratio" (vf A k (k.ratN)))(F:Fun K "split" "Way.split" uF f fd):FnOk P w K mg base CX0 2 f fd ["self","total","place"] (zw K (Yy A)):=by
 refine okD F sc_Way_split (by walk_at "ln") fun _ _ _ _ _ _ hr ds Q h=>?_
 obtain⟨k,n,t,j,rfl,h4,hn,hj,q⟩:=h
 refine⟨_,(ze (zq (i:=3) sc_Way_split.nd rfl (Or.inl rfl) (xu hr (dv 0) (za (dv 2) zg)))
 (ze (zq (i:=4) sc_Way_split.nd rfl (Or.inl rfl) (zi zK (zi zN (xu hr (dv 0) (za (dv 2) zg)) (dv 3)) zd))
 (ze (zq (i:=5) sc_Way_split.nd rfl (Or.inl rfl) (zi zK (dv 3) (zi z8 (zi zN (dv 1) (dv 3)) (dv 4))))
 (zf (zl (zF (za (dv 5) (za (zi yF (zi zN (dv 1) (dv 5)) (xu hr (dv 0) (za (dv 2) zg))) zg)))))))),?_⟩
 obtain⟨M1,M2⟩:=HLo k
 have h5:k.five=true:=by cases k<;>first|rfl|cases h4
 have M3:=HR k h5
 obtain⟨e1,e2⟩:=lQ h4 n j
 have hp:=oI h4 hn j
 have hr:k.ratN n j=.i (k.rat n j):=by cases k<;>first|rfl|cases h4
 have hb:(k.rat n j).natAbs<1073741824:=by
  obtain⟨b1,b2⟩:=xq hn
  cases k<;>cases h4<;>simp only[Kd.rat]<;>omega
 refine⟨_,rfl,_,_,_,_,rfl,Vz k,M1.mono (by decide),_,rfl,n,j,rfl,hn,?_⟩
 refine⟨_,rfl,_,_,_,_,rfl,Z2 k,M2.mono (by decide),_,rfl,n,j,rfl,hn,_,rfl,_,_,rfl,rfl,_,_,rfl,rfl,?_⟩
 refine⟨_,rfl,_,rfl,_,rfl,_,_,rfl,rfl,_,rfl,_,_,rfl,rfl,(show k.high n j-k.low n j+1≠0 by omega),_,_,rfl,rfl,?_⟩
 refine⟨_,rfl,_,rfl,_,rfl,_,_,rfl,rfl,_,rfl,_,_,_,_,rfl,kY k,M3.mono (by decide),_,rfl,n,j,rfl,hn,?_⟩
 rw[hr]
 refine⟨_,_,rfl,rfl,⟨by omega,hb⟩,rfl,?_⟩
 cases k<;>cases h4<;>exact q
abbrev w8:Stmt:=inClass (top 26) 4
def Gk:zk ["self","total","place","pair","figures","figure","turned"] ["self","total","place"] (defScope w8):=by walk_at "sc"
def o6(T:Txt K mg A)(Al:DOk P w K mg base 2 "as_pair" (vy))(Ah:DOk P w K mg base 3 "multiplied" (nP))(F:Fun K "split" "Pairs.split" w8 f fd):FnOk P w K mg base CX0 4 f fd ["self","total","place"] (zw K (Yz A)):=by
 refine okD F Gk (by walk_at "ln") fun _ _ _ _ _ _ hr ds Q h=>?_
 obtain⟨n,d,m,j,rfl,hm,hn,q⟩:=h
 refine⟨_,(ze (zq (i:=3) Gk.nd rfl (Or.inl rfl) (zh Al (rom hr) rfl (za (dv 1) zg)))
 (ze (zq (i:=4) Gk.nd rfl (Or.inl rfl) (zi zK (zi z5 (z4 (dv 0)) (z4 (dv 0))) zd))
 (ze (zq (i:=5) Gk.nd rfl (Or.inl rfl) (zi z8 (zi zK (zr (dv 3) zd (fun _ _=>rfl)) (zi z5 (z4 (dv 0)) (zr (dv 3) zd (fun _ _=>rfl)))) (dv 4)))
 (ze (zq (i:=6) Gk.nd rfl (Or.inl rfl) (zh Ah (rom hr) rfl (za (zF (za (zi zN (zr (dv 3) zd (fun _ _=>rfl)) (dv 5)) (za (zr (dv 3) zd (fun _ _=>rfl)) zg))) (za (zF (za (z0 (z4 (dv 0))) (za (z0 zd) zg))) zg))))
 (zf (zl (zF (za (dv 5) (za (zF (za (zi yF (zr (dv 6) zd (fun _ _=>rfl)) (dv 4)) (za (zi yF (zr (dv 6) zd (fun _ _=>rfl)) (dv 4)) zg))) zg))))))))),?_⟩
 have hn1:1≤n:=hn.1
 have hn2:n≤9:=hn.2
 have sq:n*n≤81:=by
  have:=BP hn2 hn2 (by omega) (by omega)
  omega
 have sq0:0≤n*n:=BX (by omega) (by omega)
 have hN:c8 0 (n*n+1):=⟨by omega,by omega⟩
 refine⟨_,rfl,_,m,rfl,hm,?_⟩
 refine⟨_,rfl,_,_,_,rfl,rfl,T.H9,T.Gh,_,rfl,_,_,_,rfl,rfl,T.H9,T.Gh,_,_,rfl,rfl,small (by omega) (by omega) _,_,_,rfl,rfl,?_⟩
 refine⟨_,rfl,_,_,_,rfl,rfl,rfl,_,rfl,_,_,_,rfl,rfl,T.H9,T.Gh,_,rfl,_,_,_,rfl,rfl,rfl,_,_,rfl,rfl,yJ (by omega) (by omega) _,_,_,rfl,rfl,_,rfl,_,_,rfl,rfl,(show n*n+1≠0 by omega),?_⟩
 repeat(first|(walk_at "rd1")|refine⟨_,_,_,rfl,rfl,T.H9,T.Gh,?_⟩)
 refine⟨⟨small (show -1000000≤-n by omega) (show -n≤1000000 by omega) _,small (show(-1000000:Int)≤-1 by decide) (show(-1:Int)≤1000000 by decide) _,small (show(-1000000:Int)≤-1 by decide) (show(-1:Int)≤1000000 by decide) _,small (show -1000000≤-n by omega) (show -n≤1000000 by omega) _⟩,?_⟩
 repeat(first|(walk_at "rd1")|refine⟨hN,?_⟩)
 exact q
abbrev yE:Stmt:=top 39
def sc_figures_and_carries:zk ["way","totals","figures","carry","found","place","parts"] ["way","totals"] (defScope yE):=by walk_at "sc"
def vV(T:Txt K mg A)(Ag:DOk P w K mg base 3 "added" (rP))(Aj:DOk P w K mg base 1 "thing_at" (wL))(HNo:∀k:Kd,MOk P w K mg base 1 (A.at k) "nought" (Wh k))(HHas:∀k:Kd,MOk P w K mg base 3 (A.at k) "has" (sV k))(HSp:∀k:Kd,k.five=true→MOk P w K mg base 4 (A.at k) "split" (cS A k))(F:Fun K "figures_and_carries" "figures_and_carries" yE f fd):FnOk P w K mg base CX0 5 f fd ["way","totals"] (zw K (Lu A)):=by
 refine okD F sc_figures_and_carries (by walk_at "ln") fun _ _ _ _ _ _ hr ds Q h=>?_
 obtain⟨k,n,ts,J,rfl,h5,hn,ht,F,hJ,q⟩:=h
 refine⟨_,(ze (zx (zR (y6 T.isinstance T.Gi (dv 0))) (zf zP) zm)
 (ze (yc (i:=2) sc_figures_and_carries.nd rfl (Or.inl rfl) (xg zg))
 (ze (zq (i:=3) sc_figures_and_carries.nd rfl (Or.inl rfl) (rJ hr (dv 0)))
 (ze (yc (i:=4) sc_figures_and_carries.nd rfl (Or.inl rfl) (xg (za (dv 3) zg)))
 (ze (xN PassesOwn.never (DW.dt (uZ (zp (uO) (ua 2 rfl T.len) (yt rfl T.len (dv 1)) (zo _)) (uY (zp (kF hr) (dv 3) (rJ hr (dv 0)) (zo _))))) (ze (zq (i:=5) sc_figures_and_carries.nd rfl (Or.inl rfl) (ua 2 rfl T.len))
 (zX (zx (DW.dt (yk (zp (eA) (dv 5) (yt rfl T.len (dv 1)) (zo _)) (yo (yV (zR (xu hr (dv 0) (za (dv 3) zg))))))) (zf zP) zm)
 (ze (zq (i:=6) sc_figures_and_carries.nd rfl (Or.inl rfl) (xu hr (dv 0) (za (zh Ag (rom hr) rfl (za (dv 3) (za (zh Aj (rom hr) rfl (za (dv 1) (za (dv 5) zg))) zg))) (za (dv 5) zg))))
 (ze (xB 2 (zr (dv 6) zd (fun _ _=>rfl)))
 (ze (zq (i:=3) sc_figures_and_carries.nd rfl (Or.inl rfl) (zr (dv 6) zd (fun _ _=>rfl)))
 (zf (xB 4 (dv 3)))))))))
 (xt 2 (xt 4 (zf (zl (zF (za (dv 2) (za (dv 4) zg)))))))))))),?_⟩
 have ll:(ts.map Nm.dt).length=ts.length:=Bs _
 refine⟨_,rfl,_,_,_,_,rfl,uU T k,kiF T k,_,rfl,?_⟩
 refine ifF (vp h5) ?_
 refine⟨rfl,_,rfl,_,rfl,_,_,_,_,rfl,rE k,(HNo k).mono (by decide),_,rfl,_,rfl,rfl,_,rfl,?_⟩
 refine⟨fun m ρ=>∃j v5 v6,ρ=[.some (zJ A k n),.some (pq ts),.own ((vt k n ts j).map Dt.int),.some (cAt k n ts j).dt,.own (gd k n ts (j+1)),v5,v6]∧m=J-j∧j≤J,⟨J,0,_,_,rfl,rfl,B4 _⟩,?_⟩
 rintro m ρ' ⟨j,v5,v6,rfl,rfl,hj⟩
 have fl:=vq k n ts j
 have fl':((vt k n ts j).map Dt.int).length=j:=by rw[Bs,fl]
 have cl:(gd k n ts (j+1)).length=j+1:=by unfold gd;rw[List.length_map,X9]
 have hcz:cAt k n ts j=k.zero↔eqD (cAt k n ts j).dt k.zero.dt=true:=(UR (wK k n ts j) (yZ k)).symm
 refine⟨_,rfl,_,rfl,_,rfl,_,_,rfl,rfl,_,rfl,?_⟩
 by_cases hjJ:j<J
 ·refine ifB (fun _=>ifT rfl ?_) (fun hlt=>⟨_,rfl,_,rfl,_,_,_,_,rfl,rE k,(HNo k).mono (by decide),_,rfl,sG _,sG _,_,rfl,ifT (nF ?_) ?_⟩)
  rotate_left
  ·have hle:ts.length≤j:=by have:=of_decide_eq_false hlt;omega
   cases e:eqD (cAt k n ts j).dt k.zero.dt with
   | false=>rfl
   | true=>exact absurd (hcz.mpr e) (F.nz j hle hjJ).1
  all_goals
   refine⟨_,rfl,?_⟩
   rw[fl']
   refine⟨fun ρ=>ρ=[.some (zJ A k n),.some (pq ts),.own ((vt k n ts j).map Dt.int),.some (cAt k n ts j).dt,.own (gd k n ts (j+1)),.some (.int j),v6],?_,?_⟩
   ·refine⟨_,rfl,_,rfl,_,rfl,_,_,rfl,rfl,_,rfl,?_⟩
    refine ifB (fun hge=>?_) (fun _=>ifF rfl rfl)
    have hge:ts.length≤j:=by have:=of_decide_eq_true hge;omega
    refine⟨_,rfl,_,_,_,_,rfl,VA k,(HHas k).mono (by decide),_,rfl,_,_,_,rfl,ym _,_,rfl,?_⟩
    rw[(F.nz j hge hjJ).2]
    exact ifF rfl rfl
   ·rintro ρ' rfl
    refine⟨_,rfl,_,_,_,_,rfl,XV k,(HSp k h5).mono (by decide),_,rfl,_,rfl,_,rfl,_,_,rfl,by omega,?_⟩
    rw[Cb,kT]
    refine⟨_,_,_,_,rfl,ym _,ym _,_,rfl,n,_,j,rfl,uf (wK k n ts j) (xJ ht j),hn,by omega,?_⟩
    refine⟨_,rfl,_,rfl,_,_,_,rfl,rfl,rfl,by omega,?_⟩
    refine⟨_,rfl,_,_,_,rfl,rfl,rfl,?_⟩
    refine⟨_,rfl,_,rfl,by omega,J-(j+1),by omega,j+1,.some (.int j),.some (.tup [.int (fAt k n ts j),(cAt k n ts (j+1)).dt]),?_,rfl,hjJ⟩
    have ef:(vt k n ts j).map Dt.int++[Dt.int (fAt k n ts j)]=(vt k n ts (j+1)).map Dt.int:=by rw[bS,vw]
    have ec:gd k n ts (j+1)++[(cAt k n ts (j+1)).dt]=gd k n ts (j+1+1):=by unfold gd;rw[Yp k n ts (j+1),List.map_append];rfl
    rw[←ec,←ef]
    rfl
 ·have ej:j=J:=by omega
  subst ej
  refine ifF (decide_eq_false (by rw[fl',ll];have:=F.le;omega)) ?_
  refine⟨_,rfl,_,rfl,_,_,_,_,rfl,rE k,(HNo k).mono (by decide),_,rfl,sG _,sG _,_,rfl,ifF (nT (hcz.mp F.z)) ?_⟩
  exact⟨_,rfl,_,rfl,_,rfl,_,rfl,rfl,q⟩
abbrev qe:Stmt:=top 40
def ff:zk ["way","totals"] ["way","totals"] (defScope qe):=by walk_at "sc"
def fR(T:Txt K mg A)(Aq:FOk P w K mg base 1 "trimmed" (jt))(AM:DOk P w K mg base 5 "figures_and_carries" (Lu A))(F:Fun K "settled" "settled" qe f fd):FnOk P w K mg base CX0 6 f fd ["way","totals"] (zZ K (qU A)):=by
 refine okF F ff (by walk_at "ln") fun _ _ _ _ _ _ hr ds Q h=>?_
 obtain⟨k,n,ts,J,rfl,h5,hn,ht,F,hJ,q⟩:=h
 refine⟨_,(zf (yx (zM Aq (rom hr) rfl (za (zr (zh AM (rom hr) rfl (za (dv 0) (za (dv 1) zg))) zd (fun _ _=>rfl)) zg)))),?_⟩
 refine⟨_,rfl,_,rfl,k,n,ts,J,rfl,h5,hn,ht,F,hJ,_,_,_,rfl,rfl,rfl,?_⟩
 exact⟨_,rfl,q⟩
abbrev qa:Stmt:=top 49
def fc:zk ["way","number"] ["way","number"] (defScope qa):=by walk_at "sc"
def fO(T:Txt K mg A)(AN:FOk P w K mg base 5 "written_by_weights" (VJ A))(Ay:FOk P w K mg base 6 "settled" (qU A))(HHas:∀k:Kd,MOk P w K mg base 3 (A.at k) "has" (sV k))(F:Fun K "written" "written" qa f fd):FnOk P w K mg base CX0 7 f fd ["way","number"] (zZ K (qT A)):=by
 refine okF F fc (by walk_at "ln") fun _ _ _ _ _ _ hr ds Q h=>?_
 obtain⟨k,n,m,r,rfl,hn,hm,hw,q⟩:=h
 refine⟨_,(ze (zx (yV (zR (xu hr (dv 0) (za (dv 1) zg)))) (zf zP) zm)
 (ze (zx (zR (y6 T.isinstance T.Gi (dv 0))) (zf (yx (zM AN (rom hr) rfl (za (dv 0) (za (dv 1) zg))))) zm)
 (zf (yx (zM Ay (rom hr) rfl (za (dv 0) (za (z9 (za (dv 1) zg)) zg))))))),?_⟩
 refine⟨_,rfl,_,_,_,_,rfl,VA k,(HHas k).mono (by decide),_,rfl,_,_,_,rfl,ym m,_,rfl,?_⟩
 rw[hm]
 refine ifF rfl ?_
 refine⟨_,rfl,_,_,_,_,rfl,uU T k,kiF T k,_,rfl,?_⟩
 by_cases hk:k=.falling
 ·subst hk
  obtain⟨a,rfl⟩:∃a,m=.i a:=uV hm
  obtain⟨rfl,hb⟩:=hw
  exact ifT rfl ⟨_,rfl,_,rfl,n,a,rfl,hn,of_decide_eq_true hm,hb,q⟩
 ·have h5:k.five=true:=by cases k<;>first|rfl|exact absurd rfl hk
  obtain⟨J,hJ,F,rfl⟩:∃J,J≤50000∧Fin k n [m] J∧r=pr k n [m] J:=by cases k<;>first|exact hw|exact absurd rfl hk
  refine ifF (vp h5) ⟨_,rfl,_,rfl,rfl,k,n,[m],J,rfl,h5,hn,km hm,F,hJ,q⟩
abbrev wX:Stmt:=top 81
def sc_number_read:zk ["text","parts"] ["text"] (defScope wX):=by walk_at "sc"
def o0(T:Txt K mg A)(Ak:DOk P w K mg base 2 "whole_read" (tq))(F:Fun K "number_read" "number_read" wX f fd):FnOk P w K mg base CX0 3 f fd ["text"] (zw K (gF)):=by
 refine okD F sc_number_read (by walk_at "ln") fun _ _ _ _ _ _ hr ds Q h=>?_
 obtain⟨m,rfl,hm,q⟩:=h
 refine⟨_,(ze (zq (i:=1) sc_number_read.nd rfl (Or.inl rfl) (DF.de (u5 (dv 0) zt)))
 (ze (zx (zp (wC hr) (yt rfl T.len (dv 1)) zd (zo _)) (zf (zl (zh Ak (rom hr) rfl (za (dv 0) zg)))) zm)
 (ze (zx (zp (rk) (yt rfl T.len (dv 1)) zd (zo _)) (zf zP) zm)
 (zf (zl (zF (za (zh Ak (rom hr) rfl (za (zr (dv 1) zd (fun _ _=>rfl)) zg)) (za (zh Ak (rom hr) rfl (za (zr (dv 1) zd (fun _ _=>rfl)) zg)) zg)))))))),?_⟩
 have hl:=oJ hm
 refine⟨_,rfl,_,rfl,by omega,_,rfl,rfl,?_⟩
 obtain⟨h1,h2⟩:=hm
 cases m with
 | i a=>
  have l1:=zT (k:=60) a (by decide) h1
  rw[show Txt.split (tZ (.i a)) ","=[shw a] from bm a]
  exact⟨_,rfl,_,rfl,rfl,rfl,_,rfl,ifT rfl ⟨_,rfl,_,a,rfl,vC a,by omega,uu h1,q⟩⟩
 | p a b=>
  have l1:=zT (k:=60) a (by decide) h1
  have l2:=zT (k:=60) b (by decide) h2
  rw[fL]
  refine⟨_,rfl,_,rfl,rfl,rfl,_,rfl,ifF rfl ⟨_,rfl,_,rfl,_,_,rfl,rfl,_,rfl,ifF rfl ?_⟩⟩
  exact⟨_,rfl,_,_,_,rfl,rfl,rfl,_,a,rfl,vC a,by omega,uu h1,_,rfl,_,_,_,rfl,rfl,rfl,_,b,rfl,vC b,by omega,uu h2,rfl,q⟩
abbrev wj:Stmt:=top 76
def pD:zk ["number"] ["number"] (defScope wj):=by walk_at "sc"
def pM(T:Txt K mg A)(Ar:DOk P w K mg base 2 "is_pair" (tO))(Ao:DOk P w K mg base 2 "whole_shown" (nM))(F:Fun K "number_shown" "number_shown" wj f fd):FnOk P w K mg base CX0 3 f fd ["number"] (zw K (nO)):=by
 refine okD F pD (by walk_at "ln") fun _ _ _ _ _ _ hr ds Q h=>?_
 obtain⟨m,rfl,⟨h1,h2⟩,q⟩:=h
 refine⟨_,(ze (zx (zR (zh Ar (rom hr) rfl (za (dv 0) zg))) (zf (zl (zi xb (zi xb (zh Ao (rom hr) rfl (za (zr (dv 0) zd (fun _ _=>rfl)) zg)) zt) (zh Ao (rom hr) rfl (za (zr (dv 0) zd (fun _ _=>rfl)) zg))))) zm)
 (zf (zl (zh Ao (rom hr) rfl (za (dv 0) zg))))),?_⟩
 refine⟨_,rfl,_,m,rfl,ym m,_,rfl,?_⟩
 cases m with
 | i a=>exact ifF rfl ⟨_,rfl,a,rfl,h1,q⟩
 | p a b=>
  have l1:=zT (k:=60) a (by decide) h1
  have l2:=zT (k:=60) b (by decide) h2
  exact ifT rfl ⟨_,rfl,_,_,_,rfl,rfl,rfl,a,rfl,h1,_,_,rfl,rfl,by rw[vo];omega,_,rfl,_,_,_,rfl,rfl,rfl,b,rfl,h2,_,_,rfl,rfl,by rw[yw,vo];omega,q⟩
abbrev lZ:Stmt:=top 47
def sc_worth:zk ["way","row","number","thing","weight"] ["way","row"] (defScope lZ):=by walk_at "sc"
def Zq(T:Txt K mg A)(Ag:DOk P w K mg base 3 "added" (rP))(Ah:DOk P w K mg base 3 "multiplied" (nP))(HNo:∀k:Kd,MOk P w K mg base 1 (A.at k) "nought" (Wh k))(HW:∀k:Kd,FMOk P w K mg base 4 (A.at k) "weights" (Yv A k))(F:Fun K "worth" "worth" lZ f fd):FnOk P w K mg base CX0 5 f fd ["way","row"] (zw K (jq A)):=by
 refine okD F sc_worth (by walk_at "ln") fun _ _ _ _ _ _ hr ds Q h=>?_
 obtain⟨k,n,ns,rfl,hn,hl,hb,q⟩:=h
 refine⟨_,(ze (zq (i:=2) sc_worth.nd rfl (Or.inl rfl) (rJ hr (dv 0)))
 (ze (eZ (i:=3) (j:=4) rfl sc_worth.nd rfl rfl (Or.inl rfl) (Or.inl rfl) PassesOwn.never rfl T.n_zip (za (dv 1) (za (DF.de (cC hr (dv 0) (za (yt rfl T.len (dv 1)) zg))) zg)) (zf (zq (i:=2) sc_worth.nd rfl (Or.inl rfl) (zh Ag (rom hr) rfl (za (dv 2) (za (zh Ah (rom hr) rfl (za (dv 3) (za (dv 4) zg))) zg))))))
 (zf (zl (dv 2))))),?_⟩
 have hlen:(ns.map Dt.int).length=ns.length:=Bs _
 refine⟨_,rfl,_,_,_,_,rfl,rE k,(HNo k).mono (by decide),⟨_,rfl,?_⟩⟩
 refine⟨_,rfl,_,rfl,_,_,_,_,rfl,lq k,(HW k).mono (by decide),_,rfl,_,rfl,n,_,rfl,hn,by omega,by rw[hlen];omega,?_⟩
 refine⟨_,_,_,_,fun i ρ=>∃v u,ρ=[.some (zJ A k n),.some (zy ns),.some (yu k n ns i).dt,v,u],rfl,rfl,rfl,⟨_,_,rfl⟩,?_,?_⟩
 ·rintro i x y ρ' hx hy ⟨v,u,rfl⟩
  obtain⟨rfl,hi⟩:=ka hx
  obtain rfl:=dz hy
  refine⟨_,rfl,_,rfl,_,rfl,_,_,.i (ns.getD i 0),wt k n i,rfl,rfl,ym _,ZE (HP (We hb i)) (Ts hn (by omega)) (by omega),?_⟩
  refine⟨_,_,yu k n ns i,(Nm.i (ns.getD i 0)).mul (wt k n i),rfl,ym _,ym _,?_⟩
  exact⟨_,_,rfl⟩
 ·rintro ρ' ⟨v,u,rfl⟩
  have e:min (ns.map Dt.int).length (wts k n (((ns.map Dt.int).length:Nat):Int).toNat).length=ns.length:=by rw[wa,hlen];omega
  rw[e]
  exact⟨_,rfl,q⟩
abbrev z7:Stmt:=top 44
def sc_has_mosts_above_noughts_alone:zk ["way","row","place"] ["way","row"] (defScope z7):=by walk_at "sc"
def xp(T:Txt K mg A)(F:Fun K "has_mosts_above_noughts_alone" "has_mosts_above_noughts_alone" z7 f fd):FnOk P w K mg base CX0 1 f fd ["way","row"] (zw K (cY A)):=by
 refine okD F sc_has_mosts_above_noughts_alone (by walk_at "ln") fun _ _ _ _ _ _ hr ds Q h=>?_
 obtain⟨n,r,rfl,hn,hl,q⟩:=h
 refine⟨_,(ze (i7 (j:=2) rfl sc_has_mosts_above_noughts_alone.nd rfl (Or.inl rfl) PassesOwn.never rfl T.range (za zd (za (yt rfl T.len (dv 1)) zg)) (zf (zx (DW.dt (yk (zp (wC hr) (zr (dv 1) (dv 2) (fun _ _=>rfl)) (z4 (dv 0)) (zo _)) (yo (zp (kF hr) (zr (dv 1) (zi zN (dv 2) zd) (fun _ _=>rfl)) zd (zo _))))) (zf (zl wJ)) zm)))
 (zf (zl wJ))),?_⟩
 walk_at "rd"
 have ll:=zH r
 refine⟨_,_,fun i ρ=>∃v,ρ=[.some (zJ A .falling n),.some (zy r),v]∧∀p:Nat,p<i→r.getD (p+1) 0=n→r.getD p 0=0,rfl,by decide,by decide,by omega,by omega,⟨_,rfl,fun p hp=>absurd hp (Cn _)⟩,?_,?_⟩
 ·rintro i ρ' hi ⟨v,rfl,hp⟩
  rw[ll]at hi
  have e1:(1+(i:Int)).toNat=i+1:=by omega
  have e2:(1+(i:Int)-1).toNat=i:=by omega
  refine⟨_,rfl,_,rfl,_,_,_,rfl,rfl,jo (by omega) (by omega),_,rfl,_,_,_,rfl,rfl,T.HX,T.H8,rfl,rfl,_,rfl,?_⟩
  rw[e1]
  refine ifB (fun h=>?_) (fun h=>ifF rfl ?_)
  ·refine⟨_,rfl,_,rfl,_,_,rfl,rfl,_,_,_,rfl,rfl,jo (by omega) (by omega),rfl,rfl,_,rfl,?_⟩
   rw[e2]
   refine ifB (fun h'=>?_) (fun h'=>?_)
   ·refine q false ⟨fun z=>(Bw z).elim,fun z=>?_⟩
    exact absurd (z i (by omega) (qD h)) (sH (Wz h'))
   ·refine⟨.some (.int (1+i)),rfl,fun p hp'=>?_⟩
    rcases(by omega:p<i∨p=i) with z|z
    ·exact hp p z
    ·subst z
     exact fun _=>qD (Zw h')
  ·refine⟨.some (.int (1+i)),rfl,fun p hp'=>?_⟩
   rcases(by omega:p<i∨p=i) with z|z
   ·exact hp p z
   ·subst z
    exact fun z=>absurd z (sH h)
 ·rintro ρ' ⟨v,rfl,hp⟩
  rw[ll]at hp
  exact q true ⟨fun _ p hp'=>hp p (by omega),fun _=>rfl⟩
abbrev yd:Stmt:=top 42
def sc_has_figures_alone_writings:zk ["way","row","place","thing"] ["way","row"] (defScope yd):=by walk_at "sc"
def xL(T:Txt K mg A)(HLo:∀k:Kd,MOk P w K mg base 1 (A.at k) "low" (vx A k (k.low))∧MOk P w K mg base 1 (A.at k) "high" (vx A k (k.high)))(F:Fun K "has_figures_alone" "has_figures_alone" yd f fd):FnOk P w K mg base CX0 2 f fd ["way","row"] (zw K (du A)):=by
 refine okD F sc_has_figures_alone_writings (by walk_at "ln") fun _ _ _ _ _ _ hr ds Q h=>?_
 obtain⟨k,n,r,rfl,hn,hl,q⟩:=h
 refine⟨_,(ze (qQ (i:=2) (j:=3) rfl sc_has_figures_alone_writings.nd rfl rfl (Or.inl rfl) (Or.inl rfl) PassesOwn.never rfl T.n_enumerate (za (dv 1) zg) (zf (zx (DW.dt (uZ (zp (uO) (dv 3) (xu hr (dv 0) (za (dv 2) zg)) (zo _)) (uY (zp (rk) (dv 3) (xu hr (dv 0) (za (dv 2) zg)) (zo _))))) (zf (zl wJ)) zm)))
 (zf (zl wJ))),?_⟩
 obtain⟨M1,M2⟩:=HLo k
 walk_at "rd"
 refine⟨_,_,fun i ρ=>∃v u,ρ=[.some (zJ A k n),.some (zy r),v,u]∧∀p:Nat,p<i→k.low n p≤r.getD p 0∧r.getD p 0≤k.high n p,rfl,rfl,⟨_,_,rfl,fun p hp=>absurd hp (Cn _)⟩,?_,?_⟩
 ·rintro i x ρ' hx ⟨v,u,rfl,hp⟩
  obtain⟨rfl,hi⟩:=ZR hx
  refine⟨_,rfl,_,rfl,_,_,_,_,rfl,Vz k,M1.mono (by decide),_,rfl,n,i,rfl,hn,_,_,rfl,rfl,_,rfl,?_⟩
  refine ifB (fun h=>ifT rfl ?_) (fun h=>?_)
  ·refine q false ⟨fun z=>(Bw z).elim,fun z=>?_⟩
   have:=z i hi
   have h:=of_decide_eq_true h
   omega
  ·refine⟨_,rfl,_,rfl,_,_,_,_,rfl,Z2 k,M2.mono (by decide),_,rfl,n,i,rfl,hn,_,_,rfl,rfl,_,rfl,?_⟩
   have h:=of_decide_eq_false h
   refine ifB (fun h'=>?_) (fun h'=>?_)
   ·refine q false ⟨fun z=>(Bw z).elim,fun z=>?_⟩
    have:=z i hi
    have h':=of_decide_eq_true h'
    omega
   ·have h':=of_decide_eq_false h'
    refine⟨.some (.int i),.some (.int (r.getD i 0)),rfl,fun p hp'=>?_⟩
    rcases(by omega:p<i∨p=i) with z|z
    ·exact hp p z
    ·subst z
     omega
 ·rintro ρ' ⟨v,u,rfl,hp⟩
  rw[zH]at hp
  exact q true ⟨fun _=>hp,fun _=>rfl⟩
abbrev vM:Stmt:=top 45
def nV:zk ["way","row"] ["way","row"] (defScope vM):=by walk_at "sc"
def mi(T:Txt K mg A)(AO:DOk P w K mg base 1 "has_mosts_above_noughts_alone" (cY A))(AQ:DOk P w K mg base 2 "has_figures_alone_writings" (du A))(F:Fun K "is_writing" "is_writing" vM f fd):FnOk P w K mg base CX0 3 f fd ["way","row"] (zw K (YJ A)):=by
 refine okD F nV (by walk_at "ln") fun _ _ _ _ _ _ hr ds Q h=>?_
 obtain⟨k,n,r,rfl,hn,hl,q⟩:=h
 refine⟨_,(zX (zx (DW.dt (yk (Z3 (dv 1)) (yo (zp (wC hr) (zr (dv 1) (z0 zd) (fun _ _=>rfl)) zd (zo _))))) (zf (zl wJ)) zm)
 (zX (zx (DW.dt (yk (zR (y6 T.isinstance T.Gi (dv 0))) (yo (yV (zR (zh AO (rom hr) rfl (za (dv 0) (za (dv 1) zg)))))))) (zf (zl wJ)) zm)
 (zf (zl (zh AQ (rom hr) rfl (za (dv 0) (za (dv 1) zg))))))),?_⟩
 refine⟨fun ρ=>ρ=[.some (zJ A k n),.some (zy r)]∧(r=[]∨r.getD (r.length-1) 0≠0),?_,?_⟩
 ·walk_at "rd"
  rcases zU r with rfl|⟨l,z,rfl⟩
  ·exact ifF rfl (ifF rfl ⟨rfl,.inl rfl⟩)
  ·have ez:(l++[z]).getD ((l++[z]).length-1) 0=z:=by rw[List.length_append];simp[List.getD_eq_getElem?_getD]
   refine ifT (by simp) ⟨_,rfl,_,rfl,_,_,_,rfl,rfl,atI_last,rfl,rfl,_,rfl,?_⟩
   by_cases hz:z=0
   ·refine ifT (eqI hz) ?_
    rw[kM (fun L=>by
     rcases L.end_ with h|h
     ·simp at h
     ·rw[ez]at h;exact h hz)]at q
    exact q
   ·refine ifF (neI hz) ⟨rfl,.inr (by rw[ez];exact hz)⟩
 ·rintro ρ' ⟨rfl,hend⟩
  refine⟨fun ρ=>ρ=[.some (zJ A k n),.some (zy r)]∧(k.isF=true→∀p,p+1<r.length→r.getD (p+1) 0=n→r.getD p 0=0),?_,?_⟩
  ·refine⟨_,rfl,_,_,_,_,rfl,uU T k,kiF T k,_,rfl,?_⟩
   cases hk:k.isF with
   | false=>exact ifF rfl (ifF rfl ⟨rfl,fun z=>(Bw z).elim⟩)
   | true=>
    have ek:k=.falling:=by cases k<;>first|rfl|cases hk
    subst ek
    refine ifT rfl ⟨_,rfl,_,rfl,n,r,rfl,hn,hl,fun b hb=>⟨_,rfl,?_⟩⟩
    cases b with
    | true=>exact ifF rfl ⟨rfl,fun _=>hb.mp rfl⟩
    | false=>
     refine ifT rfl ?_
     rw[kM (fun L=>Bw (hb.mpr (L.fal rfl)))]at q
     exact q
  ·rintro ρ' ⟨rfl,hf⟩
   refine⟨_,rfl,_,rfl,k,n,r,rfl,hn,hl,fun b hb=>?_⟩
   cases b with
   | true=>rw[kL ⟨hb.mp rfl,hf,hend⟩]at q;exact q
   | false=>rw[kM (fun L=>Bw (hb.mpr L.fig))]at q;exact q
abbrev yD:Stmt:=top 46
def sc_held_to_be_writings:zk ["way","rows","row"] ["way","rows"] (defScope yD):=by walk_at "sc"
def vU(T:Txt K mg A)(Az:DOk P w K mg base 3 "is_writing" (YJ A))(F:Fun K "held_to_be_writings" "held_to_be_writings" yD f fd):FnOk P w K mg base CX0 4 f fd ["way","rows"] (zw K (sU A)):=by
 refine okD F sc_held_to_be_writings (by walk_at "ln") fun _ _ _ _ _ _ hr ds Q h=>?_
 obtain⟨k,n,rs,rfl,hn,hrs,q⟩:=h
 refine⟨_,(zf (nB (j:=2) rfl sc_held_to_be_writings.nd rfl (Or.inl rfl) PassesOwn.never (dv 1) (zf (zx (yV (zR (zh Az (rom hr) rfl (za (dv 0) (za (dv 2) zg))))) (zf zP) zm)))),?_⟩
 refine⟨_,rfl,_,fun i ρ=>∃v,ρ=[.some (zJ A k n),.some (.lst (rs.map zy)),v],rfl,⟨_,rfl⟩,?_,?_⟩
 ·rintro i e ρ' he ⟨v,rfl⟩
  obtain⟨r,hm,rfl⟩:=BR.mp (BH he)
  obtain⟨hL,hl⟩:=hrs r hm
  refine⟨_,rfl,_,rfl,k,n,r,rfl,hn,hl,_,rfl,?_⟩
  rw[kL hL]
  exact ifF rfl ⟨_,rfl⟩
 ·rintro ρ' ⟨v,rfl⟩
  exact q
abbrev yA:Stmt:=top 59
def sc_quotients_in_falling:zk ["way","row","many","quotients","rest","ahead","place","total"] ["way","row","many"] (defScope yA):=by walk_at "sc"
def vk(T:Txt K mg A)(F:Fun K "quotients_in_falling" "quotients_in_falling" yA f fd):FnOk P w K mg base CX0 1 f fd ["way","row","many"] (zw K (YD A)):=by
 refine okD F sc_quotients_in_falling (by walk_at "ln") fun _ _ _ _ _ _ hr ds Q h=>?_
 obtain⟨n,r,m,rfl,⟨hn,hL,⟨hl,hlf⟩,hm,hm2⟩,q⟩:=h
 refine⟨_,(ze (yc (i:=3) sc_quotients_in_falling.nd rfl (Or.inl rfl) (xg zg))
 (ze (zq (i:=4) sc_quotients_in_falling.nd rfl (Or.inl rfl) zd)
 (ze (zq (i:=5) sc_quotients_in_falling.nd rfl (Or.inl rfl) zd)
 (ze (vZ (j:=6) rfl sc_quotients_in_falling.nd rfl (Or.inl rfl) PassesOwn.never rfl T.range (za (zi zN (yt rfl T.len (dv 1)) zd) (za (z0 zd) (za (z0 zd) zg))) (ze (zq (i:=7) sc_quotients_in_falling.nd rfl (Or.inl rfl) (zi zK (zi zK (zr (dv 1) (dv 6) (fun _ _=>rfl)) (zi z5 (z4 (dv 0)) (dv 4))) (dv 5)))
 (zX (zx (zp (wC hr) (dv 6) zd (zo _)) (zf (cy (i:=7) nl sc_quotients_in_falling.nd rfl (Or.inl rfl) (dv 4))) zm)
 (ze (xB 3 (zi oj (dv 7) (dv 2)))
 (ze (zq (i:=5) sc_quotients_in_falling.nd rfl (Or.inl rfl) (dv 4))
 (zf (zq (i:=4) sc_quotients_in_falling.nd rfl (Or.inl rfl) (zi z8 (dv 7) (dv 2)))))))))
 (ze (qP 3)
 (xt 3 (zf (zl (zF (za (dv 3) (za (dv 4) zg))))))))))),?_⟩
 have ll:=zH r
 have n1:1≤n:=hn.1
 have n9:n≤9:=hn.2
 walk_at "rd"
 refine⟨_,_,fun i ρ=>∃(qs:List Int)(e a:Int)(v6 v7:Sl),ρ=[.some (zJ A .falling n),.some (zy r),.some (.int m),.own (qs.map Dt.int),.some (.int e),.some (.int a),v6,v7]∧qs.length=i∧(∀z∈qs,0≤z∧z≤30)∧0≤e∧e<m∧0≤a∧a<m∧(∀p,p+1+i=r.length→tz n (p+1) (r.drop (p+1))=m*tz n (p+1) qs.reverse+e*wf n (p+1)+a*wf n p)∧(i=r.length→tz n 0 r=m*tz n 0 qs.reverse+e),rfl,by omega,by omega,by decide,by decide,⟨[],0,0,_,_,rfl,rfl,(fun z hz=>nomatch hz),BW _,by omega,BW _,by omega,fun p hp=>?_,fun hp=>?_⟩,?_,?_⟩
 ·rw[List.drop_of_length_le (by omega)]
  show(0:Int)=m*0+0*_+0*_
  rw[BN,BV,BV];rfl
 ·rw[B8.mp hp.symm]
  show(0:Int)=m*0+0
  rw[BN];rfl
 ·rintro i ρ' hi ⟨qs,e,a,v6,v7,rfl,hq,hb,e0,e1,a0,a1,hw,_⟩
  obtain⟨p,hp⟩:∃p:Nat,p+i+1=r.length:=⟨r.length-1-i,by omega⟩
  have ep:((List.map Dt.int r).length:Int)-1-i=p:=by omega
  rw[ep]
  have hw:=hw p (by omega)
  have hpr:p<r.length:=by omega
  obtain⟨f1,f2⟩:0≤r.getD p 0∧r.getD p 0≤n:=yy hn hL p
  have g1:=Bt n9 e0
  have g0:=BX (show 0≤n by omega) e0
  refine⟨_,rfl,_,rfl,_,_,_,rfl,rfl,xA hpr,_,rfl,_,_,_,rfl,rfl,T.HX,T.H8,_,rfl,_,_,rfl,rfl,yJ (by omega) (by omega) _,_,_,rfl,rfl,_,rfl,_,_,rfl,rfl,?_⟩
  dsimp only
  refine⟨fun ρ=>∃t:Int,ρ=[.some (zJ A .falling n),.some (zy r),.some (.int m),.own (qs.map Dt.int),.some (.int e),.some (.int a),.some (.int p),.some (.int t)]∧t=r.getD p 0+n*e+a+(if p=0 then e else 0),?_,?_⟩
  ·refine⟨_,rfl,rfl,rfl,_,rfl,ifB (fun h=>?_) (fun h=>?_)⟩
   ·have h:(p:Int)=0:=qD h
    exact⟨_,rfl,_,rfl,_,_,rfl,rfl,_,rfl,by rw[if_pos (by omega)]⟩
   ·have h:(p:Int)≠0:=sH h
    exact⟨_,rfl,by rw[if_neg (by omega)];omega⟩
  rintro ρ ⟨t,rfl,ht⟩
  have ht2:0≤t∧t≤30*m:=by rw[ht];split<;>omega
  obtain⟨d1,d2,d3⟩:=cA t m hm
  have qb:=aX (B:=30) d1 d2 d3 (by decide) ht2.2 (by omega)
  have qn:=aW hm d1 d3 ht2.1
  refine⟨_,rfl,_,rfl,_,rfl,_,_,rfl,rfl,cK (by omega) hm2,by rw[zH];omega,?_⟩
  refine⟨_,rfl,_,rfl,_,rfl,_,_,rfl,rfl,(by show m≠0;omega),?_⟩
  have eg:r[p]=r.getD p 0:=by rw[Br,Bu hpr];rfl
  refine⟨qs++[t.fdiv m],t.fmod m,e,_,_,by rw[←vw];rfl,by rw[Bv,hq];rfl,fun z hz=>?_,d2,d3,e0,e1,fun p' hp'=>?_,fun hp'=>?_⟩
  ·rcases B7.mp hz with hz|hz
   ·exact hb z hz
   ·rw[BD.mp hz];exact⟨qn,qb.2⟩
  ·obtain rfl:p=p'+1:=by omega
   rw[B9 hpr,CF]
   show r[p'+1]*wf n (p'+1)+tz n (p'+1+1) (r.drop (p'+1+1))=m*(t.fdiv m*wf n (p'+1)+tz n (p'+1+1) qs.reverse)+_+_
   rw[hw,eg,vg]
   rw[if_neg (by omega)]at ht
   generalize t.fdiv m=Y at *
   generalize t.fmod m=Z at *
   generalize r.getD (p' + 1) 0=D at *
   have:D+n*e+a=m*Y+Z:=by omega
   grind
  ·obtain rfl:p=0:=by omega
   rw[if_pos rfl]at ht
   rw[CF]
   have er:r=r.getD 0 0::r.drop (0+1):=by rw[←eg,←B9 hpr];rfl
   have e4:tz n 0 r=r.getD 0 0*wf n 0+tz n (0+1) (r.drop (0+1)):=by
    have:tz n 0 (r.getD 0 0::r.drop (0+1))=r.getD 0 0*wf n 0+tz n (0+1) (r.drop (0+1)):=rfl
    rw[←er]at this
    exact this
   rw[e4,hw]
   show _=m*(t.fdiv m*wf n 0+tz n (0+1) qs.reverse)+_
   rw[tP,show wf n (0+1)=n+1 from rV n]
   generalize t.fdiv m=Y at *
   generalize t.fmod m=Z at *
   generalize r.getD 0 0=D at *
   have:D+n*e+a+e=m*Y+Z:=by omega
   grind
 ·rintro ρ' ⟨qs,e,a,v6,v7,rfl,hq,hb,e0,e1,_,_,_,hw⟩
  have e:(((List.map Dt.int r).length:Int)-1-(-1)).toNat=r.length:=by omega
  rw[e]at hq hw
  have hw:=hw rfl
  refine⟨_,rfl,_,rfl,_,rfl,_,rfl,rfl,?_⟩
  rw[←CJ]
  refine q qs.reverse _ ⟨by rw[BQ];exact hq,fun z hz=>?_,fun _ z hz=>hb z (B'.mp hz),e0,e1,?_⟩
  ·have:=hb z (B'.mp hz);omega
  ·rw[yC,yC,Wn,Wn];exact hw
abbrev yL:Stmt:=top 58
def sc_quotients_by_ratio:zk ["way","row","many","quotients","rest","place","total"] ["way","row","many"] (defScope yL):=by walk_at "sc"
def uo(T:Txt K mg A)(HR:∀k:Kd,k.five=true→MOk P w K mg base 1 (A.at k) "ratio" (vf A k (k.ratN)))(F:Fun K "quotients_by_ratio" "quotients_by_ratio" yL f fd):FnOk P w K mg base CX0 2 f fd ["way","row","many"] (zw K (YC A)):=by
 refine okD F sc_quotients_by_ratio (by walk_at "ln") fun _ _ _ _ _ _ hr ds Q h=>?_
 obtain⟨k,n,r,m,rfl,h4,⟨hn,hL,⟨hl,hlf⟩,hm,hm2⟩,q⟩:=h
 refine⟨_,(ze (yc (i:=3) sc_quotients_by_ratio.nd rfl (Or.inl rfl) (xg zg))
 (ze (zq (i:=4) sc_quotients_by_ratio.nd rfl (Or.inl rfl) zd)
 (ze (vZ (j:=5) rfl sc_quotients_by_ratio.nd rfl (Or.inl rfl) PassesOwn.never rfl T.range (za (zi zN (yt rfl T.len (dv 1)) zd) (za (z0 zd) (za (z0 zd) zg))) (ze (zq (i:=6) sc_quotients_by_ratio.nd rfl (Or.inl rfl) (zi zK (zr (dv 1) (dv 5) (fun _ _=>rfl)) (zi z5 (xu hr (dv 0) (za (dv 5) zg)) (dv 4))))
 (ze (xB 3 (zi oj (dv 6) (dv 2)))
 (zf (zq (i:=4) sc_quotients_by_ratio.nd rfl (Or.inl rfl) (zi z8 (dv 6) (dv 2)))))))
 (ze (qP 3)
 (xt 3 (zf (zl (zF (za (dv 3) (za (dv 4) zg)))))))))),?_⟩
 have ll:=zH r
 walk_at "rd"
 refine⟨_,_,fun i ρ=>∃(qs:List Int)(e:Int)(v5 v6:Sl),ρ=[.some (zJ A k n),.some (zy r),.some (.int m),.own (qs.map Dt.int),.some (.int e),v5,v6]∧qs.length=i∧(∀z∈qs,-6000≤z∧z≤6000)∧0≤e∧e<m∧hzn k n (r.length-i) (r.drop (r.length-i))=m*hzn k n (r.length-i) qs.reverse+e,rfl,by omega,by omega,by decide,by decide,⟨[],0,_,_,rfl,rfl,(fun z hz=>nomatch hz),BW _,by omega,?_⟩,?_,?_⟩
 ·rw[Nat.sub_zero,List.drop_length]
  show(0:Int)=m*0+0
  rw[BN];rfl
 ·rintro i ρ' hi ⟨qs,e,v5,v6,rfl,hq,hb,e0,e1,hw⟩
  obtain⟨p,hp⟩:∃p:Nat,p+i+1=r.length:=⟨r.length-1-i,by omega⟩
  have ep:((List.map Dt.int r).length:Int)-1-i=p:=by omega
  rw[ep]
  rw[show r.length-i=p+1 by omega]at hw
  have hpr:p<r.length:=by omega
  have er:(k.ratN n p).dt=.int (k.rat n p):=by cases k<;>first|rfl|cases h4
  obtain⟨d1,d2,d3⟩:=cA (r.getD p 0+k.rat n p*e) m hm
  have f1:(r.getD p 0).natAbs≤4000:=tK hn hL (by omega) p
  have f2:=xv (ca (p:=p) hn (by omega)) (show e.natAbs≤(m-1).toNat by omega)
  have rs:=ca (p:=p) hn (by omega)
  refine⟨_,rfl,_,rfl,_,_,_,rfl,rfl,xA hpr,_,rfl,_,_,_,_,rfl,kY k,(HR k (mZ h4)).mono (by decide),_,rfl,n,p,rfl,hn,_,rfl,_,_,er,rfl,yJ (by omega) (by omega) _,_,_,rfl,rfl,?_⟩
  dsimp only
  generalize hX:k.rat n p * e=X at *
  have qb:=aX (B:=6000) d1 d2 d3 (by decide) (by omega) (by omega)
  refine⟨_,rfl,_,rfl,_,rfl,_,_,rfl,rfl,cK (by omega) hm2,by rw[zH];omega,?_⟩
  refine⟨_,rfl,_,rfl,_,_,rfl,rfl,(by show m≠0;omega),?_⟩
  refine⟨qs++[(r.getD p 0+X).fdiv m],(r.getD p 0+X).fmod m,_,_,by rw[←vw];rfl,by rw[Bv,hq];rfl,fun z hz=>?_,d2,d3,?_⟩
  ·rcases B7.mp hz with hz|hz
   ·exact hb z hz
   ·rw[BD.mp hz];exact qb
  ·rw[show r.length-(i+1)=p by omega,B9 hpr,CF]
   show r[p]+k.rat n p*hzn k n (p+1) (r.drop (p+1))=m*((r.getD p 0+X).fdiv m+k.rat n p*hzn k n (p+1) qs.reverse)+_
   have eg:r[p]=r.getD p 0:=by rw[Br,Bu hpr];rfl
   rw[hw,eg]
   have e3:k.rat n p*(m*hzn k n (p+1) qs.reverse+e)=m*(k.rat n p*hzn k n (p+1) qs.reverse)+X:=by rw[←hX];grind
   rw[e3,CS]
   omega
 ·rintro ρ' ⟨qs,e,v5,v6,rfl,hq,hb,e0,e1,hw⟩
  have e:(((List.map Dt.int r).length:Int)-1-(-1)).toNat=r.length:=by omega
  rw[e]at hq hw
  rw[Nat.sub_self,CZ]at hw
  refine⟨_,rfl,_,rfl,_,rfl,_,rfl,rfl,?_⟩
  rw[←CJ]
  refine q qs.reverse _ ⟨by rw[BQ];exact hq,fun z hz=>hb z (B'.mp hz),fun hk=>?_,e0,e1,?_⟩
  ·subst hk;cases h4
  ·rw[iK h4,iK h4];exact hw
abbrev yM:Stmt:=top 60
def ul:zk ["way","row","many"] ["way","row","many"] (defScope yM):=by walk_at "sc"
def uq(T:Txt K mg A)(AR:DOk P w K mg base 1 "quotients_in_falling" (YD A))(AS:DOk P w K mg base 2 "quotients_by_ratio" (YC A))(F:Fun K "quotients_and_rest" "quotients_and_rest" yM f fd):FnOk P w K mg base CX0 3 f fd ["way","row","many"] (zw K (VL A)):=by
 refine okD F ul (by walk_at "ln") fun _ _ _ _ _ _ hr ds Q h=>?_
 obtain⟨k,n,r,m,rfl,hk,ho,q⟩:=h
 refine⟨_,(ze (zx (zR (y6 T.isinstance T.Gi (dv 0))) (zf (zl (zh AR (rom hr) rfl (za (dv 0) (za (dv 1) (za (dv 2) zg)))))) zm)
 (zf (zl (zh AS (rom hr) rfl (za (dv 0) (za (dv 1) (za (dv 2) zg))))))),?_⟩
 refine⟨_,rfl,_,_,_,_,rfl,uU T k,kiF T k,_,rfl,?_⟩
 by_cases hf:k=.falling
 ·subst hf
  exact ifT rfl ⟨_,rfl,_,rfl,_,rfl,n,r,m,rfl,ho,q⟩
 ·refine ifF (by cases k<;>first|rfl|exact absurd rfl hf) ⟨_,rfl,_,rfl,_,rfl,k,n,r,m,rfl,?_,ho,q⟩
  cases k<;>first|rfl|exact absurd rfl hf|exact absurd rfl hk
abbrev yU:Stmt:=top 31
def sc_held_to_be_a_heap:zk ["way","heap","things"] ["way","heap"] (defScope yU):=by walk_at "sc"
def uN(T:Txt K mg A)(F:Fun K "held_to_be_a_heap" "held_to_be_a_heap" yU f fd):FnOk P w K mg base CX0 1 f fd ["way","heap"] (zw K (c6 A)):=by
 refine okD F sc_held_to_be_a_heap (by walk_at "ln") fun _ _ _ _ _ _ hr ds Q h=>?_
 obtain⟨n,h,rfl,hnn,q⟩:=h
 refine⟨_,(ze (zx (yV (zR (y6 T.isinstance T.Gi (dv 0)))) (zf zP) zm)
 (zf (nB (j:=2) rfl sc_held_to_be_a_heap.nd rfl (Or.inl rfl) PassesOwn.never (dv 1) (zf (zx (zp (uO) (dv 2) zd (zo _)) (zf zP) zm))))),?_⟩
 refine⟨_,rfl,_,_,_,_,rfl,T.GX,T.Gv,_,rfl,ifF rfl ?_⟩
 refine⟨_,rfl,_,fun i ρ=>∃v,ρ=[.some (zJ A .falling n),.some (zy h),v],rfl,⟨_,rfl⟩,?_,?_⟩
 ·rintro i e ρ' he ⟨v,rfl⟩
  obtain⟨y,hy,rfl⟩:=BR.mp (BH he)
  have:=hnn y hy
  exact⟨_,rfl,_,_,rfl,rfl,_,rfl,ifF (decide_eq_false (by omega)) ⟨_,rfl⟩⟩
 ·rintro ρ' ⟨v,rfl⟩
  exact q
abbrev qd:Stmt:=top 34
def fe:zk ["way","heap","place"] ["way","heap","place"] (defScope qd):=by walk_at "sc"
def fQ(T:Txt K mg A)(F:Fun K "step_at" "step_at" qd f fd):FnOk P w K mg base CX0 1 f fd ["way","heap","place"] (zw K (gA A)):=by
 refine okD F fe (by walk_at "ln") fun _ _ _ _ _ _ hr ds Q h=>?_
 obtain⟨n,l,p,rfl,hn,hp,q⟩:=h
 refine⟨_,(zX (zx (DW.dt (yk (zp (rk) (dv 2) zd (zo _)) (yk (zp (eA) (zr (dv 1) (dv 2) (fun _ _=>rfl)) (z4 (dv 0)) (zo _)) (yo (zp (rk) (zr (dv 1) (zi zN (dv 2) zd) (fun _ _=>rfl)) zd (zo _)))))) (zf (zl (zF (za zt (za (dv 2) zg))))) zm)
 (ze (zx (zp (rk) (zr (dv 1) (dv 2) (fun _ _=>rfl)) (z4 (dv 0)) (zo _)) (zf (zl (zF (za zt (za (dv 2) zg))))) zm)
 (zf (zl u8)))),?_⟩
 have a1:atI (l.map Dt.int) (p:Int)=some (.int (hf l p)):=ud (vY hp)
 refine⟨fun ρ=>ρ=[.some (zJ A .falling n),.some (zy l),.some (.int p)]∧¬(0<p∧n≤hf l p∧0<hf l (p-1)),?_,?_⟩
 ·refine⟨_,rfl,_,_,rfl,rfl,_,rfl,ifB (fun h1=>?_) (fun h1=>ifF rfl ⟨rfl,fun z=>?_⟩)⟩
  ·have h1:=of_decide_eq_true h1
   refine⟨_,rfl,_,rfl,_,_,_,rfl,rfl,a1,_,rfl,_,_,_,rfl,rfl,T.HX,T.H8,_,_,rfl,rfl,_,rfl,ifB (fun h2=>?_) (fun h2=>ifF rfl ⟨rfl,fun z=>?_⟩)⟩
   ·have h2:=of_decide_eq_true h2
    have e1:((p:Int)-1)=((p-1:Nat):Int):=by omega
    refine⟨_,rfl,_,rfl,_,_,rfl,rfl,_,_,_,rfl,rfl,(by rw[e1];exact ud (vY (by omega))),_,_,rfl,rfl,_,rfl,ifB (fun h3=>?_) (fun h3=>⟨rfl,fun z=>?_⟩)⟩
    ·have h3:=of_decide_eq_true h3
     walk_at "rd"
     refine Xb q ?_
     unfold y8
     rw[if_pos ⟨by omega,h2,h3⟩]
     rfl
    ·exact absurd z.2.2 (of_decide_eq_false h3)
   ·exact absurd z.2.1 (of_decide_eq_false h2)
  ·have:=of_decide_eq_false h1
   omega
 ·rintro ρ ⟨rfl,hno⟩
  refine⟨_,rfl,_,rfl,_,_,_,rfl,rfl,a1,_,rfl,_,_,_,rfl,rfl,T.HX,T.H8,_,_,rfl,rfl,_,rfl,ifB (fun h2=>?_) (fun h2=>?_)⟩
  ·walk_at "rd"
   refine Xb q ?_
   unfold y8
   rw[if_neg hno,if_pos (of_decide_eq_true h2)]
   rfl
  ·refine Xb q ?_
   unfold y8
   rw[if_neg hno,if_neg (of_decide_eq_false h2)]
   rfl
abbrev uD:Stmt:=top 35
def sc_how_often:zk ["way","heap","step","place"] ["way","heap","step"] (defScope uD):=by walk_at "sc"
def kA(T:Txt K mg A)(F:Fun K "how_often" "how_often" uD f fd):FnOk P w K mg base CX0 1 f fd ["way","heap","step"] (zw K (cV A)):=by
 refine okD F sc_how_often (by walk_at "ln") fun _ _ _ _ _ _ hr ds Q h=>?_
 obtain⟨n,l,s,rfl,hn,hp,hc,q⟩:=h
 refine⟨_,(ze (zq (i:=3) sc_how_often.nd rfl (Or.inl rfl) (zr (dv 2) zd (fun _ _=>rfl)))
 (ze (zx (zp (zW) (zr (dv 2) zd (fun _ _=>rfl)) zt (zo _)) (zf (zl (Yg rfl rfl T.n_min (za (zi yF (zr (dv 1) (dv 3) (fun _ _=>rfl)) (z4 (dv 0))) (za (zr (dv 1) (zi zN (dv 3) zd) (fun _ _=>rfl)) zg))))) zm)
 (zf (zl (zi yF (zr (dv 1) (dv 3) (fun _ _=>rfl)) (zi zK (z4 (dv 0)) zd)))))),?_⟩
 obtain⟨b1,b2⟩:=xq hn
 have a1:atI (l.map Dt.int) (s.2:Int)=some (.int (hf l s.2)):=ud (vY hp)
 match s,hp,hc,q,a1 with
 | (true,p),hp,⟨c1,c2,c3⟩,q,a1=>
  have e1:((p:Int)-1)=((p-1:Nat):Int):=by omega
  have hp:p<l.length:=hp
  refine⟨_,rfl,_,1,_,rfl,rfl,rfl,_,rfl,_,0,_,rfl,rfl,rfl,_,_,rfl,rfl,_,rfl,ifT rfl ?_⟩
  refine⟨_,rfl,_,rfl,_,_,_,rfl,rfl,a1,_,rfl,_,_,_,rfl,rfl,T.HX,T.H8,_,_,rfl,rfl,rL (by rw[BL,bne_iff_ne,decide_eq_true_iff];omega),?_⟩
  refine⟨_,rfl,_,rfl,_,_,rfl,rfl,_,_,_,rfl,rfl,(by rw[e1];exact ud (vY (by omega))),_,_,rfl,?_⟩
  have d1:=iT (show(0:Int)<n by omega) c2
  have d2:=cr (a:=hf l p) (show(0:Int)<n by omega)
  show Q (.int (if hf l (p-1)<(hf l p).fdiv n then hf l (p-1) else(hf l p).fdiv n))
  split
  ·rename_i hlt
   have:=Bt (show hf l (p-1)≤(hf l p).fdiv n by omega) (show 0≤n by omega)
   exact q _ c3 ⟨c1,by omega,BW _⟩
  ·exact q _ d1 ⟨c1,d2,by omega⟩
 | (false,p),hp,hc,q,a1=>
  have hc:n<hf l p:=hc
  refine⟨_,rfl,_,1,_,rfl,rfl,rfl,_,rfl,_,0,_,rfl,rfl,rfl,_,_,rfl,rfl,_,rfl,ifF rfl ?_⟩
  refine⟨_,rfl,_,rfl,_,_,_,rfl,rfl,a1,_,rfl,_,_,_,rfl,rfl,T.HX,T.H8,_,_,rfl,rfl,_,_,rfl,rfl,rL (by rw[BL,bne_iff_ne,decide_eq_true_iff];omega),?_⟩
  exact q _ (iT (show(0:Int)<n+1 by omega) (show n+1≤hf l p by omega)) (cr (show(0:Int)<n+1 by omega))
abbrev ql:Stmt:=top 32
def sc_changes:zk ["way","step","kind","place","parted"] ["way","step"] (defScope ql):=by walk_at "sc"
def fZ(T:Txt K mg A)(F:Fun K "changes" "changes" ql f fd):FnOk P w K mg base CX0 1 f fd ["way","step"] (zw K (VO A)):=by
 refine okD F sc_changes (by walk_at "ln") fun _ _ _ _ _ _ hr ds Q h=>?_
 obtain⟨n,s,rfl,hn,hs,q⟩:=h
 refine⟨_,(ze (zq (i:=2) sc_changes.nd rfl (Or.inl rfl) (zr (dv 1) zd (fun _ _=>rfl)))
 (ze (zq (i:=3) sc_changes.nd rfl (Or.inl rfl) (zr (dv 1) zd (fun _ _=>rfl)))
 (ze (zx (zp (zW) (dv 2) zt (zo _)) (zf (zl (z9 (za (zF (za (zi zK (dv 3) zd) (za zd zg))) (za (zF (za (dv 3) (za (z0 (z4 (dv 0))) zg))) (za (zF (za (zi zN (dv 3) zd) (za (z0 zd) zg))) zg)))))) zm)
 (ze (yc (i:=4) sc_changes.nd rfl (Or.inl rfl) (xg (za (zF (za (zi zK (dv 3) zd) (za zd zg))) (za (zF (za (dv 3) (za (zi zN (z0 (z4 (dv 0))) zd) zg))) zg))))
 (zX (zx (zp (wC hr) (dv 3) zd (zo _)) (zf (xB 4 (zF (za zd (za (z4 (dv 0)) zg))))) zm)
 (zX (zx (zp (rk) (dv 3) zd (zo _)) (ze (xB 4 (zF (za (zi zN (dv 3) zd) (za (zi zN (z4 (dv 0)) zd) zg))))
 (zf (xB 4 (zF (za (zi zN (dv 3) zd) (za zd zg)))))) zm)
 (zf (x8 4)))))))),?_⟩
 match s,hs,q with
 | (true,0),hs,_=>exact absurd (hs rfl) (Ck _)
 | (true,p+1),_,q=>
  repeat(first|(walk_at "rd1")|refine⟨_,_,_,rfl,rfl,T.HX,T.H8,?_⟩)
  refine Xb q ?_
  show Dt.lst [.tup [.int (((p+1:Nat):Int)+1),.int 1],.tup [.int ((p+1:Nat):Int),.int (-n)],.tup [.int (((p+1:Nat):Int)-1),.int (-1)]]=_
  rw[show((p+1:Nat):Int)-1=(p:Int) by omega]
  rfl
 | (false,0),_,q=>
  repeat(first|(walk_at "rd1")|refine⟨_,_,_,rfl,rfl,T.HX,T.H8,?_⟩)
  refine⟨fun ρ=>ρ=[.some (zJ A .falling n),.some (xK (false,0)),.some (.str (gZ false)),.some (.int 0),.own [chD (1,1),chD (0,-n-1)]],?_,?_⟩
  ·exact⟨_,rfl,rfl,rfl,_,rfl,ifF (neI (by decide)) rfl⟩
  rintro ρ rfl
  refine⟨fun ρ=>ρ=[.some (zJ A .falling n),.some (xK (false,0)),.some (.str (gZ false)),.some (.int 0),.own [chD (1,1),chD (0,-n-1)]],?_,?_⟩
  ·exact⟨_,rfl,_,_,rfl,rfl,_,rfl,ifF (by decide) rfl⟩
  rintro ρ rfl
  exact⟨_,rfl,q⟩
 | (false,1),_,q=>
  repeat(first|(walk_at "rd1")|refine⟨_,_,_,rfl,rfl,T.HX,T.H8,?_⟩)
  refine⟨fun ρ=>ρ=[.some (zJ A .falling n),.some (xK (false,1)),.some (.str (gZ false)),.some (.int 1),.own [chD (2,1),chD (1,-n-1),chD (0,n)]],?_,?_⟩
  ·exact⟨_,rfl,rfl,rfl,_,rfl,ifT (eqI rfl) ⟨_,rfl,_,rfl,_,_,_,rfl,rfl,T.HX,T.H8,rfl,(by show(2:Nat)≤100000;decide),rfl⟩⟩
  rintro ρ rfl
  refine⟨fun ρ=>ρ=[.some (zJ A .falling n),.some (xK (false,1)),.some (.str (gZ false)),.some (.int 1),.own [chD (2,1),chD (1,-n-1),chD (0,n)]],?_,?_⟩
  ·exact⟨_,rfl,_,_,rfl,rfl,_,rfl,ifF (by decide) rfl⟩
  rintro ρ rfl
  exact⟨_,rfl,q⟩
 | (false,p+2),_,q=>
  repeat(first|(walk_at "rd1")|refine⟨_,_,_,rfl,rfl,T.HX,T.H8,?_⟩)
  refine⟨fun ρ=>ρ=[.some (zJ A .falling n),.some (xK (false,p+2)),.some (.str (gZ false)),.some (.int ((p+2:Nat):Int)),.own [chD (p+3,1),chD (p+2,-n-1)]],?_,?_⟩
  ·exact⟨_,rfl,rfl,rfl,_,rfl,ifF (neI (by show((p+2:Nat):Int)≠1;omega)) rfl⟩
  rintro ρ rfl
  refine⟨fun ρ=>ρ=[.some (zJ A .falling n),.some (xK (false,p+2)),.some (.str (gZ false)),.some (.int ((p+2:Nat):Int)),.own [chD (p+3,1),chD (p+2,-n-1),chD (p+1,n-1),chD (p,1)]],?_,?_⟩
  ·refine⟨_,rfl,_,_,rfl,rfl,_,rfl,ifT (decide_eq_true (by omega)) ?_⟩
   refine⟨_,rfl,_,rfl,_,_,rfl,rfl,_,rfl,_,_,_,rfl,rfl,T.HX,T.H8,_,_,rfl,rfl,rfl,(by show(2:Nat)≤100000;decide),?_⟩
   refine⟨_,rfl,_,rfl,_,_,rfl,rfl,rfl,(by show(3:Nat)≤100000;decide),?_⟩
   show[_,_,_,_,Sl.own [_,_,Dt.tup [.int (((p+2:Nat):Int)-1),.int (n-1)],Dt.tup [.int (((p+2:Nat):Int)-2),.int 1]]]=_
   rw[show((p+2:Nat):Int)-1=((p+1:Nat):Int) by omega,show((p+2:Nat):Int)-2=(p:Int) by omega]
   rfl
  rintro ρ rfl
  exact⟨_,rfl,q⟩
abbrev sy:Stmt:=top 33
def sc_do_steps:zk ["way","heap","step","many","place","things"] ["way","heap","step","many"] (defScope sy):=by walk_at "sc"
def ip(T:Txt K mg A)(AT:DOk P w K mg base 1 "changes" (VO A))(F:Fun K "do_steps" "do_steps" sy f fd):FnOk P w K mg base CX0 2 f fd ["way","heap","step","many"] (lI K (Lw A)):=by
 refine okA F sc_do_steps (by walk_at "ln") fun _ _ _ _ _ _ hr d0 es0 ds Q a h=>?_
 obtain⟨n,l,s,m,rfl,rfl,rfl,hn,hs,hp,q⟩:=h
 refine⟨_,(ze (xN PassesOwn.never (zp (uO) (X3 1 rfl T.len) (zi zK (zr (dv 2) zd (fun _ _=>rfl)) zd) (zo _)) (zf (XZ 1 zd)))
 (zf (XY (i:=4) (j:=5) rfl sc_do_steps.nd rfl rfl (Or.inl rfl) (Or.inl rfl) PassesOwn.never (zh AT (rom hr) rfl (za (dv 0) (za (dv 2) zg))) (zf (rF 1 nl (dv 4) (zi z5 (dv 3) (dv 5))))))),?_⟩
 obtain⟨b1,b2⟩:=xq hn
 refine⟨fun m' ρ=>∃k,ρ=[.some (zJ A .falling n),.arg a ((l++List.replicate k 0).map Dt.int),.some (xK s),.some (.int m),.none,.none]∧m'=(s.2+2)-(l.length+k)∧(k=0∨l.length+k≤s.2+2)∧k≤s.2+2,⟨_,0,by rw[List.replicate_zero,Cm];rfl,rfl,.inl rfl,B4 _⟩,?_⟩
 rintro m' ρ' ⟨k,rfl,rfl,hk,hk2⟩
 have hlen:((l++List.replicate k 0).map Dt.int).length=l.length+k:=by rw[zH,Bv,Cs]
 refine⟨a,_,rfl,_,rfl,_,1,_,rfl,rfl,rfl,_,_,rfl,rfl,_,_,rfl,rfl,_,rfl,?_⟩
 rw[hlen]
 refine ifB (fun h=>?_) (fun h=>?_)
 ·have h:=of_decide_eq_true h
  have h':l.length+k<s.2+2:=by omega
  refine⟨a,_,rfl,by rw[hlen];omega,_,?_,k+1,?_,rfl,.inr (by omega),by omega⟩
  ·omega
  ·show[_,_,_,_,_,_]=_
   rw[List.replicate_succ',←CU,←vw]
 ·have h:=of_decide_eq_false h
  have h':s.2+2≤l.length+k:=by omega
  obtain⟨l2,hl2⟩:∃l2,l2=l++List.replicate k 0:=⟨_,rfl⟩
  have el:l2.length=max l.length (s.2+2):=by rw[hl2,Bv,Cs];omega
  have ef:∀i,hf l2 i=hf l i:=fun i=>by rw[hl2];exact UM l k i
  rw[←hl2]
  refine⟨_,rfl,_,rfl,n,s,rfl,hn,hs,_,fun i ρ=>∃g v4 v5,ρ=[.some (zJ A .falling n),.arg a (g.map Dt.int),.some (xK s),.some (.int m),v4,v5]∧g.length=l2.length∧∀j,hf g j=hf l j+m*xh ((chg n s).take i) j,rfl,⟨l2,_,_,rfl,rfl,fun j=>by rw[ef];show _=hf l j+m*0;omega⟩,?_,?_⟩
  ·rintro i e ρ' he ⟨g,v4,v5,rfl,hg,hj⟩
   rw[Bx]at he
   obtain⟨x,hx,rfl⟩:=BU.mp he
   have hm:=BH hx
   have hlt:=dm (m:=g.length) (by omega) x hm
   obtain⟨c1,c2⟩:=Tj b1 b2 x hm
   refine⟨_,_,rfl,a,_,rfl,_,rfl,(x.1:Int),hf g x.1,rfl,by omega,?_,_,rfl,_,rfl,_,_,rfl,rfl,small (by omega) (by omega) _,_,rfl,?_⟩
   ·rw[Cb];exact vY hlt
   ·rw[Cb]
    refine⟨g.set x.1 (hf g x.1+m*x.2),.some (.int x.1),.some (.int x.2),?_,by rw[B_];exact hg,fun j=>?_⟩
    ·show[_,_,_,_,_,_]=_
     rw[←ux]
    ·rw[kR hlt,hj j,b_ hx,CS]
     have:pt x.1 (m*x.2) j=m*pt x.1 x.2 j:=by
      unfold pt
      split
      ·rfl
      ·rw[BN]
     omega
  ·rintro ρ' ⟨g,v4,v5,rfl,hg,hj⟩
   rw[Bs,List.take_length]at hj
   exact⟨_,rfl,q g (by omega) hj⟩
abbrev yS:Stmt:=top 36
def sc_steps_and_writing:zk ["way","heap","done","left","place","step","many"] ["way","heap"] (defScope yS):=by walk_at "sc"
def uL(T:Txt K mg A)(AU:DOk P w K mg base 1 "held_to_be_a_heap" (c6 A))(AV:DOk P w K mg base 1 "step_at" (gA A))(AW:DOk P w K mg base 1 "how_often" (cV A))(AX:AOk P w K mg base 2 "do_steps" (Lw A))(Aq:FOk P w K mg base 1 "trimmed" (jt))(F:Fun K "steps_and_writing" "steps_and_writing" yS f fd):FnOk P w K mg base CX0 3 f fd ["way","heap"] (gu K (.t true true) (YB A)):=by
 refine okT F sc_steps_and_writing (by walk_at "ln") fun _ _ _ _ _ _ hr ds Q h=>?_
 obtain⟨n,h,rfl,hn,hl,hnn,hpot,q⟩:=h
 refine⟨_,(ze (v9 (zh AU (rom hr) rfl (za (dv 0) (za (dv 1) zg))))
 (ze (yc (i:=2) sc_steps_and_writing.nd rfl (Or.inl rfl) (xg zg))
 (ze (yc (i:=3) sc_steps_and_writing.nd rfl (Or.inl rfl) (ou rfl T.n_list (dv 1)))
 (ze (zq (i:=4) sc_steps_and_writing.nd rfl (Or.inl rfl) (zi zN (ua 3 rfl T.len) zd))
 (ze (xN PassesOwn.never (zp (eA) (dv 4) zd (zo _)) (ze (zq (i:=5) sc_steps_and_writing.nd rfl (Or.inl rfl) (cH (zh AV (rom hr) rfl (za (dv 0) (za (dv 3) (za (dv 4) zg))))))
 (zf (zx (kZ (dv 5)) (zf (cy (i:=4) ZM sc_steps_and_writing.nd rfl (Or.inl rfl) zd)) (ze (zq (i:=6) sc_steps_and_writing.nd rfl (Or.inl rfl) (cH (zh AW (rom hr) rfl (za (dv 0) (za (dv 3) (za (dv 5) zg))))))
 (ze (US 2 (DF.de (UV (z9 (za (dv 5) zg)) (dv 6))))
 (ze (i8 3 AX (rom hr) rfl (dv 0) (za (dv 5) (za (dv 6) zg)))
 (zf (zq (i:=4) sc_steps_and_writing.nd rfl (Or.inl rfl) (Yg rfl rfl T.n_min (za (zi zK (dv 4) zd) (za (zi zN (ua 3 rfl T.len) zd) zg))))))))))))
 (xt 3 (zf (Z4 2 (zM Aq (rom hr) rfl (za (dv 3) zg)))))))))),?_⟩
 refine⟨_,rfl,_,rfl,n,h,rfl,hnn,?_⟩
 obtain⟨b1,b2⟩:=xq hn
 have h0:=Mu hnn
 refine⟨rfl,_,rfl,_,rfl,_,rfl,_,rfl,_,rfl,_,_,rfl,rfl,?_⟩
 refine⟨fun m ρ=>∃(ss:List Stp)(l:List Int)(p:Int)(v5 v6:Sl),ρ=[.some (zJ A .falling n),.some (zy h),.own (ss.map xK),.own (l.map Dt.int),.some (.int p),v5,v6]∧-1≤p∧p<l.length∧(∀i,0≤hf l i)∧l.length≤h.length+60∧My.hw n l=My.hw n h∧Walk n (hf h) ss (hf l)∧(ss.length:Int)+pot n l≤pot n h∧(∀q:Nat,p<q→q<l.length→y8 n (hf l) q=none)∧m=(3*pot n l+p+1).toNat,?_,?_⟩
 ·refine⟨_,[],h,_,_,_,rfl,by omega,?_,h0,by omega,rfl,rfl,?_,fun q h1 h2=>?_,rfl⟩
  ·rw[zH];omega
  ·show(0:Int)+_≤_;omega
  ·rw[zH]at h1;omega
 rintro m ρ' ⟨ss,l,p,v5,v6,rfl,p0,p1,l0,hlen,hwe,hwk,hss,hno,rfl⟩
 have pn:=jJ (w:=cst n) (fun i=>by have:=(tN n i).1;omega) l0 l.length
 have pn:0≤pot n l:=pn
 refine⟨_,rfl,_,_,rfl,rfl,_,rfl,ifB (fun hp=>?_) (fun hp=>?_)⟩
 ·have hp:=of_decide_eq_true hp
  obtain⟨pp,rfl⟩:∃pp:Nat,p=pp:=⟨p.toNat,by omega⟩
  have hpl:pp<l.length:=by omega
  refine⟨_,rfl,_,rfl,_,rfl,n,l,pp,rfl,hn,hpl,?_⟩
  cases hs:y8 n (hf l) pp with
  | none=>
   refine⟨rfl,_,rfl,_,rfl,ifT rfl ?_⟩
   refine⟨_,rfl,_,_,rfl,rfl,_,?_,ss,l,(pp:Int)-1,_,_,rfl,by omega,by omega,l0,hlen,hwe,hwk,hss,fun q h1 h2=>?_,rfl⟩
   ·omega
   ·by_cases e:q=pp
    ·subst e;exact hs
    ·exact hno q (by omega) h2
  | some s=>
   obtain⟨e2,hcan⟩:=jH hs
   have hsp:s.2<l.length:=by omega
   refine⟨rfl,_,rfl,_,rfl,ifF rfl ?_⟩
   refine⟨_,rfl,_,rfl,_,rfl,n,l,s,rfl,hn,hsp,hcan,fun m hm hof=>⟨rfl,?_⟩⟩
   have hmc:=hof.le_pot b1 l0 (by omega) hsp
   refine⟨_,rfl,_,rfl,rfl,_,rfl,_,_,rfl,rfl,by omega,by omega,by show 1*_≤_;omega,_,rfl,?_,?_⟩
   ·rw[mN,Bs,Bs,Cs];omega
   have pb:pp<h.length+48:=by
    refine Zf b1 h0 l0 hpot hwe ?_
    rw[←e2]
    exact hcan.pos b1
   refine⟨_,rfl,_,rfl,_,rfl,_,rfl,n,l,s,m,rfl,rfl,rfl,hn,hof.up,by omega,fun l' hl' he'=>?_⟩
   obtain⟨k1,k2,k3,k4⟩:=bM b1 hm l0 hof hl' he'
   have pn':=jJ (w:=cst n) (fun i=>by have:=(tN n i).1;omega) k1 l'.length
   have pn':0≤pot n l':=pn'
   refine⟨_,rfl,_,_,rfl,rfl,_,rfl,_,_,rfl,rfl,_,_,rfl,?_⟩
   dsimp only
   rw[zH,mN,←B3]
   obtain⟨p',hp'⟩:∃p':Int,p'=if(l'.length:Int)-1<(pp:Int)+2 then(l'.length:Int)-1 else(pp:Int)+2:=⟨_,rfl⟩
   rw[←hp']
   have hp2:p'≤pp+2∧-1≤p'∧p'<l'.length∧(p'=(l'.length:Int)-1∨p'=pp+2):=by
    rw[hp']
    split<;>omega
   refine⟨(3*pot n l'+p'+1).toNat,by omega,ss++List.replicate m.toNat s,l',p',_,_,rfl,by omega,by omega,k1,by omega,k2.trans hwe,k4.append hwk,?_,fun q h1 h2=>?_,rfl⟩
   ·rw[Bv,Cs];omega
   ·rcases hp2.2.2.2 with z|z
    ·omega
    ·have f1:hf l' q=hf l q:=by rw[he',cz (by omega),BN,Cp]
     have f2:hf l' (q-1)=hf l (q-1):=by rw[he',cz (by omega),BN,Cp]
     have e:y8 n (hf l') q=y8 n (hf l) q:=by unfold y8;rw[f1,f2]
     rw[e]
     by_cases hq:q<l.length
     ·exact hno q (by omega) hq
     ·unfold y8
      rw[yG (by omega),if_neg (by omega),if_neg (by omega)]
 ·have hp:=of_decide_eq_false hp
  have hlg:Lg .falling n l:=XE l0 (fun q hq=>hno q (by omega) hq)
  refine⟨_,rfl,_,rfl,_,rfl,l,rfl,?_⟩
  have:=wb l
  refine q ss (trim l) ⟨hlg.trim,(XI n l).trans hwe,?_,by omega,by omega⟩
  rw[show hf (trim l)=hf l from funext (cm l)]
  exact hwk
abbrev oS:Stmt:=top 37
def bp:zk ["way","heap"] ["way","heap"] (defScope oS):=by walk_at "sc"
def bB(T:Txt K mg A)(AY:TOk P w K mg base 3 "steps_and_writing" (.t true true) (YB A))(F:Fun K "fallen" "fallen" oS f fd):FnOk P w K mg base CX0 4 f fd ["way","heap"] (zZ K (lH A)):=by
 refine okF F bp (by walk_at "ln") fun _ _ _ _ _ _ hr ds Q h=>?_
 obtain⟨n,h,rfl,hn,hl,hnn,hp,q⟩:=h
 refine⟨_,(zf (yx (UU (X0 AY (rom hr) rfl (za (dv 0) (za (dv 1) zg))) (fun _ _=>rfl)))),?_⟩
 exact⟨_,rfl,_,rfl,n,h,rfl,hn,hl,hnn,hp,fun ss r hF=>⟨_,_,rfl,q ss r hF⟩⟩
abbrev wW:Stmt:=top 50
def oM:zk ["way","row"] ["way","row"] (defScope wW):=by walk_at "sc"
def oY(T:Txt K mg A)(AZ:FOk P w K mg base 4 "fallen" (lH A))(Ay:FOk P w K mg base 6 "settled" (qU A))(F:Fun K "written_row" "written_row" wW f fd):FnOk P w K mg base CX0 7 f fd ["way","row"] (zZ K (tm A)):=by
 refine okF F oM (by walk_at "ln") fun _ _ _ _ _ _ hr ds Q h=>?_
 obtain⟨k,n,ts,b,rfl,hn,hl,ht,hb,b7,b8,hp,hf,q⟩:=h
 refine⟨_,(ze (zx (zR (y6 T.isinstance T.Gi (dv 0))) (zf (yx (zM AZ (rom hr) rfl (za (dv 0) (za (dv 1) zg))))) zm)
 (zf (yx (zM Ay (rom hr) rfl (za (dv 0) (za (dv 1) zg)))))),?_⟩
 refine⟨_,rfl,_,_,_,_,rfl,uU T k,kiF T k,_,rfl,?_⟩
 by_cases hk:k=.falling
 ·subst hk
  obtain⟨h,rfl,h0,hpot⟩:=hf rfl
  refine ifT rfl ?_
  rw[Bs]at hl
  refine⟨_,rfl,_,rfl,n,h,by unfold zy pq;rw[ay],hn,by omega,h0,hpot,fun ss r F=>?_⟩
  refine q r F.leg ?_ ?_
  ·rw[yg,yC,yC,F.eqw]
  ·rw[Bs];have:=F.len;omega
 ·have h5:k.five=true:=by cases k<;>first|rfl|exact absurd rfl hk
  refine ifF (vp h5) ?_
  obtain⟨J,F,hJ⟩:=aJ h5 hn ht hb b7 hp
  refine⟨_,rfl,_,rfl,k,n,ts,J,rfl,h5,hn,ht,F,by omega,?_⟩
  refine q _ (sd h5 hn ht) (t_ F h5 hn ht) ?_
  have:=wb (vt k n ts J)
  rw[vq]at this
  show(trim (vt k n ts J)).length≤_
  omega
abbrev oQ:Stmt:=top 61
def sc_shared:zk ["way","row","many","parts"] ["way","row","many"] (defScope oQ):=by walk_at "sc"
def bA(T:Txt K mg A)(Ad:DOk P w K mg base 4 "held_to_be_writings" (sU A))(A0:DOk P w K mg base 3 "quotients_and_rest" (VL A))(Ae:FOk P w K mg base 7 "written_row" (tm A))(F:Fun K "shared" "shared" oQ f fd):FnOk P w K mg base CX0 8 f fd ["way","row","many"] (gu K (.t true false) (gC A)):=by
 refine okT F sc_shared (by walk_at "ln") fun _ _ _ _ _ _ hr ds Q h=>?_
 obtain⟨k,n,r,m,rfl,hk,ho,q⟩:=h
 refine⟨_,(ze (zx (zR (y6 T.isinstance T.Gz (dv 0))) (zf zP) zm)
 (ze (v9 (zh Ad (rom hr) rfl (za (dv 0) (za (z9 (za (dv 1) zg)) zg))))
 (ze (zx (zp (uO) (dv 2) zd (zo _)) (zf zP) zm)
 (ze (zq (i:=3) sc_shared.nd rfl (Or.inl rfl) (zh A0 (rom hr) rfl (za (dv 0) (za (dv 1) (za (dv 2) zg)))))
 (zf (XX (Hr (zM Ae (rom hr) rfl (za (dv 0) (za (zr (dv 3) zd (fun _ _=>rfl)) zg)))) (Hs (zr (dv 3) zd (fun _ _=>rfl))))))))),?_⟩
 obtain⟨hn,hL,⟨hl,hlf⟩,hm,hm2⟩:=id ho
 refine⟨_,rfl,_,_,_,_,rfl,uU T k,kiP T k,_,rfl,ifF (by cases k<;>first|rfl|exact absurd rfl hk) ?_⟩
 refine⟨_,rfl,_,rfl,rfl,k,n,[r],rfl,hn,fun r' h'=>by rw[BD.mp h'];exact⟨hL,by omega⟩,?_⟩
 refine⟨_,rfl,_,_,rfl,rfl,_,rfl,ifF (decide_eq_false (by omega)) ?_⟩
 refine⟨_,rfl,_,rfl,_,rfl,k,n,r,m,rfl,hk,ho,fun qs e hq=>?_⟩
 obtain⟨q1,q2,q3,q4,q5,q6⟩:=hq
 refine⟨_,rfl,_,rfl,_,_,_,rfl,rfl,rfl,?_⟩
 delta bZ
 refine oA ⟨k,n,qs.map Nm.i,14,by rw[xU],hn,by rw[Bs];omega,xI,fun t ht=>?_,by decide,by decide,fun hp=>?_,fun hf=>?_,fun s hs hws hls=>?_⟩
 ·obtain⟨z,hz,rfl⟩:=BR.mp ht
  have:=q2 z hz
  exact⟨by show z.natAbs≤16384;omega,by show(0:Int).natAbs≤_;decide⟩
 ·rw[yg]
  exact aW hm q6 q5 (tE hn hL hp)
 ·exact⟨qs,rfl,fun z hz=>(q3 hf z hz).1,qv (B:=30) (q3 hf) (by decide) (by decide) (by rw[q1];exact hlf hf)⟩
 ·rw[yg]at hws
  rw[Bs]at hls
  exact⟨_,rfl,_,_,_,rfl,rfl,rfl,q s e hs (by omega) q4 q5 (by rw[hws];exact q6)⟩
abbrev vF:Stmt:=top 88
def sc_share_said:zk ["way","writing","many","parts"] ["way","writing","many"] (defScope vF):=by walk_at "sc"
def n_(T:Txt K mg A)(A1:TOk P w K mg base 8 "shared" (.t true false) (gC A))(Am:DOk P w K mg base 3 "row_shown" (uk))(AA:DOk P w K mg base 3 "number_shown" (nO))(F:Fun K "share_said" "share_said" vF f fd):FnOk P w K mg base CX0 9 f fd ["way","writing","many"] (zw K (cR A)):=by
 refine okD F sc_share_said (by walk_at "ln") fun _ _ _ _ _ _ hr ds Q h=>?_
 obtain⟨k,n,a,m,rfl,hk,ho,hm,q⟩:=h
 refine⟨_,(ze (zq (i:=3) sc_share_said.nd rfl (Or.inl rfl) (zh A1.dok (rom hr) rfl (za (dv 0) (za (dv 1) (za (dv 2) zg)))))
 (zf (zl (zi xb (zi xb (zh Am (rom hr) rfl (za (zr (dv 3) zd (fun _ _=>rfl)) zg)) zt) (zh AA (rom hr) rfl (za (zr (dv 3) zd (fun _ _=>rfl)) zg)))))),?_⟩
 have hn:=ho.1
 walk_at "rd"
 refine⟨k,n,a,m,rfl,hk,ho,fun s e hLs ls e0 e1 he=>?_⟩
 have hs:=yl hn hLs.fig (by omega)
 have l1:=rc (B:=700) ls (by decide) hs
 have he6:e.natAbs<10^60:=by omega
 have l2:=zT (k:=60) e (by decide) he6
 have q:=q s e hLs ls e0 e1 he
 rw[←cN]at q
 refine⟨_,rfl,_,_,_,rfl,rfl,rfl,s,rfl,by omega,hs,_,_,rfl,rfl,by rw[wE];omega,_,rfl,_,_,_,rfl,rfl,rfl,.i e,rfl,⟨he6,by show(0:Int).natAbs<10^60;decide⟩,_,_,rfl,rfl,?_,q⟩
 show(rsh s++(" ":Str)).length+(shw e).length≤_
 rw[yw,wE]
 omega
abbrev uE:Stmt:=top 52
def lW:zk ["way","number"] ["way","number"] (defScope uE):=by walk_at "sc"
def kB(T:Txt K mg A)(Al:DOk P w K mg base 2 "as_pair" (vy))(Ar:DOk P w K mg base 2 "is_pair" (tO))(F:Fun K "as_wanted" "as_wanted" uE f fd):FnOk P w K mg base CX0 3 f fd ["way","number"] (zw K (Yx A)):=by
 refine okD F lW (by walk_at "ln") fun _ _ _ _ _ _ hr ds Q h=>?_
 obtain⟨k,n,m,rfl,q⟩:=h
 refine⟨_,(ze (zx (zR (y6 T.isinstance T.Gz (dv 0))) (zf (zl (zh Al (rom hr) rfl (za (dv 1) zg)))) zm)
 (zX (zx (DW.dt (yk (zR (zh Ar (rom hr) rfl (za (dv 1) zg))) (yo (zp (wC hr) (zr (dv 1) zd (fun _ _=>rfl)) zd (zo _))))) (zf (zl (zr (dv 1) zd (fun _ _=>rfl)))) zm)
 (zf (zl (dv 1))))),?_⟩
 refine⟨_,rfl,_,_,_,_,rfl,uU T k,kiP T k,_,rfl,?_⟩
 by_cases hk:k=.pairs
 ·subst hk
  exact ifT rfl ⟨_,rfl,_,m,rfl,ym m,q⟩
 ·refine ifF (by cases k<;>first|rfl|exact absurd rfl hk) ?_
  refine⟨fun ρ=>ρ=[.some (zJ A k n),.some m.dt]∧rW k m=m,?_,?_⟩
  ·refine⟨_,rfl,_,m,rfl,ym m,_,rfl,?_⟩
   cases m with
   | i a=>exact ifF rfl (ifF rfl ⟨rfl,by cases k<;>first|rfl|exact absurd rfl hk⟩)
   | p a b=>
    refine ifT rfl ?_
    refine⟨_,rfl,_,_,_,rfl,rfl,rfl,rfl,rfl,_,rfl,?_⟩
    refine ifB (fun h=>?_) (fun h=>⟨rfl,?_⟩)
    ·have e:rW k (.p a b)=.i a:=by
      have hb:b=0:=qD h
      subst hb
      cases k<;>first|rfl|exact absurd rfl hk
     rw[e]at q
     exact⟨_,rfl,_,_,_,rfl,rfl,rfl,q⟩
    ·have hb:b≠0:=sH h
     cases k<;>first|exact if_neg hb|exact absurd rfl hk
  ·rintro ρ' ⟨rfl,e⟩
   rw[e]at q
   exact⟨_,rfl,q⟩
abbrev l7:Stmt:=top 53
def aM:zk ["way","row","other"] ["way","row","other"] (defScope l7):=by walk_at "sc"
def Zt(T:Txt K mg A)(Ad:DOk P w K mg base 4 "held_to_be_writings" (sU A))(AB:FOk P w K mg base 7 "written" (qT A))(A2:DOk P w K mg base 3 "as_wanted" (Yx A))(AC:DOk P w K mg base 5 "worth" (jq A))(F:Fun K "moved" "moved" l7 f fd):FnOk P w K mg base CX0 8 f fd ["way","row","other"] (zZ K (cX A)):=by
 refine okF F aM (by walk_at "ln") fun _ _ _ _ _ _ hr ds Q h=>?_
 obtain⟨k,n,r,k2,n2,r2,rfl,hn,hn2,hL,hl,hm,hw,q⟩:=h
 refine⟨_,(ze (v9 (zh Ad (rom hr) rfl (za (dv 0) (za (z9 (za (dv 1) zg)) zg))))
 (zf (yx (zM AB (rom hr) rfl (za (dv 2) (za (zh A2 (rom hr) rfl (za (dv 2) (za (zh AC (rom hr) rfl (za (dv 0) (za (dv 1) zg))) zg))) zg)))))),?_⟩
 refine⟨_,rfl,_,rfl,rfl,k,n,[r],rfl,hn,fun r' h'=>by rw[BD.mp h'];exact⟨hL,hl⟩,?_⟩
 exact⟨_,rfl,_,rfl,_,rfl,_,rfl,k,n,r,rfl,hn,hl,UP hn hL (by omega),k2,n2,_,rfl,k2,n2,_,r2,rfl,hn2,hm,hw,q⟩
abbrev vH:Stmt:=top 63
def sc_row_plus:zk ["one","other","many"] ["one","other"] (defScope vH):=by walk_at "sc"
def ig(T:Txt K mg A)(Ag:DOk P w K mg base 3 "added" (rP))(Aj:DOk P w K mg base 1 "thing_at" (wL))(F:Fun K "row_plus" "row_plus" vH f fd):FnOk P w K mg base CX0 4 f fd ["one","other"] (zw K (rO)):=by
 refine okD F sc_row_plus (by walk_at "ln") fun _ _ _ _ _ _ hr ds Q h=>?_
 obtain⟨a,b,rfl,ha,hb,q⟩:=h
 refine⟨_,(ze (zq (i:=2) sc_row_plus.nd rfl (Or.inl rfl) (Yh rfl rfl T.n_max (za (yt rfl T.len (dv 0)) (za (yt rfl T.len (dv 1)) zg))))
 (zf (zl (DF.de (VG (u6 (osc:=defScope vH) (N0:=["one","other","many"]) (bs:=["place"]) (caps:=["one","other"]) (js:=[0,1]) rfl (by decide +kernel) rfl rfl rfl (hG rfl T.range (dv 2)) (fun _ _ _ _ _=>(yf (i:=0) (show List.Nodup [("place":Str),("one":Str),("other":Str)] by decide +kernel) rfl (Or.inl (lookup_relabel_local rfl)) (.inl rfl))) vX (fun _ _ _ _ _=>sQ) (fun _ _ _ _ _=>(zh Ag (rom hr) rfl (za (zh Aj (rom hr) rfl (za (dv 1) (za (dv 0) zg))) (za (zh Aj (rom hr) rfl (za (dv 2) (za (dv 0) zg))) zg)))))))))),?_⟩
 have l1:(a.map Nm.dt).length=a.length:=Bs _
 have l2:(b.map Nm.dt).length=b.length:=Bs _
 walk_at "rd"
 have em:(if((b.map Nm.dt).length:Int)>((a.map Nm.dt).length:Int) then((b.map Nm.dt).length:Int) else((a.map Nm.dt).length:Int))=((max a.length b.length:Nat):Int):=by
  rw[l1,l2];split<;>omega
 rw[em]
 refine⟨_,fun i es=>es=((List.range i).map fun p=>(a.getD p (.i 0)).add (b.getD p (.i 0))).map Nm.dt,rfl,by omega,by omega,rfl,?_,?_⟩
 ·rintro i es hi rfl
  refine⟨_,rfl,_,rfl,_,i,rfl,by omega,?_⟩
  refine⟨_,rfl,_,rfl,_,i,rfl,by omega,?_⟩
  rw[Cb,kT,kT]
  refine⟨_,_,a.getD i (.i 0),b.getD i (.i 0),rfl,ym _,ym _,?_⟩
  show List.map Nm.dt (List.map (fun p=>(a.getD p (.i 0)).add (b.getD p (.i 0))) (List.range i))++[_]=List.map Nm.dt (List.map (fun p=>(a.getD p (.i 0)).add (b.getD p (.i 0))) (List.range (i+1)))
  rw[List.range_succ,B3,B3]
  rfl
 ·rintro es rfl
  rw[Cb]
  exact q
abbrev fC:Stmt:=top 70
def Y6:zk ["way","one","other"] ["way","one","other"] (defScope fC):=by walk_at "sc"
def Xw(T:Txt K mg A)(Ad:DOk P w K mg base 4 "held_to_be_writings" (sU A))(Ae:FOk P w K mg base 7 "written_row" (tm A))(An:DOk P w K mg base 4 "row_plus" (rO))(F:Fun K "plus" "plus" fC f fd):FnOk P w K mg base CX0 8 f fd ["way","one","other"] (zZ K (YE A)):=by
 refine okF F Y6 (by walk_at "ln") fun _ _ _ _ _ _ hr ds Q h=>?_
 obtain⟨k,n,a,b,rfl,hn,hLa,hLb,la,lb,q⟩:=h
 refine⟨_,(ze (v9 (zh Ad (rom hr) rfl (za (dv 0) (za (z9 (za (dv 1) (za (dv 2) zg))) zg))))
 (zf (yx (zM Ae (rom hr) rfl (za (dv 0) (za (zh An (rom hr) rfl (za (dv 1) (za (dv 2) zg))) zg)))))),?_⟩
 refine⟨_,rfl,_,rfl,_,rfl,rfl,k,n,[a,b],rfl,hn,fun r' h'=>?_,?_⟩
 ·rcases BE.mp h' with rfl|h'
  ·exact⟨hLa,by omega⟩
  ·rw[BD.mp h'];exact⟨hLb,by omega⟩
 have hl:=uJ a b
 refine⟨_,rfl,_,rfl,_,rfl,a.map Nm.i,b.map Nm.i,by rw[xU,xU],by rw[Bs];omega,by rw[Bs];omega,?_⟩
 have hw:yp k n ((yX a b).map Nm.i)=(zj k n a).add (zj k n b):=by rw[yg,oB]
 refine oA ⟨k,n,(yX a b).map Nm.i,14,by rw[vn],hn,by rw[Bs];omega,xI,fun t ht=>?_,by decide,by decide,fun hk=>?_,fun hk=>?_,fun r hr hwr hlr=>?_⟩
 ·obtain⟨z,hz,rfl⟩:=BR.mp ht
  obtain⟨p,rfl⟩:=uI hz
  have f1:=tK hn hLa (by omega) p
  have f2:=tK hn hLb (by omega) p
  have:=Int.natAbs_add_le (hf a p) (hf b p)
  exact⟨by show(hf a p+hf b p).natAbs≤16384;omega,by show(0:Int).natAbs≤_;decide⟩
 ·rw[hw,zS]
  have:=tE hn hLa hk
  have:=tE hn hLb hk
  omega
 ·subst hk
  have n9:n≤9:=hn.2
  have la2:=la.2 rfl
  have lb2:=lb.2 rfl
  refine⟨_,rfl,fun z hz=>?_,qv (B:=18) (fun z hz=>?_) (by decide) (by decide) (by omega)⟩
  all_goals
   obtain⟨p,rfl⟩:=uI hz
   have f1:=yy hn hLa p
   have f2:=yy hn hLb p
   omega
 ·rw[Bs]at hlr
  exact q r hr (hwr.trans hw) (by omega)
abbrev wS:Stmt:=top 64
def lT:zk ["row","factor"] ["row","factor"] (defScope wS):=by walk_at "sc"
def kn(T:Txt K mg A)(Ah:DOk P w K mg base 3 "multiplied" (nP))(F:Fun K "row_times" "row_times" wS f fd):FnOk P w K mg base CX0 4 f fd ["row","factor"] (zw K (rN)):=by
 refine okD F lT (by walk_at "ln") fun _ _ _ _ _ _ hr ds Q h=>?_
 obtain⟨a,f,rfl,ha,⟨f1,f2,f3,f4⟩,q⟩:=h
 refine⟨_,(zf (zl (DF.de (Ll (u6 (osc:=defScope wS) (N0:=["row","factor"]) (bs:=["thing"]) (caps:=["factor"]) (js:=[1]) rfl (by decide +kernel) rfl rfl rfl (cB (dv 0)) (fun _ _ _ _ _=>(yf (i:=0) (show List.Nodup [("thing":Str),("factor":Str)] by decide +kernel) rfl (Or.inl (lookup_relabel_local rfl)) (.inl rfl))) vX (fun _ _ _ _ _=>sQ) (fun _ _ _ _ _=>(zh Ah (rom hr) rfl (za (dv 0) (za (dv 1) zg))))))))),?_⟩
 have ll:=zH a
 refine⟨_,rfl,a.map Dt.int,fun i es=>es=((a.take i).map fun z=>(Nm.i z).mul f).map Nm.dt,rfl,by rw[ll];omega,rfl,?_,?_⟩
 ·rintro i e es hi rfl
  obtain⟨rfl,hl⟩:=ka hi
  refine⟨_,rfl,_,rfl,_,_,.i (a.getD i 0),f,rfl,rfl,ym f,⟨small f1 f2 _,small f3 f4 _,small f3 f4 _,small f1 f2 _⟩,?_⟩
  show List.map Nm.dt (List.map (fun z=>(Nm.i z).mul f) (a.take i))++[_]=List.map Nm.dt (List.map (fun z=>(Nm.i z).mul f) (a.take (i+1)))
  rw[bf hl,B3,B3]
  rfl
 ·rintro es rfl
  rw[ll,List.take_length]
  exact q
abbrev fD:Stmt:=top 66
def Y7:zk ["way","row","lender"] ["way","row","lender"] (defScope fD):=by walk_at "sc"
def Xx(T:Txt K mg A)(F:Fun K "lend" "lend" fD f fd):FnOk P w K mg base CX0 1 f fd ["way","row","lender"] (lI K (YI A)):=by
 refine okA F Y7 (by walk_at "ln") fun _ _ _ _ _ _ hr d0 es0 ds Q a h=>?_
 obtain⟨n,r,l,rfl,rfl,rfl,hn,hl1,hlr,hl,q⟩:=h
 refine⟨_,(ze (rF 1 ZM (dv 2) zd)
 (ze (rF 1 nl (zi zN (dv 2) zd) (z4 (dv 0)))
 (zf (zx (zp (wC hr) (dv 2) zd (zo _)) (zf (rF 1 nl zd zd)) (zf (rF 1 nl (zi zN (dv 2) zd) zd)))))),?_⟩
 have l1:(r.set l (hf r l + -1)).length=r.length:=B_
 have l2:((r.set l (hf r l + -1)).set (l-1) (hf (r.set l (hf r l + -1)) (l-1)+n)).length=r.length:=by rw[B_,l1]
 generalize e1:r.set l (hf r l + -1)=r1 at *
 generalize e2:r1.set (l-1) (hf r1 (l-1) + n)=r2 at *
 have fin:∀es,es=(r2.set (l-2) (hf r2 (l-2)+1)).map Dt.int→Q es:=fun es he=>by
  subst he
  refine q _ (by rw[B_,l2]) fun i=>?_
  rw[kR (by omega),←e2,kR (by omega),←e1,kR hlr]
  show hf r i+pt l (-1) i+pt (l-1) n i+pt (l-2) 1 i=hf r i+(pt l (-1) i+(pt (l-1) n i+(pt (l-2) 1 i+0)))
  omega
 refine⟨a,_,rfl,_,rfl,(l:Int),hf r l,rfl,by omega,by rw[Cb];exact vY hlr,_,rfl,?_⟩
 have es1:(r.map Dt.int).set l (Dt.int ((fun i j=>i-j) (hf r l) 1))=r1.map Dt.int:=by rw[←e1,←ux];rfl
 have es2:(r1.map Dt.int).set (l-1) (Dt.int ((fun i j=>i+j) (hf r1 (l-1)) n))=r2.map Dt.int:=by rw[←e2,←ux]
 rw[Cb,es1]
 have el:((l:Int)-1).toNat=l-1:=by omega
 refine⟨a,_,rfl,_,rfl,_,_,rfl,rfl,(l:Int)-1,hf r1 (l-1),rfl,by omega,by rw[el];exact vY (by omega),_,rfl,_,_,_,rfl,rfl,T.HX,T.H8,_,rfl,?_⟩
 rw[el,es2]
 refine⟨_,rfl,rfl,rfl,_,rfl,?_⟩
 by_cases hl:l=1
 ·subst hl
  refine ifT rfl ?_
  exact⟨a,_,rfl,0,hf r2 0,rfl,by omega,vY (by omega),_,rfl,_,rfl,fin _ (by rw[←ux];rfl)⟩
 ·refine ifF (neI (by omega)) ?_
  have el2:((l:Int)-2).toNat=l-2:=by omega
  exact⟨a,_,rfl,_,rfl,_,_,rfl,rfl,(l:Int)-2,hf r2 (l-2),rfl,by omega,by rw[el2];exact vY (by omega),_,rfl,_,rfl,fin _ (by rw[el2,←ux])⟩
abbrev wk:Stmt:=top 65
def sc_lender_above:zk ["row","place","lender"] ["row","place"] (defScope wk):=by walk_at "sc"
def pN(T:Txt K mg A)(F:Fun K "lender_above" "lender_above" wk f fd):FnOk P w K mg base CX0 1 f fd ["row","place"] (zw K (gK)):=by
 refine okD F sc_lender_above (by walk_at "ln") fun _ _ _ _ _ _ hr ds Q h=>?_
 obtain⟨r,p,rfl,hl,hp,hR,q⟩:=h
 refine⟨_,(ze (i7 (j:=2) rfl sc_lender_above.nd rfl (Or.inl rfl) PassesOwn.never rfl T.range (za (zi zK (dv 1) zd) (za (yt rfl T.len (dv 0)) zg)) (zf (zx (zp (rk) (zr (dv 0) (dv 2) (fun _ _=>rfl)) zd (zo _)) (zf (zl (dv 2))) zm)))
 (zf zP)),?_⟩
 have ll:=zH r
 walk_at "rd"
 refine⟨_,_,fun i ρ=>∃v,ρ=[.some (zy r),.some (.int p),v]∧∀j,p<j→j<p+1+i→hf r j≤0,rfl,by omega,by omega,by omega,by omega,⟨_,rfl,fun j h1 h2=>by omega⟩,?_,?_⟩
 ·rintro i ρ' hi ⟨v,rfl,hj⟩
  have ei:(p:Int)+1+i=((p+1+i:Nat):Int):=by omega
  rw[ei]
  refine⟨_,rfl,_,rfl,_,_,_,rfl,rfl,xA (show p+1+i<r.length by omega),_,_,rfl,rfl,_,rfl,ifB (fun h=>?_) (fun h=>?_)⟩
  ·exact⟨_,rfl,q (p+1+i) (by omega) (by omega) (fun j a b=>hj j a b) (of_decide_eq_true h)⟩
  ·refine⟨_,rfl,fun j a b=>?_⟩
   rcases(by omega:j<p+1+i∨j=p+1+i) with z|z
   ·exact hj j a z
   ·subst z
    have:=of_decide_eq_false h
    show r.getD (p+1+i) 0≤0
    omega
 ·rintro ρ' ⟨v,rfl,hj⟩
  refine(hR fun i hi=>?_).elim
  by_cases z:i<r.length
  ·exact hj i hi (by omega)
  ·rw[yG (by omega)];exact BW _
abbrev xO:Stmt:=top 67
def sc_without_debts:zk ["way","row","things","place"] ["way","row"] (defScope xO):=by walk_at "sc"
def qy(T:Txt K mg A)(A3:AOk P w K mg base 1 "lend" (YI A))(A4:DOk P w K mg base 1 "lender_above" (gK))(F:Fun K "without_debts" "without_debts" xO f fd):FnOk P w K mg base CX0 2 f fd ["way","row"] (zZ K (VI A)):=by
 refine okF F sc_without_debts (by walk_at "ln") fun _ _ _ _ _ _ hr ds Q h=>?_
 obtain⟨n,r,o,rfl,hn,hl,hd,hdo,ho,hR,q⟩:=h
 refine⟨_,(ze (yc (i:=2) sc_without_debts.nd rfl (Or.inl rfl) (ou rfl T.n_list (dv 1)))
 (ze (vZ (j:=3) rfl sc_without_debts.nd rfl (Or.inl rfl) PassesOwn.never rfl T.range (za (zi zN (ua 2 rfl T.len) zd) (za (z0 zd) (za (z0 zd) zg))) (zf (xN PassesOwn.never (zp (uO) (db 2 (dv 3) (fun _ _=>rfl)) zd (zo _)) (zf (i8 2 A3 (rom hr) rfl (dv 0) (za (UW (zh A4 (rom hr) rfl (za (dv 2) (za (dv 3) zg)))) zg))))))
 (zf (x8 2)))),?_⟩
 have ll:=zH r
 have n1:1≤n:=hn.1
 have n9:n≤9:=hn.2
 have wn:∀i,0≤wf n i:=fun i=>by have:=(zQ n1 i).1;omega
 refine⟨_,rfl,_,rfl,_,rfl,?_⟩
 walk_at "rd"
 refine⟨_,_,fun i ρ=>∃(g:List Int)(v:Sl),ρ=[.some (zJ A .falling n),.some (zy r),.own (g.map Dt.int),v]∧g.length=r.length∧(∀j,r.length≤j+i→0≤hf g j)∧(i<r.length→Lv n (hf r) r.length (r.length-1-i) (hf g))∧sm (wf n) (hf g) r.length=sm (wf n) (hf r) r.length∧∀j,hf g j≤n+1,rfl,by omega,by omega,by decide,by decide,⟨r,_,rfl,rfl,fun j hj=>by rw[yG (by omega)];exact BW _,fun _=>Lv.start hd (fun i hi=>yG hi),rfl,fun j=>by have:=hd j;omega⟩,?_,?_⟩
 ·rintro i ρ' hi ⟨g,v,rfl,hg,hab,hlv,hwq,hhi⟩
  obtain⟨p,hp⟩:∃p:Nat,p+i+1=r.length:=⟨r.length-1-i,by omega⟩
  have ep:((List.map Dt.int r).length:Int)-1-i=p:=by omega
  rw[ep]
  have lv:=hlv (by omega)
  rw[show r.length-1-i=p by omega]at lv
  refine⟨fun m ρ=>∃g:List Int,ρ=[.some (zJ A .falling n),.some (zy r),.own (g.map Dt.int),.some (.int p)]∧g.length=r.length∧Lv n (hf r) r.length p (hf g)∧m=(sm (far p) (hf g) r.length).toNat,⟨_,g,rfl,hg,lv,rfl⟩,?_⟩
  rintro m ρ' ⟨g,rfl,hg,lv,rfl⟩
  have lg:=zH g
  refine⟨_,rfl,_,rfl,_,_,rfl,jo (show(0:Int)≤p by omega) (by omega),_,_,rfl,rfl,_,rfl,?_⟩
  rw[Cb]
  refine ifB (fun h=>?_) (fun h=>?_)
  ·have hneg:hf g p<0:=of_decide_eq_true h
   refine⟨_,rfl,_,rfl,?_⟩
   refine⟨_,rfl,_,rfl,g,p,rfl,by omega,by omega,fun h0=>?_,fun l h1 h2 h3 h4=>?_⟩
   ·have:=lv.less n1 hneg (by omega) (fun i hi=>by have:=h0 i hi;have:=lv.ab i hi;omega) hdo (ho p (by omega))
    have hR:0≤sm (wf n) (hf r) r.length:=hR
    have this:sm (wf n) (hf r) r.length<0:=this
    omega
   ·have g0:∀i,p<i→i<l→hf g i=0:=fun i a b=>by have:=h3 i a b;have:=lv.ab i a;omega
    obtain⟨lv',dec⟩:=lv.lend n1 n9 hd hneg h1 (by omega) g0 h4
    refine⟨rfl,n,g,l,rfl,rfl,rfl,hn,by omega,by omega,by omega,fun g' hg' he=>?_⟩
    have ef:hf g'=fun i=>hf g i+xh (lnd n l) i:=funext he
    have nn:0≤sm (far p) (fun i=>hf g i+xh (lnd n l) i) r.length:=by
     exact ZV lv'.ab r.length
    exact⟨(sm (far p) (hf g') r.length).toNat,by rw[ef];omega,g',rfl,by omega,by rw[ef];exact lv',rfl⟩
  ·have hnn:¬hf g p<0:=of_decide_eq_false h
   refine⟨g,_,rfl,hg,fun j hj=>?_,fun hi2=>?_,lv.wq,lv.hi⟩
   ·rcases(by omega:j=p∨p<j) with z|z
    ·rw[z];omega
    ·exact lv.ab j z
   ·obtain⟨p',rfl⟩:∃p',p=p'+1:=⟨p-1,by omega⟩
    rw[show r.length-1-(i+1)=p' by omega]
    exact lv.next hd (by omega)
 ·rintro ρ' ⟨g,v,rfl,hg,hab,_,hwq,hhi⟩
  have e:(((List.map Dt.int r).length:Int)-1-(-1)).toNat=r.length:=by omega
  rw[e]at hab
  refine⟨_,rfl,q g hg (by unfold hw;rw[hg];exact hwq) fun z hz=>?_⟩
  obtain⟨i,hi⟩:=List.mem_iff_getElem?.mp hz
  have e2:hf g i=z:=by unfold hf;rw[List.getD_eq_getElem?_getD,hi];rfl
  rw[←e2]
  exact⟨hab i (by omega),hhi i⟩
abbrev l8:Stmt:=top 71
def sc_minus:zk ["way","one","other","difference"] ["way","one","other"] (defScope l8):=by walk_at "sc"
def Zu(T:Txt K mg A)(Ad:DOk P w K mg base 4 "held_to_be_writings" (sU A))(An:DOk P w K mg base 4 "row_plus" (rO))(Ap:DOk P w K mg base 4 "row_times" (rN))(Ae:FOk P w K mg base 7 "written_row" (tm A))(A5:FOk P w K mg base 2 "without_debts" (VI A))(F:Fun K "minus" "minus" l8 f fd):FnOk P w K mg base CX0 8 f fd ["way","one","other"] (zZ K (gG A)):=by
 refine okF F sc_minus (by walk_at "ln") fun _ _ _ _ _ _ hr ds Q h=>?_
 obtain⟨k,n,a,b,rfl,hn,hLa,hLb,la,lb,hR,q⟩:=h
 refine⟨_,(ze (v9 (zh Ad (rom hr) rfl (za (dv 0) (za (z9 (za (dv 1) (za (dv 2) zg))) zg))))
 (ze (zq (i:=3) sc_minus.nd rfl (Or.inl rfl) (zh An (rom hr) rfl (za (dv 1) (za (zh Ap (rom hr) rfl (za (dv 2) (za (z0 zd) zg))) zg))))
 (ze (zx (zR (y6 T.isinstance T.Gi (dv 0))) (zf (yx (zM Ae (rom hr) rfl (za (dv 0) (za (DF.de (zM A5 (rom hr) rfl (za (dv 0) (za (dv 3) zg)))) zg))))) zm)
 (zf (yx (zM Ae (rom hr) rfl (za (dv 0) (za (dv 3) zg)))))))),?_⟩
 have hl:=uJ a (ut b (-1))
 have li:(ut b (-1)).length=b.length:=Bs _
 refine⟨_,rfl,_,rfl,_,rfl,rfl,k,n,[a,b],rfl,hn,fun r' h'=>?_,?_⟩
 ·rcases BE.mp h' with rfl|h'
  ·exact⟨hLa,by omega⟩
  ·rw[BD.mp h'];exact⟨hLb,by omega⟩
 have en:vb (a.map Nm.i) (xj b (.i (-1)))=(yX a (ut b (-1))).map Nm.i:=by rw[fG,vn]
 have t1:=vi (a:=b) (uh k (-1))
 have hww:yp k n ((yX a (ut b (-1))).map Nm.i)=(zj k n a).add ((zj k n b).mul (.i (-1))):=by rw[←en,wQ xI t1,yg,xG b (uh k _)]
 have hre:((zj k n a).add ((zj k n b).mul (.i (-1)))).re=(zj k n a).re-(zj k n b).re:=by
  rw[zS,zE]
  show _+(_*(-1)-_*0)=_
  omega
 refine⟨_,rfl,_,rfl,_,rfl,b,.i (-1),rfl,by omega,⟨by show(-1000000:Int)≤-1;decide,by show(-1:Int)≤1000000;decide,by show(-1000000:Int)≤0;decide,by show(0:Int)≤1000000;decide⟩,a.map Nm.i,xj b (.i (-1)),by rw[xU],by rw[Bs];omega,by rw[wz];omega,?_⟩
 rw[en]
 have bits:∀t∈(yX a (ut b (-1))).map Nm.i,t.re.natAbs≤2^14∧t.im.natAbs≤2^14:=fun t ht=>by
  obtain⟨z,hz,rfl⟩:=BR.mp ht
  obtain⟨p,rfl⟩:=uI hz
  have f1:=tK hn hLa (by omega) p
  have f2:=tK hn hLb (by omega) p
  rw[oo]
  exact⟨by show(hf a p+hf b p*(-1)).natAbs≤16384;omega,by show(0:Int).natAbs≤_;decide⟩
 refine⟨_,rfl,_,_,_,_,rfl,uU T k,kiF T k,_,rfl,?_⟩
 by_cases hk:k=.falling
 ·subst hk
  have n1:1≤n:=hn.1
  have n9:n≤9:=hn.2
  have la2:=la.2 rfl
  have lb2:=lb.2 rfl
  have ew:(yp .falling n ((yX a (ut b (-1))).map Nm.i)).re=hw n (yX a (ut b (-1))):=by rw[yg,yC];rfl
  refine ifT rfl ?_
  refine⟨_,rfl,_,rfl,_,rfl,n,yX a (ut b (-1)),hf a,by rw[xU],hn,by omega,fun i=>?_,fun i=>?_,fun p _=>Xg n1 hLa.lg p,?_,fun r' hl' hw' hz=>?_⟩
  ·have f1:=yy hn hLa i
   have f2:=yy hn hLb i
   rw[dY]
   omega
  ·have f2:=yy hn hLb i
   rw[dY]
   omega
  ·have h0:=hR (.inr rfl)
   rw[←ew,hww,hre]
   omega
  ·refine⟨.falling,n,r'.map Nm.i,14,by rw[xU],hn,by rw[Bs];omega,xI,fun t ht=>?_,by decide,by decide,fun hk=>absurd hk (by rintro(h|h)<;>cases h),fun _=>⟨r',rfl,fun z h=>(hz z h).1,qv (B:=10) (fun z h=>by have:=hz z h;omega) (by decide) (by decide) (by omega)⟩,fun r hr hwr hlr=>?_⟩
   ·obtain⟨z,h,rfl⟩:=BR.mp ht
    have:=hz z h
    exact⟨by show z.natAbs≤16384;omega,by show(0:Int).natAbs≤_;decide⟩
   ·rw[Bs]at hlr
    refine q r hr ?_ (by omega)
    rw[hwr,←hww,yg,yg,yC,yC,hw']
 ·have h5:k.five=true:=by cases k<;>first|rfl|exact absurd rfl hk
  refine ifF (vp h5) ?_
  refine⟨_,rfl,_,rfl,k,n,(yX a (ut b (-1))).map Nm.i,14,rfl,hn,by rw[Bs];omega,xI,bits,by decide,by decide,fun hp=>?_,fun z=>absurd z hk,fun r hr hwr hlr=>?_⟩
  ·have h0:=hR (.inl hp)
   rw[hww,hre]
   omega
  ·rw[Bs]at hlr
   exact q r hr (hwr.trans hww) (by omega)
abbrev y9:Stmt:=top 69
def sc_times_in_falling:zk ["way","one","other","product","ahead","place","above"] ["way","one","other"] (defScope y9):=by walk_at "sc"
def tR(T:Txt K mg A)(An:DOk P w K mg base 4 "row_plus" (rO))(Ap:DOk P w K mg base 4 "row_times" (rN))(Ae:FOk P w K mg base 7 "written_row" (tm A))(F:Fun K "times_in_falling" "times_in_falling" y9 f fd):FnOk P w K mg base CX0 8 f fd ["way","one","other"] (zZ K (gz A)):=by
 refine okF F sc_times_in_falling (by walk_at "ln") fun _ _ _ _ _ _ hr ds Q h=>?_
 obtain⟨n,a,b,rfl,hn,hLa,hLb,hw,q⟩:=h
 refine⟨_,(ze (yc (i:=3) sc_times_in_falling.nd rfl (Or.inl rfl) (xg zg))
 (ze (zq (i:=4) sc_times_in_falling.nd rfl (Or.inl rfl) (z9 zg))
 (ze (vZ (j:=5) rfl sc_times_in_falling.nd rfl (Or.inl rfl) PassesOwn.never rfl T.range (za (zi zN (yt rfl T.len (dv 2)) zd) (za (z0 zd) (za (z0 zd) zg))) (xt 3 (ze (zq (i:=6) sc_times_in_falling.nd rfl (Or.inl rfl) (zh An (rom hr) rfl (za (zh Ap (rom hr) rfl (za (dv 3) (za (z4 (dv 0)) zg))) (za (dv 4) zg))))
 (ze (zq (i:=4) sc_times_in_falling.nd rfl (Or.inl rfl) (dv 3))
 (zf (yc (i:=3) sc_times_in_falling.nd rfl (Or.inl rfl) (zM Ae (rom hr) rfl (za (dv 0) (za (zh An (rom hr) rfl (za (dv 6) (za (zh Ap (rom hr) rfl (za (dv 1) (za (zr (dv 2) (dv 5) (fun _ _=>rfl)) zg))) zg))) zg)))))))))
 (xt 3 (zf (yx (zM Ae (rom hr) rfl (za (dv 0) (za (zh An (rom hr) rfl (za (dv 3) (za (dv 4) zg))) zg))))))))),?_⟩
 have l1:=zH a
 have l2:=zH b
 have n1:1≤n:=hn.1
 have n9:n≤9:=hn.2
 have fa:=yy hn hLa
 have fo:=yy hn hLb
 have la:=(ZU a.length n1 fa a.length).2.2
 rw[←eS]at la
 walk_at "rd"
 refine⟨_,_,fun i ρ=>∃(r s:List Int)(v5 v6:Sl),ρ=[.some (zJ A .falling n),.some (zy a),.some (zy b),.own (r.map Dt.int),.some (zy s),v5,v6]∧Legal .falling n r∧Legal .falling n s∧My.hw n r=My.hw n a*(fb n b b.length i).2∧My.hw n s=My.hw n a*(fb n b b.length i).1∧r.length≤104∧s.length≤104,rfl,by omega,by omega,by decide,by decide,⟨[],[],_,_,rfl,qG _ n,qG _ n,(BN _).symm,(BN _).symm,by decide,by decide⟩,?_,?_⟩
 ·rintro i ρ' hi ⟨r,s,v5,v6,rfl,hr,hs,hwr,hws,hlr,hls⟩
  obtain⟨p,hp⟩:∃p:Nat,p+i+1=b.length:=⟨b.length-1-i,by omega⟩
  have ep:((List.map Dt.int b).length:Int)-1-i=p:=by omega
  rw[ep]
  have eb:b.length-(i+1)=p:=by omega
  have f1:=fo p
  have o1:0≤b.getD p 0:=f1.1
  have o2:b.getD p 0≤n:=f1.2
  have lr:=wz r (.i n)
  have la2:=wz a (.i (b.getD p 0))
  have ls:(s.map Nm.i).length=s.length:=Bs _
  have hl1:=uP (xj r (.i n)) (s.map Nm.i)
  have hl2:=uP (vb (xj r (.i n)) (s.map Nm.i)) (xj a (.i (b.getD p 0)))
  have t1:=vi (a:=r) (uh .falling n)
  have t2:=vi (a:=a) (uh .falling (b.getD p 0))
  have t3:=rm t1 (xI (k:=.falling) (r:=s))
  have hww:yp .falling n (vb (vb (xj r (.i n)) (s.map Nm.i)) (xj a (.i (b.getD p 0))))=.i (My.hw n a*(fb n b b.length (i+1)).2):=by
   rw[wQ t3 t2,wQ t1 xI,xG r (uh _ _),xG a (uh _ _),yg,yC,yC,yC,hwr,hws]
   show Nm.i (_*n+_+_*b.getD p 0)=Nm.i (My.hw n a*(hf b (b.length-(i+1))+n*(fb n b b.length i).2+(fb n b b.length i).1))
   rw[eb]
   show Nm.i (_*n+_+_*hf b p)=_
   congr 1
   grind
  have ets:vb (vb (xj r (.i n)) (s.map Nm.i)) (xj a (.i (b.getD p 0)))=(yX (yX (ut r n) s) (ut a (b.getD p 0))).map Nm.i:=by rw[fG,fG,vn,vn]
  have zb:∀z∈yX (yX (ut r n) s) (ut a (b.getD p 0)),0≤z∧z≤171:=fun z hz=>by
   obtain⟨u,rfl⟩:=uI hz
   rw[kS,oo,oo]
   obtain⟨x1,x2⟩:=yy hn hr u
   obtain⟨y1,y2⟩:=yy hn hs u
   obtain⟨c1,c2⟩:=fa u
   have m1:=BX x1 (show 0≤n by omega)
   have m2:=BP (show hf r u≤9 by omega) n9 (by omega) (by omega)
   have m3:=BX c1 o1
   have m4:=BP (show hf a u≤9 by omega) (show b.getD p 0≤9 by omega) o1 (by omega)
   omega
  refine⟨_,rfl,_,rfl,_,rfl,_,_,_,rfl,rfl,T.HX,T.H8,r,.i n,rfl,by omega,⟨by show -1000000≤n;omega,by show n≤1000000;omega,by show(-1000000:Int)≤0;decide,by show(0:Int)≤1000000;decide⟩,_,rfl,xj r (.i n),s.map Nm.i,by rw[xU s],by omega,by omega,?_⟩
  refine⟨_,rfl,?_⟩
  refine⟨_,rfl,_,rfl,_,rfl,_,rfl,_,rfl,_,_,_,rfl,rfl,xA (show p<b.length by omega),a,.i (b.getD p 0),rfl,by omega,⟨by show -1000000≤b.getD p 0;omega,by show b.getD p 0≤1000000;omega,by show(-1000000:Int)≤0;decide,by show(0:Int)≤1000000;decide⟩,_,_,rfl,by omega,by omega,?_⟩
  delta bZ
  refine oA ⟨.falling,n,_,14,rfl,hn,by omega,rm t3 t2,fun t ht=>?_,by decide,by decide,fun hk=>absurd hk (by rintro(h|h)<;>cases h),fun _=>⟨_,ets,fun z hz=>(zb z hz).1,cb zb (by decide) (by decide) ?_⟩,fun r' hr' hw' _=>?_⟩
  ·rw[ets]at ht
   obtain⟨z,hz,rfl⟩:=BR.mp ht
   have:=zb z hz
   exact⟨by show z.natAbs≤16384;omega,by show(0:Int).natAbs≤_;decide⟩
  ·have e:=congrArg List.length ets
   rw[Bs]at e
   omega
  ·rw[hww,yC]at hw'
   have hw':My.hw n r'=_:=Nm.i.inj hw'
   obtain⟨c1,c2,_⟩:=ZU b.length n1 fo (i+1)
   have bd:=ZD n1 la.1 la.2 c1 c2
   rw[←hw']at bd
   have:=iV hn hr' bd.2
   exact⟨_,rfl,r',r,_,_,rfl,hr',hr,hw',hwr,by omega,hlr⟩
 ·rintro ρ' ⟨r,s,v5,v6,rfl,hr,hs,hwr,hws,hlr,hls⟩
  have e:(((List.map Dt.int b).length:Int)-1-(-1)).toNat=b.length:=by omega
  rw[e]at hwr hws
  have lr:(r.map Nm.i).length=r.length:=Bs _
  have ls:(s.map Nm.i).length=s.length:=Bs _
  have hl:=uJ r s
  have zb:∀z∈yX r s,0≤z∧z≤18:=fun z hz=>by
   obtain⟨u,rfl⟩:=uI hz
   obtain⟨x1,x2⟩:=yy hn hr u
   obtain⟨y1,y2⟩:=yy hn hs u
   omega
  refine⟨_,rfl,_,rfl,_,rfl,_,rfl,r.map Nm.i,s.map Nm.i,by rw[←xU,←xU];rfl,by omega,by omega,?_⟩
  delta bZ
  refine oA ⟨.falling,n,(yX r s).map Nm.i,14,by rw[vn],hn,by rw[Bs];omega,xI,fun t ht=>?_,by decide,by decide,fun hk=>absurd hk (by rintro(h|h)<;>cases h),fun _=>⟨_,rfl,fun z hz=>(zb z hz).1,cb zb (by decide) (by decide) (by omega)⟩,fun r' hr' hw' _=>?_⟩
  ·obtain⟨z,hz,rfl⟩:=BR.mp ht
   have:=zb z hz
   exact⟨by show z.natAbs≤16384;omega,by show(0:Int).natAbs≤_;decide⟩
  ·rw[yg,oB,yC,yC,yC,hwr,hws]at hw'
   have hw':My.hw n r'=My.hw n a*(fb n b b.length b.length).2+My.hw n a*(fb n b b.length b.length).1:=Nm.i.inj hw'
   rw[←CS,←eS]at hw'
   have lb:=(ZU b.length n1 fo b.length).2.2
   rw[←eS]at lb
   have bd:=ZD n1 la.1 la.2 lb.1 lb.2
   rw[←hw']at bd
   have:=iV hn hr' bd.2
   exact q r' hr' hw' (by omega)
abbrev xw:Stmt:=top 68
def sc_times_by_ratio:zk ["way","one","other","product","place","above"] ["way","one","other"] (defScope xw):=by walk_at "sc"
def rd(T:Txt K mg A)(Ap:DOk P w K mg base 4 "row_times" (rN))(Ae:FOk P w K mg base 7 "written_row" (tm A))(An:DOk P w K mg base 4 "row_plus" (rO))(HR:∀k:Kd,k.five=true→MOk P w K mg base 1 (A.at k) "ratio" (vf A k (k.ratN)))(F:Fun K "times_by_ratio" "times_by_ratio" xw f fd):FnOk P w K mg base CX0 8 f fd ["way","one","other"] (zZ K (gx A)):=by
 refine okF F sc_times_by_ratio (by walk_at "ln") fun _ _ _ _ _ _ hr ds Q h=>?_
 obtain⟨k,n,a,b,rfl,h5,hn,hLa,hLb,hw,q⟩:=h
 refine⟨_,(ze (yc (i:=3) sc_times_by_ratio.nd rfl (Or.inl rfl) (xg zg))
 (ze (vZ (j:=4) rfl sc_times_by_ratio.nd rfl (Or.inl rfl) PassesOwn.never rfl T.range (za (zi zN (yt rfl T.len (dv 2)) zd) (za (z0 zd) (za (z0 zd) zg))) (xt 3 (ze (zq (i:=5) sc_times_by_ratio.nd rfl (Or.inl rfl) (zh Ap (rom hr) rfl (za (dv 3) (za (xu hr (dv 0) (za (dv 4) zg)) zg))))
 (zf (yc (i:=3) sc_times_by_ratio.nd rfl (Or.inl rfl) (zM Ae (rom hr) rfl (za (dv 0) (za (zh An (rom hr) rfl (za (dv 5) (za (zh Ap (rom hr) rfl (za (dv 1) (za (zr (dv 2) (dv 4) (fun _ _=>rfl)) zg))) zg))) zg))))))))
 (zf (x8 3)))),?_⟩
 have l1:=zH a
 have l2:=zH b
 obtain⟨w1,w2,w3,w4⟩:=id hw
 walk_at "rd"
 refine⟨_,_,fun i ρ=>∃(r:List Int)(v4 v5:Sl),ρ=[.some (zJ A k n),.some (zy a),.some (zy b),.own (r.map Dt.int),v4,v5]∧Legal k n r∧zj k n r=(zj k n a).mul (hv k n b i (b.length-i))∧r.length≤870,rfl,by omega,by omega,by decide,by decide,⟨[],_,_,rfl,qG k n,(Mi (zD k n a)).symm,by decide⟩,?_,?_⟩
 ·rintro i ρ' hi ⟨r,v4,v5,rfl,hr,hwr,hlr⟩
  obtain⟨p,hp⟩:∃p:Nat,p+i+1=b.length:=⟨b.length-1-i,by omega⟩
  have ep:((List.map Dt.int b).length:Int)-1-i=p:=by omega
  rw[ep]
  have eb:b.length-i=p+1:=by omega
  have eb':b.length-(i+1)=p:=by omega
  rw[eb]at hwr
  have lr:=wz r (k.ratN n p)
  have la:=wz a (.i (b.getD p 0))
  have hl:=uP (xj r (k.ratN n p)) (xj a (.i (b.getD p 0)))
  have t1:=vi (a:=r) (oh k n p)
  have t2:=vi (a:=a) (uh k (b.getD p 0))
  have hww:yp k n (vb (xj r (k.ratN n p)) (xj a (.i (b.getD p 0))))=(zj k n a).mul (hv k n b (i+1) p):=by
   rw[wQ t1 t2,xG r (oh k n p),xG a (uh k _),hwr]
   exact XJ (zD k n a) (ck k n b i (p+1)) (oh k n p) (ck k n b (i+1) p)
  have fo:(b.getD p 0).natAbs≤122:=(XS hn hLb w2 p).1
  refine⟨_,rfl,_,rfl,_,rfl,_,_,_,_,rfl,kY k,(HR k h5).mono (by decide),_,rfl,n,p,rfl,hn,r,k.ratN n p,rfl,by omega,fH hn (by omega) (by omega),?_⟩
  refine⟨_,rfl,_,rfl,_,rfl,_,rfl,_,rfl,_,_,_,rfl,rfl,xA (show p<b.length by omega),a,.i (b.getD p 0),rfl,by omega,⟨by show -1000000≤b.getD p 0;omega,by show b.getD p 0≤1000000;omega,by show(-1000000:Int)≤0;decide,by show(0:Int)≤1000000;decide⟩,xj r (k.ratN n p),_,rfl,by omega,by omega,?_⟩
  delta bZ
  refine oA ⟨k,n,_,25,rfl,hn,by omega,rm t1 t2,fun t ht=>?_,by decide,by decide,fun hk=>?_,fun hk=>absurd h5 (by rw[hk];decide),fun r' hr' hw' _=>?_⟩
  ·obtain⟨u,rfl⟩:=ir ht
   obtain⟨x1,x2⟩:=l_ r (k.ratN n p) u
   obtain⟨y1,y2⟩:=l_ a (.i (b.getD p 0)) u
   rw[zS,ye,x1,x2,y1,y2]
   have g1:=tK hn hr (by omega) u
   have g2:=(XS hn hLa w1 u).1
   obtain⟨z1,z2⟩:=V7 (p:=p) hn (by omega)
   have m1:=xv g1 z1
   have m2:=xv g1 z2
   have m3:(hf a u*(b.getD p 0)).natAbs≤122*122:=xv g2 fo
   show(hf r u*(k.ratN n p).re+hf a u*(b.getD p 0)).natAbs≤33554432∧(hf r u*(k.ratN n p).im+hf a u*0).natAbs≤33554432
   rw[BN]
   generalize hf r u * (k.ratN n p).re=Y1 at *
   generalize hf r u * (k.ratN n p).im=Y2 at *
   generalize hf a u * b.getD p 0=Y3 at *
   exact⟨by omega,by omega⟩
  ·rw[hww,zE]
   obtain⟨h0,h1⟩:=Vq hk hn (fun u=>by
    by_cases hu:u<b.length
    ·have f1:=(hLb.fig u hu).1
     have:k.low n u=0:=by rcases hk with rfl|rfl<;>rfl
     rw[this]at f1
     exact f1
    ·rw[yG (by omega)];exact BW _) (i+1) p
   rw[h1,BN,Int.sub_zero]
   exact BX (tE hn hLa hk) h0
  ·exact⟨_,rfl,r',_,_,rfl,hr',by rw[hw',hww,eb'],Zc h5 hn hLa hLb (by omega:p+(i+1)=b.length) hw hr' (by rw[hw',hww])⟩
 ·rintro ρ' ⟨r,v4,v5,rfl,hr,hwr,hlr⟩
  have e:(((List.map Dt.int b).length:Int)-1-(-1)).toNat=b.length:=by omega
  rw[e,Nat.sub_self,←kP h5]at hwr
  exact⟨_,rfl,q r hr hwr hlr⟩
abbrev l4:Stmt:=top 72
def aL:zk ["way","one","other"] ["way","one","other"] (defScope l4):=by walk_at "sc"
def Zr(T:Txt K mg A)(Ad:DOk P w K mg base 4 "held_to_be_writings" (sU A))(A6:FOk P w K mg base 8 "times_in_falling" (gz A))(A7:FOk P w K mg base 8 "times_by_ratio" (gx A))(F:Fun K "times" "times" l4 f fd):FnOk P w K mg base CX0 9 f fd ["way","one","other"] (zZ K (cQ A)):=by
 refine okF F aL (by walk_at "ln") fun _ _ _ _ _ _ hr ds Q h=>?_
 obtain⟨k,n,a,b,rfl,hn,hLa,hLb,hw,q⟩:=h
 refine⟨_,(ze (v9 (zh Ad (rom hr) rfl (za (dv 0) (za (z9 (za (dv 1) (za (dv 2) zg))) zg))))
 (ze (zx (zR (y6 T.isinstance T.Gi (dv 0))) (zf (yx (zM A6 (rom hr) rfl (za (dv 0) (za (dv 1) (za (dv 2) zg)))))) zm)
 (zf (yx (zM A7 (rom hr) rfl (za (dv 0) (za (dv 1) (za (dv 2) zg)))))))),?_⟩
 obtain⟨w1,w2,w3,w4⟩:=id hw
 refine⟨_,rfl,_,rfl,_,rfl,rfl,k,n,[a,b],rfl,hn,fun r' h'=>?_,?_⟩
 ·rcases BE.mp h' with rfl|h'
  ·exact⟨hLa,by omega⟩
  ·rw[BD.mp h'];exact⟨hLb,by omega⟩
 refine⟨_,rfl,_,_,_,_,rfl,uU T k,kiF T k,_,rfl,?_⟩
 by_cases hk:k=.falling
 ·subst hk
  refine ifT rfl ?_
  exact⟨_,rfl,_,rfl,_,rfl,n,a,b,rfl,hn,hLa,hLb,w3,fun r hr hwr hl=>q r hr (by rw[yC,yC,yC,hwr];rfl) (by omega)⟩
 ·have h5:k.five=true:=by cases k<;>first|rfl|exact absurd rfl hk
  refine ifF (vp h5) ?_
  exact⟨_,rfl,_,rfl,_,rfl,k,n,a,b,rfl,h5,hn,hLa,hLb,hw,q⟩
abbrev qf:Stmt:=top 55
def sc_parting:zk ["one","other","place"] ["one","other"] (defScope qf):=by walk_at "sc"
def fS(T:Txt K mg A)(Aj:DOk P w K mg base 1 "thing_at" (wL))(F:Fun K "parting" "parting" qf f fd):FnOk P w K mg base CX0 2 f fd ["one","other"] (zw K (YF)):=by
 refine okD F sc_parting (by walk_at "ln") fun _ _ _ _ _ _ hr ds Q h=>?_
 obtain⟨xs,ys,rfl,hx,hy,q⟩:=h
 refine⟨_,(ze (vZ (j:=2) rfl sc_parting.nd rfl (Or.inl rfl) PassesOwn.never rfl T.range (za (zi zN (Yh rfl rfl T.n_max (za (yt rfl T.len (dv 0)) (za (yt rfl T.len (dv 1)) zg))) zd) (za (z0 zd) (za (z0 zd) zg))) (zf (zx (zp (kF hr) (zh Aj (rom hr) rfl (za (dv 0) (za (dv 2) zg))) (zh Aj (rom hr) rfl (za (dv 1) (za (dv 2) zg))) (zo _)) (zf (zl (dv 2))) zm)))
 (zf (zl u8))),?_⟩
 have lx:(xs.map Dt.int).length=xs.length:=Bs _
 have ly:(ys.map Dt.int).length=ys.length:=Bs _
 walk_at "rd"
 have em:(if((ys.map Dt.int).length:Int)>((xs.map Dt.int).length:Int) then((ys.map Dt.int).length:Int) else((xs.map Dt.int).length:Int))=((max xs.length ys.length:Nat):Int):=by
  rw[lx,ly];split<;>omega
 rw[em]
 generalize hM:max xs.length ys.length=M at q
 refine⟨_,_,fun i ρ=>∃v,ρ=[.some (zy xs),.some (zy ys),v]∧ptg xs ys M=ptg xs ys (M-i),rfl,by omega,by omega,by decide,by decide,⟨_,rfl,rfl⟩,?_,?_⟩
 ·rintro i ρ' hi ⟨v,rfl,hp⟩
  have hi':i<M:=by omega
  have e1:((M:Int)-1-(i:Int)).toNat=M-i-1:=by omega
  refine⟨_,rfl,_,rfl,xs.map Dt.int,_,rfl,by omega,_,rfl,_,rfl,ys.map Dt.int,_,rfl,by omega,?_⟩
  rw[e1,kU,kU]
  refine⟨rfl,rfl,_,rfl,?_⟩
  have e2:M-i=(M-i-1)+1:=by omega
  have e3:ptg xs ys M=if xs.getD (M-i-1) 0=ys.getD (M-i-1) 0 then ptg xs ys (M-i-1) else some (M-i-1):=by
   rw[hp,e2];rfl
  by_cases hd:xs.getD (M-i-1) 0=ys.getD (M-i-1) 0
  ·refine ifF (nT (eqI hd)) ?_
   refine⟨_,rfl,?_⟩
   rw[e3,if_pos hd]
   rfl
  ·refine ifT (nF (neI hd)) ?_
   refine⟨_,rfl,?_⟩
   rw[e3,if_neg hd]at q
   have e4:((M-i-1:Nat):Int)=(M:Int)-1-i:=by omega
   have q:Q (.int ((M-i-1:Nat):Int)):=q
   rw[e4]at q
   exact q
 ·rintro ρ' ⟨v,rfl,hp⟩
  have e:M-((M:Int)-1-(-1)).toNat=0:=by omega
  rw[e]at hp
  rw[hp]at q
  exact q
abbrev l5:Stmt:=top 56
def sc_order:zk ["way","one","other","place","more"] ["way","one","other"] (defScope l5):=by walk_at "sc"
def Zs(T:Txt K mg A)(Ad:DOk P w K mg base 4 "held_to_be_writings" (sU A))(A8:DOk P w K mg base 2 "parting" (YF))(Aj:DOk P w K mg base 1 "thing_at" (wL))(F:Fun K "order" "order" l5 f fd):FnOk P w K mg base CX0 5 f fd ["way","one","other"] (zw K (cU A)):=by
 refine okD F sc_order (by walk_at "ln") fun _ _ _ _ _ _ hr ds Q h=>?_
 obtain⟨k,n,r,s,rfl,hp,hn,hr_,hs,lr,ls,q⟩:=h
 refine⟨_,(ze (zx (zR (y6 T.isinstance T.Gz (dv 0))) (zf zP) zm)
 (ze (v9 (zh Ad (rom hr) rfl (za (dv 0) (za (z9 (za (dv 1) (za (dv 2) zg))) zg))))
 (ze (zq (i:=3) sc_order.nd rfl (Or.inl rfl) (zh A8 (rom hr) rfl (za (dv 1) (za (dv 2) zg))))
 (ze (zx (kZ (dv 3)) (zf (zl zd)) zm)
 (ze (zq (i:=4) sc_order.nd rfl (Or.inl rfl) (xR (rk) (zh Aj (rom hr) rfl (za (dv 1) (za (dv 3) zg))) (zh Aj (rom hr) rfl (za (dv 2) (za (dv 3) zg))) (zo _)))
 (zX (zx (DW.dt (yk (zR (y6 T.isinstance T.G7 (dv 0))) (yo (zp (wC hr) (zi z8 (dv 3) zd) zd (zo _))))) (zf (zq (i:=4) sc_order.nd rfl (Or.inl rfl) (Ye (dv 4)))) zm)
 (zf (zl (hW (zR (dv 4)) zd (z0 zd)))))))))),?_⟩
 refine⟨_,rfl,_,_,_,_,rfl,uU T k,kiP T k,_,rfl,ifF (by cases k<;>first|rfl|exact absurd rfl hp) ?_⟩
 refine⟨_,rfl,_,rfl,_,rfl,rfl,k,n,[r,s],rfl,hn,fun r' h'=>?_,?_⟩
 ·rcases BE.mp h' with rfl|h'
  ·exact⟨hr_,lr⟩
  ·rw[BD.mp h'];exact⟨hs,ls⟩
 refine⟨_,rfl,_,rfl,r,s,rfl,lr,ls,?_⟩
 cases hpt:ptg r s (max r.length s.length) with
 | none=>
  rw[Zm hr_ hs hpt]at q
  refine⟨_,rfl,?_⟩
  walk_at "rd"
  exact q
 | some p=>
  obtain⟨hne,o1,o2⟩:=Zl hp hn hr_ hs hpt
  generalize hsg:sg (zj k n r).re (zj k n s).re=z at q o1 o2
  refine⟨_,rfl,?_⟩
  walk_at "rd"
  refine⟨by omega,?_⟩
  walk_at "rd"
  refine⟨by omega,?_⟩
  rw[Cb,kU,kU]
  walk_at "rd"
  refine⟨fun ρ=>∃b:Bool,ρ=[.some (zJ A k n),.some (zy r),.some (zy s),.some (.int p),.some (.bl b)]∧(b=true→z=1)∧(b=false→z=-1),?_,?_⟩
  ·refine⟨_,rfl,_,_,_,_,rfl,uU T k,kiB T k,_,rfl,?_⟩
   by_cases hk:k=.below
   ·subst hk
    refine ifT rfl ?_
    refine⟨_,rfl,_,_,rfl,rfl,uj (by decide),rfl,rfl,_,rfl,?_⟩
    refine ifB (fun h=>?_) (fun h=>?_)
    ·have h:(p:Int).fmod 2=1:=qD h
     have hodd:p%2=1:=by
      rw[Int.fmod_eq_emod_of_nonneg _ (by decide)]at h
      omega
     obtain⟨a1,a2⟩:=o2 rfl hodd
     refine⟨_,rfl,_,rfl,_,rfl,fun h1=>?_,fun h1=>?_⟩
     ·have h1:¬s.getD p 0<r.getD p 0:=of_decide_eq_false (Wz h1)
      exact a2 (by omega)
     ·have h1:s.getD p 0<r.getD p 0:=of_decide_eq_true (Zw h1)
      exact a1 h1
    ·have h:(p:Int).fmod 2≠1:=sH h
     have hev:p%2=0:=by
      rw[Int.fmod_eq_emod_of_nonneg _ (by decide)]at h
      omega
     obtain⟨a1,a2⟩:=o1 (.inr hev)
     refine⟨_,rfl,fun h1=>a1 (of_decide_eq_true h1),fun h1=>?_⟩
     have h1:¬s.getD p 0<r.getD p 0:=of_decide_eq_false h1
     exact a2 (by omega)
   ·refine ifF (by cases k<;>first|rfl|exact absurd rfl hk) (ifF rfl ?_)
    obtain⟨a1,a2⟩:=o1 (.inl hk)
    refine⟨_,rfl,fun h1=>a1 (of_decide_eq_true h1),fun h1=>?_⟩
    have h1:¬s.getD p 0<r.getD p 0:=of_decide_eq_false h1
    exact a2 (by omega)
  ·rintro ρ' ⟨b,rfl,h1,h2⟩
   refine⟨_,rfl,_,rfl,?_⟩
   refine ifB (fun h=>?_) (fun h=>?_)
   ·rw[h1 h]at q
    exact q
   ·rw[h2 h]at q
    exact⟨_,rfl,q⟩
abbrev vI:Stmt:=top 89
def sc_order_said:zk ["way","one","other","told"] ["way","one","other"] (defScope vI):=by walk_at "sc"
def ma(T:Txt K mg A)(A9:DOk P w K mg base 5 "order" (cU A))(F:Fun K "order_said" "order_said" vI f fd):FnOk P w K mg base CX0 6 f fd ["way","one","other"] (zw K (cT A)):=by
 refine okD F sc_order_said (by walk_at "ln") fun _ _ _ _ _ _ hr ds Q h=>?_
 obtain⟨k,n,a,b,rfl,hk,hn,hLa,hLb,la,lb,q⟩:=h
 refine⟨_,(ze (zq (i:=3) sc_order_said.nd rfl (Or.inl rfl) (zh A9 (rom hr) rfl (za (dv 0) (za (dv 1) (za (dv 2) zg)))))
 (ze (zx (zp (uO) (dv 3) zd (zo _)) (zf (zl zt)) zm)
 (ze (zx (zp (rk) (dv 3) zd (zo _)) (zf (zl zt)) zm)
 (zf (zl zt))))),?_⟩
 refine⟨_,rfl,_,rfl,_,rfl,k,n,a,b,rfl,hk,hn,hLa,hLb,la,lb,?_⟩
 generalize sg (zj k n a).re (zj k n b).re=z at *
 unfold fM at q
 refine⟨_,rfl,_,_,rfl,rfl,_,rfl,ifB (fun h=>?_) (fun h=>?_)⟩
 ·rw[if_pos (of_decide_eq_true h)]at q
  exact q
 rw[if_neg (of_decide_eq_false h)]at q
 refine⟨_,rfl,_,_,rfl,rfl,_,rfl,ifB (fun h=>?_) (fun h=>?_)⟩
 ·rw[if_pos (of_decide_eq_true h)]at q
  exact q
 rw[if_neg (of_decide_eq_false h)]at q
 exact q
abbrev xx:Stmt:=top 90
def s9:zk ["asked","way","one","other"] ["asked","way","one","other"] (defScope xx):=by walk_at "sc"
def rg(T:Txt K mg A)(Am:DOk P w K mg base 3 "row_shown" (uk))(A_:FOk P w K mg base 8 "plus" (YE A))(A':FOk P w K mg base 8 "minus" (gG A))(Ba:FOk P w K mg base 9 "times" (cQ A))(Bb:DOk P w K mg base 6 "order_said" (cT A))(F:Fun K "reckoning_said" "reckoning_said" xx f fd):FnOk P w K mg base CX0 10 f fd ["asked","way","one","other"] (zw K (gE A)):=by
 refine okD F s9 (by walk_at "ln") fun _ _ _ _ _ _ hr ds Q h=>?_
 obtain⟨o,k,n,a,b,rfl,hn,hLa,hLb,la,lb,hp,q⟩:=h
 refine⟨_,(ze (zx (zp (zW) (dv 0) zt (zo _)) (zf (zl (zh Am (rom hr) rfl (za (DF.de (zM A_ (rom hr) rfl (za (dv 1) (za (dv 2) (za (dv 3) zg))))) zg)))) zm)
 (ze (zx (zp (zW) (dv 0) zt (zo _)) (zf (zl (zh Am (rom hr) rfl (za (DF.de (zM A' (rom hr) rfl (za (dv 1) (za (dv 2) (za (dv 3) zg))))) zg)))) zm)
 (ze (zx (zp (zW) (dv 0) zt (zo _)) (zf (zl (zh Am (rom hr) rfl (za (DF.de (zM Ba (rom hr) rfl (za (dv 1) (za (dv 2) (za (dv 3) zg))))) zg)))) zm)
 (zf (zl (zh Bb (rom hr) rfl (za (dv 1) (za (dv 2) (za (dv 3) zg))))))))),?_⟩
 have fin:∀m,told k n m Q→∀r,Legal k n r→zj k n r=m→r.length≤900→uk [zy r] Q:=fun m q r hr hw hl=>⟨r,rfl,hl,yl hn hr.fig hl,q r hr hw hl⟩
 obtain⟨la1,la2⟩:=la
 obtain⟨lb1,lb2⟩:=lb
 cases o
 all_goals walk_at "rd"
 ·exact⟨k,n,a,b,rfl,hn,hLa,hLb,⟨by omega,la2⟩,⟨by omega,lb2⟩,fun r hr hw hl=>fin _ q r hr hw hl⟩
 ·exact⟨k,n,a,b,rfl,hn,hLa,hLb,⟨by omega,la2⟩,⟨by omega,lb2⟩,hp,fun r hr hw hl=>fin _ q r hr hw hl⟩
 ·exact⟨k,n,a,b,rfl,hn,hLa,hLb,hp,fun r hr hw hl=>fin _ q r hr hw (by omega)⟩
 ·exact⟨k,n,a,b,rfl,hp,hn,hLa,hLb,by omega,by omega,q⟩
abbrev vG:Stmt:=top 82
def sc_row_read:zk ["way","text","row"] ["way","text"] (defScope vG):=by walk_at "sc"
def j9(T:Txt K mg A)(Ak:DOk P w K mg base 2 "whole_read" (tq))(Az:DOk P w K mg base 3 "is_writing" (YJ A))(F:Fun K "row_read" "row_read" vG f fd):FnOk P w K mg base CX0 4 f fd ["way","text"] (zZ K (nN A)):=by
 refine okF F sc_row_read (by walk_at "ln") fun _ _ _ _ _ _ hr ds Q h=>?_
 obtain⟨k,n,r,rfl,hn,hL,hl,q⟩:=h
 refine⟨_,(ze (zx (zp (zW) (dv 1) zt (zo _)) (zf (yx (xg zg))) zm)
 (ze (Lk (i6 (i:=2) (L:=0) (osc:=defScope vG) (N0:=["way","text","row"]) (bs:=["part"]) (caps:=[]) (js:=[]) rfl (by decide +kernel) rfl rfl rfl sc_row_read.nd rfl (Or.inl rfl) (cB (DF.de (u5 (dv 1) zt))) (fun _ _ _ _ _=>(yf (i:=0) (show List.Nodup [("part":Str)] by decide +kernel) rfl (Or.inl (lookup_relabel_local rfl)) (.inl rfl))) vX (fun _ _ _ _ _=>sQ) (fun _ _ _ _ _=>(zh Ak (rom hr) rfl (za (dv 0) zg)))))
 (ze (qP 2)
 (ze (zx (eW (yV (zR (zh Az (rom hr) rfl (za (dv 0) (za (dv 2) zg)))))) (zf zP) zm)
 (zf (x8 2)))))),?_⟩
 refine⟨_,rfl,_,_,rfl,rfl,_,rfl,?_⟩
 rw[oT hn hL hl]
 refine ifB (fun h0=>?_) (fun h0=>?_)
 ·cases of_decide_eq_true h0
  exact⟨rfl,q⟩
 have h0:=of_decide_eq_false h0
 have hs:=yl hn hL.fig hl
 have hsl:=rc hl (by decide) hs
 refine⟨_,rfl,_,rfl,by omega,_,rfl,Z6,?_⟩
 rw[tw h0]
 refine⟨_,fun i es=>es=(r.reverse.take i).map Dt.int,rfl,by rw[Bs,Bs,BQ];omega,rfl,?_,?_⟩
 ·rintro i e es he rfl
  have he:((r.reverse.map shw).map Dt.str)[i]? = some e:=he
  rw[Cy,Bx]at he
  obtain⟨z,hz,rfl⟩:=BU.mp he
  have hzs:=hs z (B'.mp (BH hz))
  have l1:=zT (k:=3) z (by decide) hzs
  refine⟨_,rfl,_,z,rfl,vC z,by omega,uu (n60 hzs),?_⟩
  show _++[_]=(r.reverse.take (i+1)).map Dt.int
  rw[CQ,hz,B3]
  rfl
 ·rintro es rfl
  rw[Bs,Bs,List.take_length]
  refine⟨_,rfl,_,rfl,?_⟩
  rw[←CJ,CV]
  refine⟨_,rfl,_,rfl,k,n,r,rfl,hn,by omega,_,rfl,?_⟩
  rw[kL hL]
  refine ifF rfl ?_
  exact⟨_,rfl,q⟩
abbrev wg:Stmt:=top 91
def pC:zk ["words","way","writing"] ["words","way","writing"] (defScope wg):=by walk_at "sc"
def pL(T:Txt K mg A)(AA:DOk P w K mg base 3 "number_shown" (nO))(AC:DOk P w K mg base 5 "worth" (jq A))(Bc:DOk P w K mg base 9 "share_said" (cR A))(Ak:DOk P w K mg base 2 "whole_read" (tq))(Am:DOk P w K mg base 3 "row_shown" (uk))(Bd:FOk P w K mg base 8 "moved" (cX A))(AD:DOk P w K mg base 6 "way_read" (jr A))(Be:DOk P w K mg base 10 "reckoning_said" (gE A))(AE:FOk P w K mg base 4 "row_read" (nN A))(F:Fun K "writing_said" "writing_said" wg f fd):FnOk P w K mg base CX0 11 f fd ["words","way","writing"] (zw K (gv A)):=by
 refine okD F pC (by walk_at "ln") fun _ _ _ _ _ _ hr ds Q h=>?_
 obtain⟨k,n,a,ws,rfl,hn,hL,la,hl,hw⟩:=h
 refine⟨_,(ze (zx (zp (zW) (zr (dv 0) zd (fun _ _=>rfl)) zt (zo _)) (zf (zl (zh AA (rom hr) rfl (za (zh AC (rom hr) rfl (za (dv 1) (za (dv 2) zg))) zg)))) zm)
 (ze (zx (zp (zW) (zr (dv 0) zd (fun _ _=>rfl)) zt (zo _)) (zf (zl (zh Bc (rom hr) rfl (za (dv 1) (za (dv 2) (za (zh Ak (rom hr) rfl (za (zr (dv 0) zd (fun _ _=>rfl)) zg)) zg)))))) zm)
 (ze (zx (zp (zW) (zr (dv 0) zd (fun _ _=>rfl)) zt (zo _)) (zf (zl (zh Am (rom hr) rfl (za (DF.de (zM Bd (rom hr) rfl (za (dv 1) (za (dv 2) (za (zh AD (rom hr) rfl (za (zr (dv 0) zd (fun _ _=>rfl)) zg)) zg))))) zg)))) zm)
 (zf (zl (zh Be (rom hr) rfl (za (zr (dv 0) zd (fun _ _=>rfl)) (za (dv 1) (za (dv 2) (za (DF.de (zM AE (rom hr) rfl (za (dv 1) (za (zr (dv 0) zd (fun _ _=>rfl)) zg)))) zg)))))))))),?_⟩
 obtain⟨la1,la2⟩:=la
 rcases hw with ⟨x,y,rfl,q⟩|⟨x,y,m,rfl,hk,h1,hm,q⟩|⟨x,y,k2,n2,rfl,hn2,hh,q⟩|⟨o,b,x,y,rfl,hLb,lb,hp,q⟩
 ·refine⟨_,rfl,_,_,_,rfl,rfl,rfl,_,_,rfl,rfl,_,rfl,ifT rfl ?_⟩
  exact⟨_,rfl,_,rfl,k,n,a,rfl,hn,by omega,Wd hn hL (by omega),_,rfl,hl,q⟩
 ·refine⟨_,rfl,_,_,_,rfl,rfl,rfl,_,_,rfl,rfl,_,rfl,ifF rfl ?_⟩
  refine⟨_,rfl,_,_,_,rfl,rfl,rfl,_,_,rfl,rfl,_,rfl,ifT rfl ?_⟩
  have l2:=zT (k:=60) m (by decide) hm
  exact⟨_,rfl,_,rfl,_,rfl,_,_,_,rfl,rfl,rfl,_,m,rfl,vC m,by omega,uu hm,k,n,a,m,rfl,hk,⟨hn,hL,⟨by omega,la2⟩,h1,Ce hm (BO (by decide:10^60<2^200) (B6 (by decide) (by decide)))⟩,hm,q⟩
 ·refine⟨_,rfl,_,_,_,rfl,rfl,rfl,_,_,rfl,rfl,_,rfl,ifF rfl ?_⟩
  refine⟨_,rfl,_,_,_,rfl,rfl,rfl,_,_,rfl,rfl,_,rfl,ifF rfl ?_⟩
  refine⟨_,rfl,_,_,_,rfl,rfl,rfl,_,_,rfl,rfl,_,rfl,ifT rfl ?_⟩
  obtain⟨r2,w2,hr2,e2,l2⟩:=dF hn2 hh (YO hl)
  exact⟨_,rfl,_,rfl,_,rfl,_,_,_,rfl,rfl,rfl,k2,n2,rfl,hn2,k,n,a,k2,n2,r2,rfl,hn,hn2,hL,by omega,hh,w2,r2,rfl,l2,yl hn2 hr2.fig l2,q r2 hr2 e2 l2⟩
 ·cases o
  all_goals
   refine⟨_,rfl,_,_,_,rfl,rfl,rfl,_,_,rfl,rfl,_,rfl,ifF rfl ?_⟩
   refine⟨_,rfl,_,_,_,rfl,rfl,rfl,_,_,rfl,rfl,_,rfl,ifF rfl ?_⟩
   refine⟨_,rfl,_,_,_,rfl,rfl,rfl,_,_,rfl,rfl,_,rfl,ifF rfl ?_⟩
   exact⟨_,rfl,_,_,_,rfl,rfl,rfl,_,rfl,_,rfl,_,rfl,_,rfl,_,_,_,rfl,rfl,rfl,k,n,b,rfl,hn,hLb,by have:=lb.1;omega,_,k,n,a,b,rfl,hn,hL,hLb,⟨la1,la2⟩,lb,hp,q⟩
abbrev fB:Stmt:=top 92
def sc_said:zk ["row","words","way"] ["row"] (defScope fB):=by walk_at "sc"
def Xv(T:Txt K mg A)(Bf:FOk P w K mg base 1 "words_of" (gw))(AD:DOk P w K mg base 6 "way_read" (jr A))(Am:DOk P w K mg base 3 "row_shown" (uk))(AB:FOk P w K mg base 7 "written" (qT A))(Bg:DOk P w K mg base 3 "number_read" (gF))(Bh:DOk P w K mg base 11 "writing_said" (gv A))(AE:FOk P w K mg base 4 "row_read" (nN A))(F:Fun K "said" "said" fB f fd):FnOk P w K mg base CX0 12 f fd ["row"] (zw K (wM)):=by
 refine okD F sc_said (by walk_at "ln") fun _ _ _ _ _ _ hr ds Q h=>?_
 obtain⟨k,n,ws,rfl,hl,hn,hw⟩:=h
 refine⟨_,(ze (zq (i:=1) sc_said.nd rfl (Or.inl rfl) (DF.de (zM Bf (rom hr) rfl (za (dv 0) zg))))
 (ze (zq (i:=2) sc_said.nd rfl (Or.inl rfl) (zh AD (rom hr) rfl (za (zr (dv 1) zd (fun _ _=>rfl)) zg)))
 (ze (zx (zp (zW) (zr (dv 1) zd (fun _ _=>rfl)) zt (zo _)) (zf (zl (zh Am (rom hr) rfl (za (DF.de (zM AB (rom hr) rfl (za (dv 2) (za (zh Bg (rom hr) rfl (za (zr (dv 1) zd (fun _ _=>rfl)) zg)) zg)))) zg)))) zm)
 (zf (zl (zh Bh (rom hr) rfl (za (dv 1) (za (dv 2) (za (DF.de (zM AE (rom hr) rfl (za (dv 2) (za (zr (dv 1) zd (fun _ _=>rfl)) zg)))) zg))))))))),?_⟩
 have key:nob ws∧d7 ws∧ws≠[]:=by
  rcases hw with ⟨m,rfl,_⟩|⟨a,w,rs,e,_,_,_,hw⟩
  ·exact⟨Uy (by decide +kernel) (rT k n) (Y0 m),TW rfl (by decide +kernel) (rS k n) (YZ m),CI _ _⟩
  ·refine⟨?_,?_,by rw[e];exact CI _ _⟩
   all_goals
    rcases hw with ⟨x,y,rfl,q⟩|⟨x,y,m,rfl,hk,h1,hm,q⟩|⟨x,y,k2,n2,rfl,hn2,hh,q⟩|⟨o,b,x,y,rfl,hLb,lb,hp,q⟩
    all_goals cases e
   ·exact Uy (by decide +kernel) (rT k n) (qt a)
   ·exact Ux (by decide +kernel) (rT k n) (qt a) (wc (by decide) (by decide))
   ·exact Ux (by decide +kernel) (rT k n) (qt a) (rT k2 n2)
   ·exact Ux (Sj o) (rT k n) (qt a) (qt b)
   ·exact TW rfl (by decide +kernel) (rS k n) (oU a)
   ·exact V6 rfl (by decide +kernel) (rS k n) (oU a) (lR m)
   ·exact V6 rfl (by decide +kernel) (rS k n) (oU a) (rS k2 n2)
   ·exact V6 (by cases o<;>rfl) (by cases o<;>decide +kernel) (rS k n) (oU a) (oU b)
 obtain⟨k1,k2,k3⟩:=key
 refine⟨_,rfl,_,ws,rfl,hl,vB Yq (by decide) k3 k1,k2,?_⟩
 rcases hw with ⟨m,rfl,hm,h6,q⟩|⟨a,w,rs,e,hL,la,h6,hw⟩
 ·obtain⟨r,w,hr_,e,l⟩:=dF hn hm h6
  refine⟨_,rfl,_,_,_,rfl,rfl,rfl,k,n,rfl,hn,?_⟩
  refine⟨_,rfl,_,_,_,rfl,rfl,rfl,_,_,rfl,rfl,_,rfl,ifT rfl ?_⟩
  exact⟨_,rfl,_,rfl,_,_,_,rfl,rfl,rfl,m,rfl,h6,k,n,m,r,rfl,hn,hm,w,r,rfl,l,yl hn hr_.fig l,q r hr_ e l⟩
 ·have a1:atI (ws.map Dt.str) 1=some (.str (wnm k n))∧atI (ws.map Dt.str) 2=some (.str (rsh a))∧atI (ws.map Dt.str) 0=some (.str w)∧(w==("write":Str))=false:=by
   rcases hw with ⟨x,y,rfl,q⟩|⟨x,y,m,rfl,hk,h1,hm,q⟩|⟨x,y,k2,n2,rfl,hn2,hh,q⟩|⟨o,b,x,y,rfl,hLb,lb,hp,q⟩
   all_goals cases e
   ·exact⟨rfl,rfl,rfl,rfl⟩
   ·exact⟨rfl,rfl,rfl,rfl⟩
   ·exact⟨rfl,rfl,rfl,rfl⟩
   ·exact⟨rfl,rfl,rfl,by cases o<;>rfl⟩
  obtain⟨a1,a2,a0,aw⟩:=a1
  refine⟨_,rfl,_,_,_,rfl,rfl,a1,k,n,rfl,hn,?_⟩
  refine⟨_,rfl,_,_,_,rfl,rfl,a0,_,_,rfl,rfl,_,rfl,ifF aw ?_⟩
  exact⟨_,rfl,_,rfl,_,rfl,_,rfl,_,_,_,rfl,rfl,a2,k,n,a,rfl,hn,hL,by have:=la.1;omega,k,n,a,ws,rfl,hn,hL,la,h6,hw⟩
abbrev xk:Stmt:=top 106
def se:zk ["_law_number_here"] ["_law_number_here"] (defScope xk):=by walk_at "sc"
def sB(T:Txt K mg A)(F:Fun K "_law_number_text" "_law_number_text" xk f fd):FnOk P w K mg base CX0 1 f fd ["_law_number_here"] (zw K (cW)):=by
 refine okD F se (by walk_at "ln") fun _ _ _ _ _ _ hr ds Q h=>?_
 obtain⟨m,rfl,⟨h1,h2⟩,q⟩:=h
 refine⟨_,(ze (zx (zR (je (T:=.tuple) T.kt T.isinstance T.n_tuple PyProof.Rows.boot_tuple (dv 0))) (zf (zl (zi xb (zi xb (x9 rfl T.n_str (zr (dv 0) zd (fun _ _=>rfl))) zt) (x9 rfl T.n_str (zr (dv 0) zd (fun _ _=>rfl)))))) zm)
 (zf (zl (x9 rfl T.n_str (dv 0))))),?_⟩
 cases m with
 | i a=>exact⟨_,rfl,_,rfl,_,rfl,ifF rfl ⟨_,rfl,a,rfl,Ce (rp h1) (by decide),q⟩⟩
 | p a b=>
  have l1:=zT (k:=60) a (by decide) h1
  have l2:=zT (k:=60) b (by decide) h2
  exact⟨_,rfl,_,rfl,_,rfl,ifT rfl ⟨_,rfl,_,_,_,rfl,rfl,rfl,a,rfl,Ce (rp h1) (by decide),_,_,rfl,rfl,by show(shw a).length+_≤_;rw[vo];omega,_,rfl,_,_,_,rfl,rfl,rfl,b,rfl,Ce (rp h2) (by decide),_,_,rfl,rfl,by show(shw a++(",":Str)).length+(shw b).length≤_;rw[yw,vo];omega,q⟩⟩
abbrev wU:Stmt:=top 98
def lV:zk ["_law_row"] ["_law_row"] (defScope wU):=by walk_at "sc"
def kv(T:Txt K mg A)(F:Fun K "_law_shown" "_law_shown" wU f fd):FnOk P w K mg base CX0 1 f fd ["_law_row"] (zw K (uk)):=by
 refine okD F lV (by walk_at "ln") fun _ _ _ _ _ _ hr ds Q h=>?_
 obtain⟨r,rfl,hl,hb,q⟩:=h
 refine⟨_,(ze (zx (zp (wC hr) (dv 0) (z9 zg) (zo _)) (zf (zl zt)) zm)
 (zf (zl (wV zt (DF.de (u6 (L:=0) (osc:=defScope wU) (N0:=["_law_row"]) (bs:=["_law_figure"]) (caps:=[]) (js:=[]) rfl (by decide +kernel) rfl rfl rfl (e7 rfl T.n_reversed (za (dv 0) zg)) (fun _ _ _ _ _=>(yf (i:=0) (show List.Nodup [("_law_figure":Str)] by decide +kernel) rfl (Or.inl (lookup_relabel_local rfl)) (.inl rfl))) vX (fun _ _ _ _ _=>sQ) (fun _ _ _ _ _=>(x9 rfl T.n_str (dv 0))))))))),?_⟩
 have ll:=zH r
 refine⟨_,rfl,rfl,kE _,rfl,_,rfl,ifB (fun h=>?_) (fun h=>?_)⟩
 ·have e:r=[]:=by cases r with|nil=>rfl|cons a b=>cases h
  subst e
  exact q
 ·have e:r≠[]:=fun z=>by subst z;cases h
  have e2:rsh r=Txt.join "." (r.reverse.map shw):=by unfold rsh;rw[if_neg e]
  rw[e2]at q
  refine⟨_,rfl,_,rfl,_,_,rfl,rfl,by omega,fun i es=>es=(r.reverse.take i).map fun z=>Dt.str (shw z),rfl,?_,?_⟩
  ·rintro i e' es hi he rfl
   have he:(r.map Dt.int).reverse[i]? = some e':=he
   rw[←CJ,Bx]at he
   obtain⟨z,hz,rfl⟩:=BU.mp he
   have hzm:z∈r:=B'.mp (BH hz)
   refine⟨_,rfl,each_t (ifT rfl ?_)⟩
   refine⟨_,rfl,z,rfl,Ce (rp (n60 (hb z hzm))) (by decide),?_⟩
   show _++[_]=((r.reverse.take (i+1)).map fun z=>Dt.str (shw z))
   rw[CQ,hz,B3]
   rfl
  ·rintro es rfl
   refine⟨r.reverse.map shw,?_,ol (by rw[kK];exact By _) (fun y hy=>?_) (by rw[Bs,BQ];omega),q⟩
   ·show some _=_
    rw[CT (by rw[BQ,ll];exact By _),Cy]
    rfl
   ·obtain⟨z,hz,rfl⟩:=BR.mp hy
    have:=zT (k:=3) z (by decide) (hb z (B'.mp hz))
    omega
abbrev qj:Stmt:=top 108
def fj:zk ["_law_word","_law_way_here","_law_one","_law_other"] ["_law_word","_law_way_here","_law_one","_law_other"] (defScope qj):=by walk_at "sc"
def fX(T:Txt K mg A)(F:Fun K "_law_due" "_law_due" qj f fd):FnOk P w K mg base CX0 1 f fd ["_law_word","_law_way_here","_law_one","_law_other"] (zw K (VN)):=by
 refine okD F fj (by walk_at "ln") fun _ _ _ _ _ _ hr ds Q h=>?_
 obtain⟨o,k,n,a,b,rfl,ho,ta,tb,ha,hb,q⟩:=h
 refine⟨_,(ze (zx (zp (Zy) (zr (dv 1) zd (fun _ _=>rfl)) zt (zo _)) (zf (zl (MC (by decide) (by decide) (by decide) (zi zK (dv 2) (dv 3)) (zi zN (dv 2) (dv 3)) (zi z5 (dv 2) (dv 3)) (dv 0) (fun _ _=>rfl)))) zm)
 (ze (zx (zp (zW) (dv 0) zt (zo _)) (zf (zl (zF (za (zi zK (zr (dv 2) zd (fun _ _=>rfl)) (zr (dv 3) zd (fun _ _=>rfl))) (za (zi zK (zr (dv 2) zd (fun _ _=>rfl)) (zr (dv 3) zd (fun _ _=>rfl))) zg))))) zm)
 (ze (zx (zp (zW) (dv 0) zt (zo _)) (zf (zl (zF (za (zi zN (zr (dv 2) zd (fun _ _=>rfl)) (zr (dv 3) zd (fun _ _=>rfl))) (za (zi zN (zr (dv 2) zd (fun _ _=>rfl)) (zr (dv 3) zd (fun _ _=>rfl))) zg))))) zm)
 (zf (zl (zF (za (zi zN (zi z5 (zr (dv 2) zd (fun _ _=>rfl)) (zr (dv 3) zd (fun _ _=>rfl))) (zi z5 (zr (dv 2) zd (fun _ _=>rfl)) (zr (dv 3) zd (fun _ _=>rfl)))) (za (zi zK (zi z5 (zr (dv 2) zd (fun _ _=>rfl)) (zr (dv 3) zd (fun _ _=>rfl))) (zi z5 (zr (dv 2) zd (fun _ _=>rfl)) (zr (dv 3) zd (fun _ _=>rfl)))) zg)))))))),?_⟩
 refine⟨_,rfl,_,_,_,rfl,rfl,rfl,_,_,rfl,rfl,_,rfl,?_⟩
 by_cases hp:k=.pairs
 ·subst hp
  refine ifF rfl ?_
  obtain⟨a1,a2,rfl⟩:=ta
  obtain⟨b1,b2,rfl⟩:=tb
  cases o
  ·refine⟨_,rfl,_,_,rfl,rfl,_,rfl,ifT rfl ?_⟩
   walk_at "rd"
   exact q
  ·refine⟨_,rfl,_,_,rfl,rfl,_,rfl,ifF rfl ?_⟩
   refine⟨_,rfl,_,_,rfl,rfl,_,rfl,ifT rfl ?_⟩
   walk_at "rd"
   have e:Op.res .minus (.p a1 a2) (.p b1 b2)=.p (a1-b1) (a2-b2):=by
    show Nm.p (a1+(b1 * -1-b2*0)) (a2+(b1*0+b2 * -1))=_
    congr 1<;>omega
   rw[e]at q
   exact q
  ·refine⟨_,rfl,_,_,rfl,rfl,_,rfl,ifF rfl ?_⟩
   refine⟨_,rfl,_,_,rfl,rfl,_,rfl,ifF rfl ?_⟩
   repeat(first|(walk_at "rd1")|refine⟨iF ha.1 hb.1,?_⟩|refine⟨iF ha.2 hb.2,?_⟩|refine⟨iF ha.1 hb.2,?_⟩|refine⟨iF ha.2 hb.1,?_⟩)
   exact q
  ·exact absurd rfl ho
 ·refine ifT (by cases k<;>first|rfl|exact absurd rfl hp) ?_
  obtain⟨x,rfl⟩:=xH hp ta
  obtain⟨y,rfl⟩:=xH hp tb
  refine⟨_,rfl,_,rfl,_,_,rfl,rfl,_,rfl,_,rfl,_,_,rfl,rfl,_,rfl,_,rfl,_,_,rfl,rfl,iF ha.1 hb.1,_,rfl,_,rfl,?_⟩
  cases o
  ·exact .inl ⟨rfl,q⟩
  ·refine .inr (.inl ⟨rfl,?_⟩)
   have e:Op.res .minus (.i x) (.i y)=.i (x-y):=by
    show Nm.i (x+y * -1)=_
    congr 1
    omega
   rw[e]at q
   exact q
  ·exact .inr (.inr ⟨rfl,q⟩)
  ·exact absurd rfl ho
abbrev qh:Stmt:=top 109
def sc_law_two:zk ["_law_word","_law_way_here","_law_head","_law_one","_law_other","_law_text"] ["_law_word","_law_way_here","_law_head","_law_one","_law_other"] (defScope qh):=by walk_at "sc"
def fV(T:Txt K mg A)(Ab:DOk P w K mg base 2 "_law_worth" (wO))(Ai:DOk P w K mg base 12 "said" (wM))(Af:DOk P w K mg base 1 "_law_shown" (uk))(As:DOk P w K mg base 4 "_law_tells" (oy))(Bi:DOk P w K mg base 1 "_law_due" (VN))(F:Fun K "_law_two" "_law_two" qh f fd):FnOk P w K mg base CX0 13 f fd ["_law_word","_law_way_here","_law_head","_law_one","_law_other"] (zw K (YG)):=by
 refine okD F sc_law_two (by walk_at "ln") fun _ _ _ _ _ _ hr ds Q h=>?_
 obtain⟨o,k,n,a,b,rfl,ho,hn,ha,hb,q⟩:=h
 refine⟨_,(zX (zx (DW.dt (yk (zp (zW) (dv 0) zt (zo _)) (yo (zp Uw (zr (dv 1) zd (fun _ _=>rfl)) (zF (za zt (za zt (za zt zg)))) (by with_unfolding_all rfl))))) (zf (zx (zp (uO) (zh Ab (rom hr) rfl (za (dv 1) (za (dv 3) zg))) (zh Ab (rom hr) rfl (za (dv 1) (za (dv 4) zg))) (zo _)) (zf (eY (i:=3) (j:=4) rfl sc_law_two.nd rfl rfl (by decide) rfl rfl (za (dv 4) (za (dv 3) zg)) rfl)) zm)) zm)
 (ze (zq (i:=5) sc_law_two.nd rfl (Or.inl rfl) (zh Ai (rom hr) rfl (za (wV zt (z9 (za (dv 0) (za (dv 2) (za (zh Af (rom hr) rfl (za (dv 3) zg)) (za (zh Af (rom hr) rfl (za (dv 4) zg)) zg)))))) zg)))
 (zf (zl (zh As (rom hr) rfl (za (dv 1) (za (dv 5) (za (zh Bi (rom hr) rfl (za (dv 0) (za (dv 1) (za (zh Ab (rom hr) rfl (za (dv 1) (za (dv 3) zg))) (za (zh Ab (rom hr) rfl (za (dv 1) (za (dv 4) zg))) zg))))) zg)))))))),?_⟩
 refine⟨fun ρ=>∃a' b',ρ=[.some (.str o.nam),.some (y7 k n),.some (.str (wnm k n)),.some (zy a'),.some (zy b'),.none]∧qE k n a'∧qE k n b'∧(o=.minus→iB k→(zj k n b').re≤(zj k n a').re),?_,?_⟩
 ·have l1:=ha.2
  have l2:=hb.2
  cases o with
  | minus=>
   refine⟨_,rfl,_,_,rfl,rfl,_,rfl,ifT rfl ?_⟩
   refine⟨_,rfl,_,_,_,rfl,rfl,rfl,rfl,_,_,_,rfl,rfl,rfl,_,rfl,ifB (fun h=>?_) (fun h=>?_)⟩
   ·have hp:k≠.pairs:=by rintro rfl;cases h
    refine⟨_,rfl,_,rfl,k,n,a,rfl,hn,ha.1,by omega,?_⟩
    rw[iE hp (zD k n a)]
    refine⟨_,rfl,_,rfl,k,n,b,rfl,hn,hb.1,by omega,?_⟩
    rw[iE hp (zD k n b)]
    refine⟨_,_,rfl,rfl,_,rfl,ifB (fun h=>?_) (fun h=>?_)⟩
    ·have h:=of_decide_eq_true h
     exact⟨_,rfl,_,rfl,_,_,rfl,b,a,rfl,hb,ha,fun _ _=>by omega⟩
    ·have h:=of_decide_eq_false h
     exact⟨a,b,rfl,ha,hb,fun _ _=>by omega⟩
   ·exact⟨a,b,rfl,ha,hb,fun _ hk=>by rcases nb hk with rfl|rfl|rfl<;>cases h⟩
  | plus=>exact⟨_,rfl,_,_,rfl,rfl,_,rfl,ifF rfl (ifF rfl ⟨a,b,rfl,ha,hb,fun z=>nomatch z⟩)⟩
  | times=>exact⟨_,rfl,_,_,rfl,rfl,_,rfl,ifF rfl (ifF rfl ⟨a,b,rfl,ha,hb,fun z=>nomatch z⟩)⟩
  | order=>exact absurd rfl ho
 ·rintro ρ ⟨a',b',rfl,ha',hb',hm⟩
  have ra:=vW hn ha'
  have rb:=vW hn hb'
  have l1:=ha'.2
  have l2:=hb'.2
  have hj:=nj (a:=o.nam) (b:=wnm k n) (c:=rsh a') (d:=rsh b') (by have:=Zo o;omega) (by have:=yH hn;omega) (by have:=ra.tx;omega) (by have:=rb.tx;omega)
  refine⟨_,rfl,_,rfl,_,rfl,_,rfl,a',rfl,by omega,ra.sm,_,rfl,b',rfl,by omega,rb.sm,rfl,[o.nam,wnm k n,rsh a',rsh b'],rfl,hj.2,?_⟩
  have hpre:o.pre k n a' b':=by
   cases o
   ·trivial
   ·exact hm rfl
   ·exact⟨by omega,by omega,by omega,fun _=>by omega⟩
   ·exact absurd rfl ho
  refine dX ra rb hpre (YV ho fun r hr_ hw hl=>?_)
  exact⟨_,rfl,_,rfl,_,rfl,_,rfl,_,rfl,_,rfl,k,n,a',rfl,hn,ha'.1,by omega,_,rfl,_,rfl,k,n,b',rfl,hn,hb'.1,by omega,o,k,n,_,_,rfl,ho,zD k n a',zD k n b',ra.lt,rb.lt,k,n,r,_,rfl,hn,hr_,hl,hw,q⟩
abbrev su:Stmt:=top 112
def sc_law_move:zk ["_law_way_here","_law_head","_law_one","_law_cell","_law_number_here","_law_target","_law_text"] ["_law_way_here","_law_head","_law_one","_law_cell"] (defScope su):=by walk_at "sc"
def ij(T:Txt K mg A)(Ab:DOk P w K mg base 2 "_law_worth" (wO))(Ai:DOk P w K mg base 12 "said" (wM))(Af:DOk P w K mg base 1 "_law_shown" (uk))(As:DOk P w K mg base 4 "_law_tells" (oy))(F:Fun K "_law_move" "_law_move" su f fd):FnOk P w K mg base CX0 13 f fd ["_law_way_here","_law_head","_law_one","_law_cell"] (zw K (ju)):=by
 refine okD F sc_law_move (by walk_at "ln") fun _ _ _ _ _ _ hr ds Q h=>?_
 obtain⟨k,n,a,c,rfl,hn,ha,q⟩:=h
 refine⟨_,(ze (zq (i:=4) sc_law_move.nd rfl (Or.inl rfl) (zh Ab (rom hr) rfl (za (dv 0) (za (dv 2) zg))))
 (ze (zq (i:=5) sc_law_move.nd rfl (Or.inl rfl) (zr (z9 (za (zF (za zt (za (zi zK zd (zi z8 (dv 3) zd)) zg))) (za (zF (za zt (za (zi zK zd (zi z8 (dv 3) zd)) zg))) (za (zF (za zt (za (zi zK zd (zi z8 (dv 3) zd)) zg))) zg)))) (zi z8 (zi yF (dv 3) zd) zd) (fun _ _=>rfl)))
 (zX (zx (zp (zW) (zr (dv 0) zd (fun _ _=>rfl)) zt (zo _)) (zf (zq (i:=5) sc_law_move.nd rfl (Or.inl rfl) (zF (za zt (za (zi zK zd (zi z8 (dv 3) zd)) zg))))) (zf (zx (zp (zW) (zr (dv 5) zd (fun _ _=>rfl)) zt (zo _)) (zf (zq (i:=4) sc_law_move.nd rfl (Or.inl rfl) (zF (za (dv 4) (za zd zg))))) (zf (zx (DW.dt (yk (zp (eA) (dv 4) zd (zo _)) (yo (zp (wC hr) (zi z8 (zi yF (dv 3) zd) zd) zd (zo _))))) (zf (zq (i:=5) sc_law_move.nd rfl (Or.inl rfl) (zr (z9 (za (zF (za zt (za (zi zK zd (zi z8 (dv 3) zd)) zg))) (za (zF (za zt (za (zi zK zd (zi z8 (dv 3) zd)) zg))) (za (zF (za zt (za (zi zK zd (zi z8 (dv 3) zd)) zg))) zg)))) (zi z8 (zi yF (dv 3) zd) zd) (fun _ _=>rfl)))) zm)))))
 (ze (zq (i:=6) sc_law_move.nd rfl (Or.inl rfl) (zh Ai (rom hr) rfl (za (wV zt (z9 (za zt (za (dv 1) (za (zh Af (rom hr) rfl (za (dv 2) zg)) (za (zi xb (zr (dv 5) zd (fun _ _=>rfl)) (x9 rfl T.n_str (zr (dv 5) zd (fun _ _=>rfl)))) zg)))))) zg)))
 (zf (zl (zh As (rom hr) rfl (za (dv 5) (za (dv 6) (za (dv 4) zg)))))))))),?_⟩
 have ra:=vW hn ha
 refine⟨_,rfl,_,rfl,k,n,a,rfl,hn,ha.1,by have:=ra.len;omega,?_⟩
 obtain⟨k2,n2,hk2,h2,e2⟩:=T6 c
 walk_at "rd"
 refine⟨_,_,_,rfl,rfl,e2,?_⟩
 refine⟨fun ρ=>∃k2 n2 m,ρ=[.some (y7 k n),.some (.str (wnm k n)),.some (zy a),.some (.int c),.some (Nm.dt m),.some (y7 k2 n2),.none]∧Kd.ok k2 n2∧m=rW k2 (zj k n a)∧yI k2 m=true,?_,?_⟩
 ·have a0:=Bz c (show(0:Int)<9 by decide)
  have a1:=BF c (show(0:Int)<9 by decide)
  refine⟨_,rfl,_,_,_,rfl,rfl,rfl,_,_,rfl,rfl,_,rfl,?_⟩
  by_cases hp:k=.pairs
  ·subst hp
   obtain⟨x,y,e⟩:=zD .pairs n a
   rw[e]
   refine ifT rfl ?_
   refine⟨_,rfl,_,_,rfl,rfl,uj (by decide),_,_,rfl,rfl,rfl,?_⟩
   exact⟨.pairs,_,.p x y,rfl,⟨by show(1:Int)≤1+_;omega,by show 1+_≤(9:Int);omega⟩,rfl,rfl⟩
  ·obtain⟨x,e⟩:=xH hp (zD k n a)
   rw[e]
   refine ifF (by cases k<;>first|rfl|exact absurd rfl hp) ?_
   refine⟨_,rfl,_,_,_,rfl,rfl,rfl,_,_,rfl,rfl,_,rfl,?_⟩
   rcases hk2 with rfl|hk2
   ·exact ifT rfl ⟨_,rfl,rfl,.pairs,n2,.p x 0,rfl,h2,rfl,rfl⟩
   ·refine ifF (by rcases hk2 with rfl|rfl<;>rfl) ?_
    obtain⟨g1,g2⟩:Nm.i x=rW k2 (.i x)∧yI k2 (.i x)=true:=by rcases hk2 with rfl|rfl<;>exact⟨rfl,rfl⟩
    refine⟨_,rfl,_,_,rfl,rfl,_,rfl,ifB (fun hx=>?_) (fun hx=>ifF rfl ⟨k2,n2,.i x,rfl,h2,g1,g2⟩)⟩
    refine⟨_,rfl,_,_,rfl,rfl,rL (by decide),_,_,rfl,rfl,uj (by decide),rfl,rfl,_,rfl,ifB (fun _=>?_) (fun _=>⟨k2,n2,.i x,rfl,h2,g1,g2⟩)⟩
    obtain⟨k3,n3,hk3,h3,e3⟩:=T5 c
    walk_at "rd"
    have hx:(0:Int)≤x:=of_decide_eq_true hx
    refine⟨_,_,_,rfl,rfl,e3,k3,n3,.i x,rfl,h3,?_,?_⟩
    ·rcases nb hk3 with rfl|rfl|rfl<;>rfl
    ·rcases nb hk3 with rfl|rfl|rfl<;>exact decide_eq_true hx
 ·rintro ρ ⟨k2,n2,m,rfl,h2,rfl,hh⟩
  have hj:=nj (a:=("move":Str)) (b:=wnm k n) (c:=rsh a) (d:=wnm k2 n2) (by decide +kernel) (by have:=yH hn;omega) (by have:=ra.tx;omega) (by have:=yH h2;omega)
  have hna:n2.natAbs<10^60:=by obtain⟨m,rfl,_,h⟩:=kq h2;rw[B5];exact Cj h (by decide)
  refine⟨_,rfl,_,rfl,_,rfl,a,rfl,by have:=ra.len;omega,ra.sm,_,rfl,_,_,_,rfl,rfl,rfl,_,rfl,_,_,_,rfl,rfl,rfl,_,rfl,Ce (rp hna) (by decide),_,_,rfl,rfl,by show k2.nam.length+(shw n2).length≤_;rw[←yw];exact BS (yH h2) (by decide),rfl,[("move":Str),wnm k n,rsh a,wnm k2 n2],rfl,hj.2,?_⟩
  refine bq ra h2 hh fun r hr_ hw hl=>?_
  exact⟨_,rfl,_,rfl,_,rfl,k2,n2,r,_,rfl,h2,hr_,hl,hw,q⟩
abbrev uB:Stmt:=top 111
def sc_law_order:zk ["_law_way_here","_law_head","_law_one","_law_other","_law_first","_law_second","_law_due_here","_law_text"] ["_law_way_here","_law_head","_law_one","_law_other"] (defScope uB):=by walk_at "sc"
def ky(T:Txt K mg A)(Ab:DOk P w K mg base 2 "_law_worth" (wO))(Ai:DOk P w K mg base 12 "said" (wM))(Af:DOk P w K mg base 1 "_law_shown" (uk))(F:Fun K "_law_order" "_law_order" uB f fd):FnOk P w K mg base CX0 13 f fd ["_law_way_here","_law_head","_law_one","_law_other"] (zw K (gJ)):=by
 refine okD F sc_law_order (by walk_at "ln") fun _ _ _ _ _ _ hr ds Q h=>?_
 obtain⟨k,n,a,b,rfl,hp,hn,ha,hb,q⟩:=h
 refine⟨_,(ze (zq (i:=4) sc_law_order.nd rfl (Or.inl rfl) (zh Ab (rom hr) rfl (za (dv 0) (za (dv 2) zg))))
 (ze (zq (i:=5) sc_law_order.nd rfl (Or.inl rfl) (zh Ab (rom hr) rfl (za (dv 0) (za (dv 3) zg))))
 (ze (zq (i:=6) sc_law_order.nd rfl (Or.inl rfl) (zr (z9 (za zt (za zt (za zt zg)))) (zi zN (jf rfl T.n_int (xR (rk) (dv 4) (dv 5) (zo _))) (jf rfl T.n_int (xR (uO) (dv 4) (dv 5) (zo _)))) (fun _ _=>rfl)))
 (ze (zq (i:=7) sc_law_order.nd rfl (Or.inl rfl) (zh Ai (rom hr) rfl (za (wV zt (z9 (za zt (za (dv 1) (za (zh Af (rom hr) rfl (za (dv 2) zg)) (za (zh Af (rom hr) rfl (za (dv 3) zg)) zg)))))) zg)))
 (zf (zl (u9 (ox T.isinstance T.n_str (dv 7)) (sP (xR (zW) (dv 7) (dv 6) (zo _)))))))))),?_⟩
 have ra:=vW hn ha
 have rb:=vW hn hb
 have hj:=nj (a:=Op.nam .order) (b:=wnm k n) (c:=rsh a) (d:=rsh b) (by decide +kernel) (by have:=yH hn;omega) (by have:=ra.tx;omega) (by have:=rb.tx;omega)
 refine⟨_,rfl,_,rfl,k,n,a,rfl,hn,ha.1,by have:=ra.len;omega,?_⟩
 rw[iE hp (zD k n a)]
 refine⟨_,rfl,_,rfl,k,n,b,rfl,hn,hb.1,by have:=rb.len;omega,?_⟩
 rw[iE hp (zD k n b)]
 have key:atI [Dt.str (Str.ofString "same"),Dt.str (Str.ofString "more"),Dt.str (Str.ofString "less")] ((if decide ((zj k n b).re<(zj k n a).re)=true then 1 else 0)-(if decide ((zj k n a).re<(zj k n b).re)=true then 1 else 0))=some (Dt.str (fM (sg (zj k n a).re (zj k n b).re))):=by
  unfold fM sg
  rcases(by omega:(zj k n a).re<(zj k n b).re∨(zj k n a).re=(zj k n b).re∨(zj k n b).re<(zj k n a).re) with h|h|h
  ·rw[decide_eq_true h,decide_eq_false (by omega),if_pos h]
   rfl
  ·rw[h,decide_eq_false (Int.lt_irrefl _),if_neg (Int.lt_irrefl _),if_neg (Int.lt_irrefl _)]
   rfl
  ·rw[decide_eq_true h,decide_eq_false (show ¬(zj k n a).re<(zj k n b).re by omega),if_neg (show ¬(zj k n a).re<(zj k n b).re by omega),if_pos h]
   rfl
 refine⟨rfl,_,rfl,_,rfl,_,_,rfl,rfl,_,rfl,_,rfl,_,rfl,_,_,rfl,rfl,_,rfl,_,_,rfl,rfl,_,_,_,rfl,rfl,key,?_⟩
 refine⟨_,rfl,_,rfl,_,rfl,a,rfl,by have:=ra.len;omega,ra.sm,_,rfl,b,rfl,by have:=rb.len;omega,rb.sm,rfl,[Op.nam .order,wnm k n,rsh a,rsh b],rfl,hj.2,?_⟩
 refine dX (o:=.order) ra rb hp ?_
 refine⟨_,rfl,_,rfl,_,rfl,ifT rfl ?_⟩
 refine⟨_,rfl,_,rfl,_,_,rfl,rfl,?_⟩
 show Q (.bl (fM (sg (zj k n a).re (zj k n b).re)==fM (sg (zj k n a).re (zj k n b).re)))
 rw[beq_self_eq_true]
 exact q
abbrev uA:Stmt:=top 110
def sc_law_share:zk ["_law_way_here","_law_head","_law_one","_law_many","_law_text","_law_parts","_law_row","_law_rest"] ["_law_way_here","_law_head","_law_one","_law_many"] (defScope uA):=by walk_at "sc"
def kx(T:Txt K mg A)(Ai:DOk P w K mg base 12 "said" (wM))(Af:DOk P w K mg base 1 "_law_shown" (uk))(Ax:DOk P w K mg base 3 "_law_row_of" (dq))(Aw:DOk P w K mg base 1 "_law_whole_of" (nQ))(Ab:DOk P w K mg base 2 "_law_worth" (wO))(F:Fun K "_law_share" "_law_share" uA f fd):FnOk P w K mg base CX0 13 f fd ["_law_way_here","_law_head","_law_one","_law_many"] (zw K (gH)):=by
 refine okD F sc_law_share (by walk_at "ln") fun _ _ _ _ _ _ hr ds Q h=>?_
 obtain⟨k,n,a,m,rfl,hp,hn,ha,m1,m2,q⟩:=h
 refine⟨_,(ze (zq (i:=4) sc_law_share.nd rfl (Or.inl rfl) (zh Ai (rom hr) rfl (za (wV zt (z9 (za zt (za (dv 1) (za (zh Af (rom hr) rfl (za (dv 2) zg)) (za (x9 rfl T.n_str (dv 3)) zg)))))) zg)))
 (ze (zx (yV (zR (ox T.isinstance T.n_str (dv 4)))) (zf (zl wJ)) zm)
 (ze (zq (i:=5) sc_law_share.nd rfl (Or.inl rfl) (DF.de (u5 (dv 4) zt)))
 (ze (zx (zp (kF hr) (yt rfl T.len (dv 5)) zd (zo _)) (zf (zl wJ)) zm)
 (ze (zq (i:=6) sc_law_share.nd rfl (Or.inl rfl) (zh Ax (rom hr) rfl (za (dv 0) (za (zr (dv 5) zd (fun _ _=>rfl)) zg))))
 (ze (zq (i:=7) sc_law_share.nd rfl (Or.inl rfl) (zh Aw (rom hr) rfl (za (zr (dv 5) zd (fun _ _=>rfl)) zg)))
 (zX (zx (DW.dt (uZ (kZ (dv 6)) (uZ (kZ (dv 7)) (uY (yV (nA (Zz) (uO) zd (dv 7) (dv 3))))))) (zf (zl wJ)) zm)
 (zf (zl (xR (wC hr) (zi zK (zi z5 (zh Ab (rom hr) rfl (za (dv 0) (za (dv 6) zg))) (dv 3)) (dv 7)) (zh Ab (rom hr) rfl (za (dv 0) (za (dv 2) zg))) (zo _))))))))))),?_⟩
 have ra:=vW hn ha
 have hm6:m.natAbs<10^60:=by omega
 have hj:=nj (a:=("share":Str)) (b:=wnm k n) (c:=rsh a) (d:=shw m) (by decide +kernel) (by have:=yH hn;omega) (by have:=ra.tx;omega) (by have:=zT (k:=60) m (by decide) hm6;omega)
 walk_at "rd"
 refine⟨by have:=ra.len;omega,ra.sm,?_⟩
 refine⟨_,rfl,m,rfl,Ce (rp hm6) (by decide),rfl,[("share":Str),wnm k n,rsh a,shw m],rfl,hj.2,?_⟩
 refine fA ra hp m1 hm6 fun s e hLs ls e0 e1 he=>?_
 have he6:e.natAbs<10^60:=by omega
 have hss:=yl hn hLs.fig (by omega)
 have t1:=rc (B:=700) ls (by decide) hss
 have t2:=zT (k:=60) e (by decide) he6
 have tj:(Txt.join (" ":Str) [rsh s,shw e]).length≤100000:=by
  rw[←cN,yw,yw,wE]
  omega
 have hsp:Txt.split (Txt.join (" ":Str) [rsh s,shw e]) " "=[rsh s,shw e]:=vB Yq (by decide) (CI _ _) fun p hp=>by
  rcases BE.mp hp with rfl|hp
  ·exact qt s
  ·rw[BD.mp hp];exact wc (by decide) (by decide)
 refine⟨_,rfl,_,rfl,_,rfl,ifF rfl ?_⟩
 refine⟨_,rfl,_,rfl,tj,_,rfl,rfl,?_⟩
 rw[hsp]
 refine⟨_,rfl,_,rfl,rfl,rfl,_,rfl,ifF rfl ?_⟩
 refine⟨_,rfl,_,rfl,_,_,_,rfl,rfl,rfl,k,n,s,rfl,hn,hLs,by omega,?_⟩
 refine⟨_,rfl,_,_,_,rfl,rfl,rfl,e,rfl,he6,?_⟩
 refine⟨fun ρ=>ρ=[.some (y7 k n),.some (.str (wnm k n)),.some (zy a),.some (.int m),.some (.str (Txt.join " " [rsh s,shw e])),.some (.lst [.str (rsh s),.str (shw e)]),.some (zy s),.some (.int e)],?_,?_⟩
 ·refine⟨_,rfl,_,rfl,ifF rfl ?_⟩
  refine⟨_,rfl,_,rfl,ifF rfl ?_⟩
  refine⟨_,rfl,_,_,rfl,rfl,_,rfl,ifT (decide_eq_true e0) ?_⟩
  exact⟨_,rfl,_,_,rfl,rfl,_,rfl,ifF (nT (decide_eq_true e1)) rfl⟩
 rintro ρ rfl
 refine⟨_,rfl,_,rfl,k,n,s,rfl,hn,hLs,by omega,?_⟩
 rw[iE hp (zD k n s)]
 refine⟨_,rfl,_,_,rfl,rfl,small (by omega) (by omega) _,_,rfl,_,_,rfl,rfl,_,rfl,_,rfl,k,n,a,rfl,hn,ha.1,by have:=ra.len;omega,?_⟩
 rw[iE hp (zD k n a)]
 refine⟨rfl,rfl,?_⟩
 rw[show eqD (.int ((zj k n s).re*m+e)) (Nm.dt (.i (zj k n a).re))=true from eqI (by rw[he,Ci])]
 exact q
abbrev wo:Stmt:=top 113
def sc_law_answered:zk ["_law_cell","_law_way_here","_law_head","_law_one","_law_other","_law_word","_law_number_here","_law_text"] ["_law_cell"] (defScope wo):=by walk_at "sc"
def pP(T:Txt K mg A)(Bj:DOk P w K mg base 1 "_law_way" (Yw))(AF:FOk P w K mg base 3 "_law_some" (YA))(Bk:DOk P w K mg base 1 "_law_number" (VM))(As:DOk P w K mg base 4 "_law_tells" (oy))(Ai:DOk P w K mg base 12 "said" (wM))(AG:DOk P w K mg base 1 "_law_number_text" (cW))(Af:DOk P w K mg base 1 "_law_shown" (uk))(Ab:DOk P w K mg base 2 "_law_worth" (wO))(Bl:DOk P w K mg base 13 "_law_two" (YG))(Bm:DOk P w K mg base 13 "_law_move" (ju))(Bn:DOk P w K mg base 13 "_law_order" (gJ))(Bo:DOk P w K mg base 13 "_law_share" (gH))(F:Fun K "_law_answered" "_law_answered" wo f fd):FnOk P w K mg base CX0 14 f fd ["_law_cell"] (zw K (YK)):=by
 refine okD F sc_law_answered (by walk_at "ln") fun _ _ _ _ _ _ hr ds Q h=>?_
 obtain⟨c,rfl,q⟩:=h
 refine⟨_,(ze (zq (i:=1) sc_law_answered.nd rfl (Or.inl rfl) (zh Bj (rom hr) rfl (za (zi z8 (zi z5 (dv 0) zd) zd) zg)))
 (ze (zq (i:=2) sc_law_answered.nd rfl (Or.inl rfl) (zi xb (zr (dv 1) zd (fun _ _=>rfl)) (x9 rfl T.n_str (zr (dv 1) zd (fun _ _=>rfl)))))
 (ze (zq (i:=3) sc_law_answered.nd rfl (Or.inl rfl) (DF.de (zM AF (rom hr) rfl (za (dv 1) (za (dv 0) (za zd zg))))))
 (ze (zq (i:=4) sc_law_answered.nd rfl (Or.inl rfl) (DF.de (zM AF (rom hr) rfl (za (dv 1) (za (zi zK (zi yF (dv 0) zd) zd) (za zd zg))))))
 (ze (zq (i:=5) sc_law_answered.nd rfl (Or.inl rfl) (zi z8 (dv 0) zd))
 (ze (zx (zp (wC hr) (dv 5) zd (zo _)) (ze (zq (i:=6) sc_law_answered.nd rfl (Or.inl rfl) (zh Bk (rom hr) rfl (za (dv 1) (za (zi yF (dv 0) zd) zg))))
 (zf (zl (zh As (rom hr) rfl (za (dv 1) (za (zh Ai (rom hr) rfl (za (zi xb (zi xb (zi xb zt (dv 2)) zt) (zh AG (rom hr) rfl (za (dv 6) zg))) zg)) (za (dv 6) zg))))))) zm)
 (ze (zx (zp (wC hr) (dv 5) zd (zo _)) (ze (zq (i:=7) sc_law_answered.nd rfl (Or.inl rfl) (zh Ai (rom hr) rfl (za (zi xb (zi xb (zi xb zt (dv 2)) zt) (zh Af (rom hr) rfl (za (dv 3) zg))) zg)))
 (zf (zl (u9 (ox T.isinstance T.n_str (dv 7)) (sP (xR (zW) (dv 7) (zh AG (rom hr) rfl (za (zh Ab (rom hr) rfl (za (dv 1) (za (dv 3) zg))) zg)) (zo _))))))) zm)
 (ze (zx (zp (uO) (dv 5) zd (zo _)) (zf (zl (zh Bl (rom hr) rfl (za (zr (z9 (za zt (za zt (za zt zg)))) (zi zN (dv 5) zd) (fun _ _=>rfl)) (za (dv 1) (za (dv 2) (za (dv 3) (za (dv 4) zg)))))))) zm)
 (zX (zx (DW.dt (uZ (zp (wC hr) (dv 5) zd (zo _)) (uY (zp (zW) (zr (dv 1) zd (fun _ _=>rfl)) zt (zo _))))) (zf (zl (zh Bm (rom hr) rfl (za (dv 1) (za (dv 2) (za (dv 3) (za (zi z8 (zi yF (dv 0) zd) (zi qY zd zd)) zg))))))) zm)
 (ze (zx (zp (uO) (dv 5) zd (zo _)) (zf (zl (zh Bn (rom hr) rfl (za (dv 1) (za (dv 2) (za (dv 3) (za (zr (z9 (za (dv 4) (za (DF.de (ou rfl T.n_list (dv 3))) zg))) (zi yF (zi z8 (zi yF (dv 0) zd) zd) zd) (fun _ _=>rfl)) zg))))))) zm)
 (zf (zl (zh Bo (rom hr) rfl (za (dv 1) (za (dv 2) (za (dv 3) (za (zi zK zd (zi z8 (zi yF (dv 0) zd) (zr (z9 (za zd (za zd (za zd (za zd (za zd (za (zi qY zd zd) zg))))))) (zi z8 (zi yF (dv 0) zd) zd) (fun _ _=>rfl)))) zg))))))))))))))))),?_⟩
 walk_at "rd"
 intro k n hn
 have lm:=yH hn
 have hna:n.natAbs<10^60:=by obtain⟨m,rfl,_,h⟩:=kq hn;rw[B5];exact Cj h (by decide)
 refine⟨_,rfl,_,_,_,rfl,rfl,rfl,_,rfl,_,_,_,rfl,rfl,rfl,_,rfl,Ce (rp hna) (by decide),_,_,rfl,rfl,by show k.nam.length+(shw n).length≤_;rw[←yw];exact BS lm (by decide),?_⟩
 rw[show k.nam++Str.ofString (toString n)=wnm k n from rfl]
 refine⟨_,rfl,_,rfl,k,n,c,1,rfl,hn,by decide,by decide,fun a la1 la2=>?_⟩
 have ha:qE k n a:=⟨la1,la2⟩
 have ra:=vW hn ha
 refine⟨_,rfl,_,rfl,_,_,rfl,rfl,rL (by decide),_,_,rfl,rfl,k,n,_,2,rfl,hn,by decide,by decide,fun b lb1 lb2=>?_⟩
 have hb:qE k n b:=⟨lb1,lb2⟩
 have w0:=Bz c (show(0:Int)<9 by decide)
 have w1:=BF c (show(0:Int)<9 by decide)
 refine⟨_,rfl,_,_,rfl,rfl,uj (by decide),?_⟩
 dsimp only
 generalize c.fmod 9=w at *
 refine⟨_,rfl,rfl,rfl,_,rfl,ifB (fun h=>?_) (fun h0=>?_)⟩
 ·refine⟨_,rfl,_,rfl,_,_,rfl,rfl,rL (by decide),k,n,_,rfl,fun m hm h6=>?_⟩
  have lw:=oJ h6
  have l6:(("write ":Str)).length=6:=by decide +kernel
  refine⟨_,rfl,_,rfl,_,_,rfl,rfl,by omega,_,_,rfl,rfl,by rw[yw,wE];omega,_,rfl,m,rfl,h6,_,_,rfl,rfl,by rw[yw,yw,wE];omega,?_⟩
  rw[gQ]
  refine fv hn hm h6 fun r hr_ hw hl=>?_
  exact⟨_,rfl,k,n,r,m,rfl,hn,hr_,hl,hw,q⟩
 refine⟨_,rfl,rfl,rfl,_,rfl,ifB (fun h=>?_) (fun h1=>?_)⟩
 ·have lr:=ra.tx
  have l6:(("worth ":Str)).length=6:=by decide +kernel
  refine⟨_,rfl,_,_,rfl,rfl,by omega,_,_,rfl,rfl,by rw[yw,wE];omega,_,rfl,a,rfl,by omega,ra.sm,_,_,rfl,rfl,by rw[yw,yw,wE];omega,?_⟩
  rw[gR]
  refine fw ra ?_
  refine⟨_,rfl,_,rfl,_,rfl,ifT rfl ?_⟩
  refine⟨_,rfl,_,rfl,_,rfl,k,n,a,rfl,hn,ha.1,by omega,zj k n a,rfl,ra.lt,_,_,rfl,rfl,?_⟩
  show Q (.bl (tZ (zj k n a)==tZ (zj k n a)))
  rw[beq_self_eq_true]
  exact q
 have n0:=sH h0
 have n1:=sH h1
 refine⟨_,rfl,_,_,rfl,rfl,_,rfl,ifB (fun h=>?_) (fun h2=>?_)⟩
 ·have h:=of_decide_eq_true h
  obtain⟨o,ho,e⟩:∃o:Op,o.sum∧atI [Dt.str (Str.ofString "plus"),Dt.str (Str.ofString "minus"),Dt.str (Str.ofString "times")] (w-2)=some (.str o.nam):=by
   rcases(by omega:w=2∨w=3∨w=4) with rfl|rfl|rfl
   ·exact⟨.plus,(fun z=>nomatch z),rfl⟩
   ·exact⟨.minus,(fun z=>nomatch z),rfl⟩
   ·exact⟨.times,(fun z=>nomatch z),rfl⟩
  exact⟨rfl,_,rfl,_,_,rfl,rfl,_,_,_,rfl,rfl,e,_,rfl,_,rfl,_,rfl,_,rfl,o,k,n,a,b,rfl,ho,hn,ha,hb,q⟩
 refine⟨fun ρ=>ρ=[.some (.int c),.some (y7 k n),.some (.str (wnm k n)),.some (zy a),.some (zy b),.some (.int w),.none,.none]∧k≠.pairs,?_,?_⟩
 ·have mv:∀z:Int,ju [y7 k n,.str (wnm k n),zy a,.int z] Q:=fun z=>⟨k,n,a,z,rfl,hn,ha,q⟩
  refine⟨_,rfl,rfl,rfl,_,rfl,ifB (fun h=>ifT rfl ?_) (fun h=>?_)⟩
  ·exact⟨_,rfl,_,rfl,_,rfl,_,rfl,_,_,rfl,rfl,rL (by decide),_,_,rfl,rfl,ge (by decide),_,_,rfl,rfl,uj (by decide),mv _⟩
  ·refine⟨_,rfl,_,_,_,rfl,rfl,rfl,_,_,rfl,rfl,_,rfl,ifB (fun h=>?_) (fun h=>⟨rfl,fun z=>by subst z;cases h⟩)⟩
   exact⟨_,rfl,_,rfl,_,rfl,_,rfl,_,_,rfl,rfl,rL (by decide),_,_,rfl,rfl,ge (by decide),_,_,rfl,rfl,uj (by decide),mv _⟩
 rintro ρ ⟨rfl,hp⟩
 refine⟨_,rfl,_,_,rfl,rfl,_,rfl,ifB (fun h=>?_) (fun h3=>?_)⟩
 ·obtain⟨r,hr_,e⟩:∃r,qE k n r∧atI [zy b,zy a] (((c.fdiv 9).fmod 5).fdiv 4)=some (zy r):=by
   have x0:=Bz (c.fdiv 9) (show(0:Int)<5 by decide)
   have x1:=BF (c.fdiv 9) (show(0:Int)<5 by decide)
   rcases(by omega:(c.fdiv 9).fmod 5=0∨(c.fdiv 9).fmod 5=1∨(c.fdiv 9).fmod 5=2∨(c.fdiv 9).fmod 5=3∨(c.fdiv 9).fmod 5=4) with e|e|e|e|e<;>rw[e]
   ·exact⟨b,hb,rfl⟩
   ·exact⟨b,hb,rfl⟩
   ·exact⟨b,hb,rfl⟩
   ·exact⟨b,hb,rfl⟩
   ·exact⟨a,ha,rfl⟩
  walk_at "rd"
  exact⟨_,_,_,rfl,rfl,e,k,n,a,r,rfl,hp,hn,ha,hr_,q⟩
 ·obtain⟨m,m1,m2,e⟩:∃m:Int,1≤m∧m≤1000000∧atI [Dt.int 5,Dt.int 10,Dt.int 100,Dt.int 1000,Dt.int 65537,Dt.int (10^Int.toNat 6)] ((c.fdiv 3).fmod 6)=some (Dt.int m):=by
   have x0:=Bz (c.fdiv 3) (show(0:Int)<6 by decide)
   have x1:=BF (c.fdiv 3) (show(0:Int)<6 by decide)
   rcases(by omega:(c.fdiv 3).fmod 6=0∨(c.fdiv 3).fmod 6=1∨(c.fdiv 3).fmod 6=2∨(c.fdiv 3).fmod 6=3∨(c.fdiv 3).fmod 6=4∨(c.fdiv 3).fmod 6=5) with e|e|e|e|e|e<;>rw[e]<;>exact⟨_,by decide,by decide,rfl⟩
  have y0:=Bz (c.fdiv 9) (show 0<m by omega)
  have y1:=BF (c.fdiv 9) (show 0<m by omega)
  walk_at "rd"
  exact⟨_,_,_,rfl,rfl,e,_,_,rfl,rfl,(by show m≠0;omega),_,_,rfl,rfl,k,n,a,_,rfl,hp,hn,ha,by show 1≤1+_;omega,by show 1+_≤_;omega,q⟩
abbrev oR:Stmt:=top 114
def sc_law:zk ["_law_script","_law_cell"] ["_law_script"] (defScope oR):=by walk_at "sc"
def Uv(T:Txt K mg A)(Bp:DOk P w K mg base 14 "_law_answered" (YK))(F:Fun K "law" "law" oR f fd):FnOk P w K mg base CX0 15 f fd ["_law_script"] (zw K (cZ)):=by
 refine okD F sc_law (by walk_at "ln") fun _ _ _ _ _ _ hr ds Q h=>?_
 obtain⟨ns,rfl,hns,q⟩:=h
 refine⟨_,(ze (nB (j:=1) rfl sc_law.nd rfl (Or.inl rfl) PassesOwn.never (Yd (dv 0) rH (rG zd)) (zf (zx (yV (zR (zh Bp (rom hr) rfl (za (zi z8 (dv 1) (zi qY zd zd)) zg)))) (zf (zl wJ)) zm)))
 (zf (zl wJ))),?_⟩
 walk_at "rd"
 obtain⟨cs,ec,_,_⟩:=Yn ns none (some 24)
 rw[ec]
 refine⟨_,fun i ρ=>∃v,ρ=[.some (.scr ns),v],rfl,⟨_,rfl⟩,?_,?_⟩
 ·rintro i e ρ' he ⟨v,rfl⟩
  have he:(cs.map Dt.int)[i]? = some e:=he
  rw[Bx]at he
  obtain⟨c,hc,rfl⟩:=BU.mp he
  walk_at "rd"
  exact⟨_,rfl⟩
 ·rintro ρ' ⟨v,rfl⟩
  exact q
end
def BA(n q:Str)(st:Stmt)(ps:List Str)(us:List Value):Prop:=∀(kV doc pm:Value)(an:Option Addr)(cdv ct:Value),bindArgs (PySem.W.fnOf n q (defArgs st) (defBody st) (defScope st) .none kV doc pm an cdv ct) ⟨us,[]⟩=pure (ps.zip us)
def BZ(n q:Str)(st:Stmt)(ps:List Str):Prop:=∀us:List Value,us.length=ps.length→BA n q st ps us
def bz1{n q:Str}{st:Stmt}{ps:List Str}(hl:ps.length=1:=by rfl)(h:∀u0:Value,BA n q st ps [u0]:=by exact fun _ _ _ _ _ _ _=>rfl):BZ n q st ps:=fun us e=>match us,e.trans hl with | [_],_=>h _
def bz2{n q:Str}{st:Stmt}{ps:List Str}(hl:ps.length=2:=by rfl)(h:∀u0 u1:Value,BA n q st ps [u0,u1]:=by exact fun _ _ _ _ _ _ _ _=>rfl):BZ n q st ps:=fun us e=>match us,e.trans hl with | [_,_],_=>h _ _
def bz3{n q:Str}{st:Stmt}{ps:List Str}(hl:ps.length=3:=by rfl)(h:∀u0 u1 u2:Value,BA n q st ps [u0,u1,u2]:=by exact fun _ _ _ _ _ _ _ _ _=>rfl):BZ n q st ps:=fun us e=>match us,e.trans hl with | [_,_,_],_=>h _ _ _
def bz4{n q:Str}{st:Stmt}{ps:List Str}(hl:ps.length=4:=by rfl)(h:∀u0 u1 u2 u3:Value,BA n q st ps [u0,u1,u2,u3]:=by exact fun _ _ _ _ _ _ _ _ _ _=>rfl):BZ n q st ps:=fun us e=>match us,e.trans hl with | [_,_,_,_],_=>h _ _ _ _
def bz5{n q:Str}{st:Stmt}{ps:List Str}(hl:ps.length=5:=by rfl)(h:∀u0 u1 u2 u3 u4:Value,BA n q st ps [u0,u1,u2,u3,u4]:=by exact fun _ _ _ _ _ _ _ _ _ _ _=>rfl):BZ n q st ps:=fun us e=>match us,e.trans hl with | [_,_,_,_,_],_=>h _ _ _ _ _
section
variable(K:Bq)
def FX(n q:Str)(st:Stmt)(f:Addr):Prop:=∃oc od kV dc pm an cd ct sl,K.lookup f=some ⟨oc,od,.func (PySem.W.fnOf n q (defArgs st) (defBody st) (defScope st) .none kV dc pm an cd ct),sl⟩∧PySem.W.codeIn K cd q=true∧PySem.W.keepIn K (.ref f)=true
def FD(n:Str)(st:Stmt)(f:Addr):Prop:=PySem.W.nsIn K mainGlobals n=some (some (.ref f))∧FX K n n st f
def FE(g n:Str)(st:Stmt)(f:Addr):Prop:=PySem.W.nsIn K mainGlobals g=some (some (.ref f))∧FX K n n st f
def FM(n q:Str)(st:Stmt)(f:Addr):Prop:=PySem.W.isFn K (.ref f)=true∧FX K n q st f
def Fi(C:Addr)(n:Str)(f:Addr):Prop:=PySem.W.findIn K (.ref C) n=some (some (.ref f))
def Ki(C D:Addr)(b:Bool):Prop:=PySem.W.kitOne K (.ref C) (.ref D)=some b
def Gc(n:Str)(C:Addr):Prop:=PySem.W.nsIn K mainGlobals n=some (some (.ref C))
def Gs(n y:Str)(t:Tok):Prop:=PySem.W.nsIn K mainGlobals n=some (some (.str y t))
def Zn(n:Str):Prop:=PySem.W.nsIn K mainGlobals n=some none
structure ClR(C:Addr)(x:Str):Prop where
 cls:Cls K C
 mks:PySem.W.makesIn K C=true
 kc:PySem.W.keepIn K (.ref C)=true
 na:PySem.W.findIn K (.ref C) x=some none
structure IR(C:Addr):Prop where
 ia:PySem.W.findIn K (.ref C) "__class__"=some (some (.builtin "object.__class__"))
 im:PySem.W.mroIn K C (.type "object")=some true
variable{K}{n q:Str}{st:Stmt}{f:Addr}
def FX.mk{oc od kV dc pm an cd ct sl}(l:K.lookup f=some ⟨oc,od,.func (PySem.W.fnOf n q (defArgs st) (defBody st) (defScope st) .none kV dc pm an cd ct),sl⟩)(c:PySem.W.codeIn K cd q=true)(k:PySem.W.keepIn K (.ref f)=true):FX K n q st f:=⟨_,_,_,_,_,_,_,_,_,l,c,k⟩
def FX.get(r:FX K n q st f)(ps:List Str)(h:BZ n q st ps):∃fd,Fun K n q st f fd∧Binds K fd ps []:=
 let⟨_,_,_,_,_,_,_,_,_,l,c,k⟩:=r; ⟨_,eQ l c k,(eQ l c k).binds fun a b c d e f us z=>h us z a b c d e f⟩
def FD.get(r:FD K n st f){h:Heap}{mg:be}(X:K.In h)(G:h.Ns mainGlobals mg)(ps:List Str)(h:BZ n n st ps):∃fd,mg n=some (.ref f)∧Fun K n n st f fd∧Binds K fd ps []:=
 let⟨fd,F,b⟩:=r.2.get ps h; ⟨fd,PySem.W.mg_of X G r.1,F,b⟩
def FE.get{g:Str}(r:FE K g n st f){h:Heap}{mg:be}(X:K.In h)(G:h.Ns mainGlobals mg)(ps:List Str)(h:BZ n n st ps):∃fd,mg g=some (.ref f)∧Fun K n n st f fd∧Binds K fd ps []:=
 let⟨fd,F,b⟩:=r.2.get ps h; ⟨fd,PySem.W.mg_of X G r.1,F,b⟩
def mkr(l:PySem.W.OpenLaw)(w:World)(base:Heap){mg:be}{C:Addr}{k:Nat}{fd:FuncData}{ps:List Str}{S:DSp}(c:Cls K C)(a:Fi K C n f)(r:FM K n q st f)(F:Fun K n q st f fd)(b:Binds K fd ps [])(o:FnOk l.prog w K mg base CX0 k f fd ps (zw K S)):MOk l.prog w K mg base k C n S:=.mk c ⟨_,_,_,⟨a,r.1,F.kp⟩,b,o⟩
def bR(l:PySem.W.OpenLaw)(w:World)(base:Heap){mg:be}{C:Addr}{k:Nat}{fd:FuncData}{ps:List Str}{S:DSp}(c:Cls K C)(a:Fi K C n f)(r:FM K n q st f)(F:Fun K n q st f fd)(b:Binds K fd ps [])(o:FnOk l.prog w K mg base CX0 k f fd ps (zZ K S)):FMOk l.prog w K mg base k C n S:=.mk c ⟨_,_,_,⟨a,r.1,F.kp⟩,b,o⟩
def FM.get(r:FM K n q st f)(ps:List Str)(h:BZ n q st ps):∃fd,Fun K n q st f fd∧Binds K fd ps []:=r.2.get ps h
end
theorem all_mk{l:PySem.W.OpenLaw}{w:World}{K:Bq}{h:Heap}{mg:be}{fa:Addr}(X:K.In h)(G:h.Ns mainGlobals mg)(hfa:mg "law"=some (.ref fa))
 {H_ HY Ga Gb H0 HZ f1 f2 f3 f4 f5 f6 f7 f8 f9 f10 f11 f12 f13 f14 f15 f16 f17 f18 f19 f20 f21 f22 f23 f24 f25 f26 f27 f28 f29 f30 f31 f32 f33 f34 f35 f36 f37 f38 f39 f40 f41 f42 f43 f44 f45 f46 f47 f48 f49 f50 f51 f52 f53 f54 f55 f56 f57 f58 f59 f60 f61 f62 f63 f64 f65 f66 f67 f68 f69 f70 f71 f72 f73 f74 f75 f76 f77 f78 f79 f80 f81 f82 f83 f84 f85 f86 f87 f88 f89 f90 f91 f92 f93 f94 f95 f96 f97 f98 f99 f100 f101 f102 f103 f104 f105 f106 f107 f108 D_COUNTS:Addr} {t_FIGURES tk_COUNTS_0 tk_COUNTS_1 tk_COUNTS_2 tk_COUNTS_3 tk_COUNTS_4 tk_COUNTS_5 tk_COUNTS_6 tk_COUNTS_7 tv_COUNTS_0 tv_COUNTS_1 tv_COUNTS_2 tv_COUNTS_3 tv_COUNTS_4 tv_COUNTS_5 tv_COUNTS_6 tv_COUNTS_7 ep_COUNTS:Tok}
 (prm:(Gc K "Plain" H_∧
 Gc K "Below" HY∧
 Gc K "Balanced" Ga∧
 Gc K "Growing" Gb∧
 Gc K "Falling" H0∧
 Gc K "Pairs" HZ∧
 FD K "_law_way" qg f1∧
 FD K "_law_low" qi f2∧
 FD K "_law_high" sw f3∧
 FD K "_law_drawn" uC f4∧
 FD K "_law_some" vK f5∧
 FD K "_law_number" vL f6∧
 FD K "_law_whole_of" wm f7)∧
 (FD K "_law_is_writing" xy f8∧
 FD K "_law_row_of" xV f9∧
 FD K "_law_falling_worth" yT f10∧
 FD K "_law_worth" uy f11∧
 FD K "_law_tells" uz f12∧
 FD K "words_of" sf f13∧
 FE K "has_figures_alone_texts" "has_figures_alone" yj f14∧
 FD K "whole_read" vE f15∧
 FD K "is_whole" sx f16∧
 FD K "bounded" qm f17∧
 Fi K H_ "__init__" f18∧
 FM K "__init__" "Plain.__init__" xW f18∧
 Fi K HY "__init__" f19)∧
 (FM K "__init__" "Below.__init__" xY f19∧
 Fi K Ga "__init__" f20∧
 FM K "__init__" "Balanced.__init__" y4 f20∧
 Fi K Gb "__init__" f21∧
 FM K "__init__" "Growing.__init__" xl f21∧
 Fi K H0 "__init__" f22∧
 FM K "__init__" "Falling.__init__" xn f22∧
 Fi K HZ "__init__" f23∧
 FM K "__init__" "Pairs.__init__" xX f23∧
 FD K "way_made" sj f24∧
 FD K "way_read" si f25∧
 FD K "whole_shown" xE f26∧
 FD K "row_shown" wT f27)∧
 (FD K "trimmed" qc f28∧
 FD K "as_pair" qo f29∧
 FD K "added" l9 f30∧
 FD K "multiplied" vJ f31∧
 Fi K H_ "nought" f32∧
 Fi K HY "nought" f32∧
 Fi K Ga "nought" f32∧
 Fi K Gb "nought" f32∧
 Fi K H0 "nought" f32∧
 FM K "nought" "Way.nought" vN f32∧
 Fi K HZ "nought" f33∧
 FM K "nought" "Pairs.nought" wr f33∧
 Fi K H_ "ratio" f34)∧
 (FM K "ratio" "Plain.ratio" wZ f34∧
 Fi K HY "ratio" f35∧
 FM K "ratio" "Below.ratio" w_ f35∧
 Fi K Ga "ratio" f36∧
 FM K "ratio" "Balanced.ratio" xz f36∧
 Fi K Gb "ratio" f37∧
 FM K "ratio" "Growing.ratio" xP f37∧
 Fi K HZ "ratio" f38∧
 FM K "ratio" "Pairs.ratio" w9 f38∧
 Fi K H_ "weights" f39∧
 Fi K HY "weights" f39∧
 Fi K Ga "weights" f39∧
 Fi K Gb "weights" f39)∧
 (Fi K HZ "weights" f39∧
 FM K "weights" "Way.weights" wY f39∧
 Fi K H0 "weights" f40∧
 FM K "weights" "Falling.weights" xm f40∧
 FD K "written_by_weights" yK f41∧
 FD K "thing_at" sr f42∧
 Fi K H_ "has" f43∧
 Fi K Gb "has" f43∧
 Fi K H0 "has" f43∧
 FM K "has" "Way.has" qr f43∧
 Fi K HY "has" f44∧
 FM K "has" "Below.has" uH f44∧
 Fi K Ga "has" f45)∧
 (FM K "has" "Balanced.has" wy f45∧
 FD K "is_pair" qk f46∧
 Fi K HZ "has" f47∧
 FM K "has" "Pairs.has" uG f47∧
 Fi K H_ "low" f48∧
 Fi K HY "low" f48∧
 Fi K Gb "low" f48∧
 Fi K H0 "low" f48∧
 Fi K HZ "low" f48∧
 FM K "low" "Way.low" qp f48∧
 Fi K Ga "low" f49∧
 FM K "low" "Balanced.low" wx f49∧
 Fi K H_ "high" f50)∧
 (FM K "high" "Plain.high" vO f50∧
 Fi K HY "high" f51∧
 FM K "high" "Below.high" vQ f51∧
 Fi K Ga "high" f52∧
 FM K "high" "Balanced.high" xQ f52∧
 Fi K Gb "high" f53∧
 FM K "high" "Growing.high" wu f53∧
 Fi K H0 "high" f54∧
 FM K "high" "Falling.high" ww f54∧
 Fi K HZ "high" f55∧
 FM K "high" "Pairs.high" vP f55∧
 Fi K H_ "split" f56∧
 Fi K HY "split" f56)∧
 (Fi K Ga "split" f56∧
 Fi K Gb "split" f56∧
 FM K "split" "Way.split" uF f56∧
 Fi K HZ "split" f57∧
 FM K "split" "Pairs.split" w8 f57∧
 FD K "figures_and_carries" yE f58∧
 FD K "settled" qe f59∧
 FD K "written" qa f60∧
 FD K "number_read" wX f61∧
 FD K "number_shown" wj f62∧
 FD K "worth" lZ f63∧
 FD K "has_mosts_above_noughts_alone" z7 f64∧
 FE K "has_figures_alone_writings" "has_figures_alone" yd f65)∧
 (FD K "is_writing" vM f66∧
 FD K "held_to_be_writings" yD f67∧
 FD K "quotients_in_falling" yA f68∧
 FD K "quotients_by_ratio" yL f69∧
 FD K "quotients_and_rest" yM f70∧
 FD K "held_to_be_a_heap" yU f71∧
 FD K "step_at" qd f72∧
 FD K "how_often" uD f73∧
 FD K "changes" ql f74∧
 FD K "do_steps" sy f75∧
 FD K "steps_and_writing" yS f76∧
 FD K "fallen" oS f77∧
 FD K "written_row" wW f78)∧
 (FD K "shared" oQ f79∧
 FD K "share_said" vF f80∧
 FD K "as_wanted" uE f81∧
 FD K "moved" l7 f82∧
 FD K "row_plus" vH f83∧
 FD K "plus" fC f84∧
 FD K "row_times" wS f85∧
 FD K "lend" fD f86∧
 FD K "lender_above" wk f87∧
 FD K "without_debts" xO f88∧
 FD K "minus" l8 f89∧
 FD K "times_in_falling" y9 f90∧
 FD K "times_by_ratio" xw f91)∧
 (FD K "times" l4 f92∧
 FD K "parting" qf f93∧
 FD K "order" l5 f94∧
 FD K "order_said" vI f95∧
 FD K "reckoning_said" xx f96∧
 FD K "row_read" vG f97∧
 FD K "writing_said" wg f98∧
 FD K "said" fB f99∧
 FD K "_law_number_text" xk f100∧
 FD K "_law_shown" wU f101∧
 FD K "_law_due" qj f102∧
 FD K "_law_two" qh f103∧
 FD K "_law_move" su f104)∧
 (FD K "_law_order" uB f105∧
 FD K "_law_share" uA f106∧
 FD K "_law_answered" wo f107∧
 FD K "law" oR f108∧
 ClR K H_ "base"∧
 ClR K HY "base"∧
 ClR K Ga "half"∧
 ClR K Gb "first"∧
 ClR K H0 "most"∧
 ClR K HZ "most"∧
 IR K H_∧
 Ki K H_ H0 false∧
 Ki K H_ HZ false)∧
 (Ki K H_ HY false∧
 IR K HY∧
 Ki K HY H0 false∧
 Ki K HY HZ false∧
 Ki K HY HY true∧
 IR K Ga∧
 Ki K Ga H0 false∧
 Ki K Ga HZ false∧
 Ki K Ga HY false∧
 IR K Gb∧
 Ki K Gb H0 false∧
 Ki K Gb HZ false∧
 Ki K Gb HY false)∧
 (IR K H0∧
 Ki K H0 H0 true∧
 Ki K H0 HZ false∧
 Ki K H0 HY false∧
 IR K HZ∧
 Ki K HZ H0 false∧
 Ki K HZ HZ true∧
 Ki K HZ HY false∧
 (PySem.W.specialIn K (.builtin "object.__class__") "__get__"=some (some (.builtin "getset_descriptor.__get__")))∧
 (PySem.W.takesIn K (.builtin "object.__class__")=some true)∧
 Gs K "FIGURES" "0123456789" t_FIGURES∧
 Gc K "COUNTS" D_COUNTS∧
 (K.lookup D_COUNTS=some ⟨.type "dict",none,.dict #[⟨PyData.keyHash w.params "write",.str "write" tk_COUNTS_0,.int 3 tv_COUNTS_0⟩,⟨PyData.keyHash w.params "worth",.str "worth" tk_COUNTS_1,.int 3 tv_COUNTS_1⟩,⟨PyData.keyHash w.params "plus",.str "plus" tk_COUNTS_2,.int 4 tv_COUNTS_2⟩,⟨PyData.keyHash w.params "minus",.str "minus" tk_COUNTS_3,.int 4 tv_COUNTS_3⟩,⟨PyData.keyHash w.params "times",.str "times" tk_COUNTS_4,.int 4 tv_COUNTS_4⟩,⟨PyData.keyHash w.params "share",.str "share" tk_COUNTS_5,.int 4 tv_COUNTS_5⟩,⟨PyData.keyHash w.params "order",.str "order" tk_COUNTS_6,.int 4 tv_COUNTS_6⟩,⟨PyData.keyHash w.params "move",.str "move" tk_COUNTS_7,.int 4 tv_COUNTS_7⟩] ep_COUNTS,#[]⟩))∧
 (((D_COUNTS==sysModules)=false)∧
 Zn K "isinstance"∧
 Zn K "int"∧
 Zn K "bool"∧
 Zn K "tuple"∧
 Zn K "list"∧
 Zn K "len"∧
 Zn K "range"∧
 Zn K "zip"∧
 Zn K "enumerate"∧
 Zn K "reversed"∧
 Zn K "min"∧
 Zn K "max")∧
 (Zn K "str")):
 ∃fd:FuncData,(∀(s:Shared)(v:Value),BindsTo s fd ⟨[v],[]⟩ [("_law_script",v)])∧∀base:Heap,K.In base→base.Ns mainGlobals mg→FnOk l.prog w K mg base CX0 15 fa fd ["_law_script"] (zw K (cZ)):=by
 obtain⟨⟨Fc,GY,Fd,Fe,GZ,G0,r1,r2,r3,r4,r5,r6,r7⟩,⟨r8,r9,r10,r11,r12,r13,r14,r15,r16,r17,Ff,r18,Fg⟩,⟨r19,Fh,r20,Fj,r21,Fk,r22,Fl,r23,r24,r25,r26,r27⟩,⟨r28,r29,r30,r31,Fm,Fn,Fo,Fp,Fq,r32,Fs,r33,Ft⟩,⟨r34,Fu,r35,Fv,r36,Fw,r37,Fx,r38,Fy,Fz,FA,FB⟩,⟨FC,r39,FF,r40,r41,r42,FG,FH,FI,r43,FJ,r44,FK⟩,⟨r45,r46,FL,r47,FN,FO,FP,FQ,FR,r48,FS,r49,FT⟩,⟨r50,FU,r51,FV,r52,FW,r53,FY,r54,FZ,r55,F0,F_⟩,⟨Ea,Eb,r56,Ec,r57,r58,r59,r60,r61,r62,r63,r64,r65⟩,⟨r66,r67,r68,r69,r70,r71,r72,r73,r74,r75,r76,r77,r78⟩,⟨r79,r80,r81,r82,r83,r84,r85,r86,r87,r88,r89,r90,r91⟩,⟨r92,r93,r94,r95,r96,r97,r98,r99,r100,r101,r102,r103,r104⟩,⟨r105,r106,r107,r108,Gm,Gn,Go,Gp,Gq,Gr,G1,GA,GB⟩,⟨GC,G2,GD,GE,GF,G3,GG,GH,GI,G4,GJ,GK,GL⟩,⟨G5,Gv,GM,GN,G6,GO,GP,GQ,in_,it_,g_FIGURES,gD_COUNTS,lD_COUNTS⟩,⟨sD_COUNTS,z_isinstance,z_int,z_bool,z_tuple,z_list,z_len,z_range,z_zip,z_enumerate,z_reversed,z_min,z_max⟩,z_str⟩:=prm
 have mn {n:Str} (z:Zn K n):=PySem.W.mg_none_of X G z
 have mo {n:Str} {C:Addr} (z:Gc K n C):=PySem.W.mg_of X G z
 let A:Adr:=⟨H_,HY,Ga,Gb,H0,HZ⟩
 have T:Txt K mg A:=⟨Hf K,mn z_isinstance,mn z_int,mn z_bool,mn z_tuple,mn z_list,mn z_len,mn z_range,mn z_zip,mn z_enumerate,mn z_reversed,mn z_min,mn z_max,mn z_str,⟨_,PySem.W.mg_of X G g_FIGURES⟩,Gm.cls,Gm.na,Gn.cls,Gn.na,Go.cls,Go.na,Gp.cls,Gp.na,Gq.cls,Gq.na,Gr.cls,Gr.na,mo GZ,mo G0,mo GY,⟨Gm.cls,G1.1,in_,it_,G1.2⟩,GA,GB,GC,⟨Gn.cls,G2.1,in_,it_,G2.2⟩,GD,GE,GF,⟨Go.cls,G3.1,in_,it_,G3.2⟩,GG,GH,GI,⟨Gp.cls,G4.1,in_,it_,G4.2⟩,GJ,GK,GL,⟨Gq.cls,G5.1,in_,it_,G5.2⟩,Gv,GM,GN,⟨Gr.cls,G6.1,in_,it_,G6.2⟩,GO,GP,GQ⟩
 have GD_COUNTS:GDi l.prog w K mg "COUNTS" [("write",3),("worth",3),("plus",4),("minus",4),("times",4),("share",4),("order",4),("move",4)]:=GDi.of [("write",tk_COUNTS_0,3,tv_COUNTS_0),("worth",tk_COUNTS_1,3,tv_COUNTS_1),("plus",tk_COUNTS_2,4,tv_COUNTS_2),("minus",tk_COUNTS_3,4,tv_COUNTS_3),("times",tk_COUNTS_4,4,tv_COUNTS_4),("share",tk_COUNTS_5,4,tv_COUNTS_5),("order",tk_COUNTS_6,4,tv_COUNTS_6),("move",tk_COUNTS_7,4,tv_COUNTS_7)] (mo gD_COUNTS) lD_COUNTS sD_COUNTS (show(["write","worth","plus","minus","times","share","order","move"]:List Str).Nodup by decide +kernel)
 obtain⟨_,m1,F1,b1⟩:=r1.get X G ["_law_cell"] bz1
 obtain⟨_,m2,F2,b2⟩:=r2.get X G ["_law_way_here"] bz1
 obtain⟨_,m3,F3,b3⟩:=r3.get X G ["_law_way_here","_law_place"] bz2
 obtain⟨_,m4,F4,b4⟩:=r4.get X G ["_law_way_here","_law_cells"] bz2
 obtain⟨_,m5,F5,b5⟩:=r5.get X G ["_law_way_here","_law_cell","_law_salt"] bz3
 obtain⟨_,m6,F6,b6⟩:=r6.get X G ["_law_way_here","_law_cell"] bz2
 obtain⟨_,m7,F7,b7⟩:=r7.get X G ["_law_text"] bz1
 obtain⟨_,m8,F8,b8⟩:=r8.get X G ["_law_way_here","_law_row"] bz2
 obtain⟨_,m9,F9,b9⟩:=r9.get X G ["_law_way_here","_law_text"] bz2
 obtain⟨_,m10,F10,b10⟩:=r10.get X G ["_law_most","_law_row"] bz2
 obtain⟨_,m11,F11,b11⟩:=r11.get X G ["_law_way_here","_law_row"] bz2
 obtain⟨_,m12,F12,b12⟩:=r12.get X G ["_law_way_here","_law_text","_law_number_here"] bz3
 obtain⟨_,m13,F13,b13⟩:=r13.get X G ["row"] bz1
 obtain⟨_,m14,F14,b14⟩:=r14.get X G ["text"] bz1
 obtain⟨_,m15,F15,b15⟩:=r15.get X G ["text"] bz1
 obtain⟨_,m16,F16,b16⟩:=r16.get X G ["value"] bz1
 obtain⟨_,m17,F17,b17⟩:=r17.get X G ["number","least","most"] bz3
 obtain⟨_,F18,b18⟩:=r18.get ["self","base"] bz2
 obtain⟨_,F19,b19⟩:=r19.get ["self","base"] bz2
 obtain⟨_,F20,b20⟩:=r20.get ["self","half"] bz2
 obtain⟨_,F21,b21⟩:=r21.get ["self","first"] bz2
 obtain⟨_,F22,b22⟩:=r22.get ["self","most"] bz2
 obtain⟨_,F23,b23⟩:=r23.get ["self","most"] bz2
 obtain⟨_,m24,F24,b24⟩:=r24.get X G ["name","number"] bz2
 obtain⟨_,m25,F25,b25⟩:=r25.get X G ["text"] bz1
 obtain⟨_,m26,F26,b26⟩:=r26.get X G ["number"] bz1
 obtain⟨_,m27,F27,b27⟩:=r27.get X G ["row"] bz1
 obtain⟨_,m28,F28,b28⟩:=r28.get X G ["row"] bz1
 obtain⟨_,m29,F29,b29⟩:=r29.get X G ["number"] bz1
 obtain⟨_,m30,F30,b30⟩:=r30.get X G ["one","other"] bz2
 obtain⟨_,m31,F31,b31⟩:=r31.get X G ["one","other"] bz2
 obtain⟨_,F32,b32⟩:=r32.get ["self"] bz1
 obtain⟨_,F33,b33⟩:=r33.get ["self"] bz1
 obtain⟨_,F34,b34⟩:=r34.get ["self","place"] bz2
 obtain⟨_,F35,b35⟩:=r35.get ["self","place"] bz2
 obtain⟨_,F36,b36⟩:=r36.get ["self","place"] bz2
 obtain⟨_,F37,b37⟩:=r37.get ["self","place"] bz2
 obtain⟨_,F38,b38⟩:=r38.get ["self","place"] bz2
 obtain⟨_,F39,b39⟩:=r39.get ["self","many"] bz2
 obtain⟨_,F40,b40⟩:=r40.get ["self","many"] bz2
 obtain⟨_,m41,F41,b41⟩:=r41.get X G ["way","number"] bz2
 obtain⟨_,m42,F42,b42⟩:=r42.get X G ["row","place"] bz2
 obtain⟨_,F43,b43⟩:=r43.get ["self","number"] bz2
 obtain⟨_,F44,b44⟩:=r44.get ["self","number"] bz2
 obtain⟨_,F45,b45⟩:=r45.get ["self","number"] bz2
 obtain⟨_,m46,F46,b46⟩:=r46.get X G ["value"] bz1
 obtain⟨_,F47,b47⟩:=r47.get ["self","number"] bz2
 obtain⟨_,F48,b48⟩:=r48.get ["self","place"] bz2
 obtain⟨_,F49,b49⟩:=r49.get ["self","place"] bz2
 obtain⟨_,F50,b50⟩:=r50.get ["self","place"] bz2
 obtain⟨_,F51,b51⟩:=r51.get ["self","place"] bz2
 obtain⟨_,F52,b52⟩:=r52.get ["self","place"] bz2
 obtain⟨_,F53,b53⟩:=r53.get ["self","place"] bz2
 obtain⟨_,F54,b54⟩:=r54.get ["self","place"] bz2
 obtain⟨_,F55,b55⟩:=r55.get ["self","place"] bz2
 obtain⟨_,F56,b56⟩:=r56.get ["self","total","place"] bz3
 obtain⟨_,F57,b57⟩:=r57.get ["self","total","place"] bz3
 obtain⟨_,m58,F58,b58⟩:=r58.get X G ["way","totals"] bz2
 obtain⟨_,m59,F59,b59⟩:=r59.get X G ["way","totals"] bz2
 obtain⟨_,m60,F60,b60⟩:=r60.get X G ["way","number"] bz2
 obtain⟨_,m61,F61,b61⟩:=r61.get X G ["text"] bz1
 obtain⟨_,m62,F62,b62⟩:=r62.get X G ["number"] bz1
 obtain⟨_,m63,F63,b63⟩:=r63.get X G ["way","row"] bz2
 obtain⟨_,m64,F64,b64⟩:=r64.get X G ["way","row"] bz2
 obtain⟨_,m65,F65,b65⟩:=r65.get X G ["way","row"] bz2
 obtain⟨_,m66,F66,b66⟩:=r66.get X G ["way","row"] bz2
 obtain⟨_,m67,F67,b67⟩:=r67.get X G ["way","rows"] bz2
 obtain⟨_,m68,F68,b68⟩:=r68.get X G ["way","row","many"] bz3
 obtain⟨_,m69,F69,b69⟩:=r69.get X G ["way","row","many"] bz3
 obtain⟨_,m70,F70,b70⟩:=r70.get X G ["way","row","many"] bz3
 obtain⟨_,m71,F71,b71⟩:=r71.get X G ["way","heap"] bz2
 obtain⟨_,m72,F72,b72⟩:=r72.get X G ["way","heap","place"] bz3
 obtain⟨_,m73,F73,b73⟩:=r73.get X G ["way","heap","step"] bz3
 obtain⟨_,m74,F74,b74⟩:=r74.get X G ["way","step"] bz2
 obtain⟨_,m75,F75,b75⟩:=r75.get X G ["way","heap","step","many"] bz4
 obtain⟨_,m76,F76,b76⟩:=r76.get X G ["way","heap"] bz2
 obtain⟨_,m77,F77,b77⟩:=r77.get X G ["way","heap"] bz2
 obtain⟨_,m78,F78,b78⟩:=r78.get X G ["way","row"] bz2
 obtain⟨_,m79,F79,b79⟩:=r79.get X G ["way","row","many"] bz3
 obtain⟨_,m80,F80,b80⟩:=r80.get X G ["way","writing","many"] bz3
 obtain⟨_,m81,F81,b81⟩:=r81.get X G ["way","number"] bz2
 obtain⟨_,m82,F82,b82⟩:=r82.get X G ["way","row","other"] bz3
 obtain⟨_,m83,F83,b83⟩:=r83.get X G ["one","other"] bz2
 obtain⟨_,m84,F84,b84⟩:=r84.get X G ["way","one","other"] bz3
 obtain⟨_,m85,F85,b85⟩:=r85.get X G ["row","factor"] bz2
 obtain⟨_,m86,F86,b86⟩:=r86.get X G ["way","row","lender"] bz3
 obtain⟨_,m87,F87,b87⟩:=r87.get X G ["row","place"] bz2
 obtain⟨_,m88,F88,b88⟩:=r88.get X G ["way","row"] bz2
 obtain⟨_,m89,F89,b89⟩:=r89.get X G ["way","one","other"] bz3
 obtain⟨_,m90,F90,b90⟩:=r90.get X G ["way","one","other"] bz3
 obtain⟨_,m91,F91,b91⟩:=r91.get X G ["way","one","other"] bz3
 obtain⟨_,m92,F92,b92⟩:=r92.get X G ["way","one","other"] bz3
 obtain⟨_,m93,F93,b93⟩:=r93.get X G ["one","other"] bz2
 obtain⟨_,m94,F94,b94⟩:=r94.get X G ["way","one","other"] bz3
 obtain⟨_,m95,F95,b95⟩:=r95.get X G ["way","one","other"] bz3
 obtain⟨_,m96,F96,b96⟩:=r96.get X G ["asked","way","one","other"] bz4
 obtain⟨_,m97,F97,b97⟩:=r97.get X G ["way","text"] bz2
 obtain⟨_,m98,F98,b98⟩:=r98.get X G ["words","way","writing"] bz3
 obtain⟨_,m99,F99,b99⟩:=r99.get X G ["row"] bz1
 obtain⟨_,m100,F100,b100⟩:=r100.get X G ["_law_number_here"] bz1
 obtain⟨_,m101,F101,b101⟩:=r101.get X G ["_law_row"] bz1
 obtain⟨_,m102,F102,b102⟩:=r102.get X G ["_law_word","_law_way_here","_law_one","_law_other"] bz4
 obtain⟨_,m103,F103,b103⟩:=r103.get X G ["_law_word","_law_way_here","_law_head","_law_one","_law_other"] bz5
 obtain⟨_,m104,F104,b104⟩:=r104.get X G ["_law_way_here","_law_head","_law_one","_law_cell"] bz4
 obtain⟨_,m105,F105,b105⟩:=r105.get X G ["_law_way_here","_law_head","_law_one","_law_other"] bz4
 obtain⟨_,m106,F106,b106⟩:=r106.get X G ["_law_way_here","_law_head","_law_one","_law_many"] bz4
 obtain⟨_,m107,F107,b107⟩:=r107.get X G ["_law_cell"] bz1
 obtain⟨a108,_,_,kV,dc,pm,an,cd,ct,_,l108,c108,k108⟩:=r108
 cases hfa.symm.trans (PySem.W.mg_of X G a108)
 have F108:=eQ (st:=oR) l108 c108 k108
 refine⟨PySem.W.fnOf "law" "law" (defArgs oR) (defBody oR) (defScope oR) .none kV dc pm an cd ct,fun s v=>.of_eq rfl,fun base _ _=>?_⟩
 have Bj:=DOk.mk' F1 m1 b1 (fU (P:=l.prog) (w:=w) (base:=base) T F1)
 have Au:=DOk.mk' F2 m2 b2 (fW (P:=l.prog) (w:=w) (base:=base) T F2)
 have Av:=DOk.mk' F3 m3 b3 (ik (P:=l.prog) (w:=w) (base:=base) T F3)
 have AH:=FOk.mk' F4 m4 b4 (kz T Au Av F4)
 have AF:=FOk.mk' F5 m5 b5 (ii T AH F5)
 have Bk:=DOk.mk' F6 m6 b6 (mh (P:=l.prog) (w:=w) (base:=base) T F6)
 have Aw:=DOk.mk' F7 m7 b7 (pO (P:=l.prog) (w:=w) (base:=base) T F7)
 have AI:=DOk.mk' F8 m8 b8 (rh T Au Av F8)
 have Ax:=DOk.mk' F9 m9 b9 (mf T Aw AI F9)
 have AJ:=DOk.mk' F10 m10 b10 (uM (P:=l.prog) (w:=w) (base:=base) T F10)
 have Ab:=DOk.mk' F11 m11 b11 (kr T AJ F11)
 have As:=DOk.mk' F12 m12 b12 (ku T Ax Ab F12)
 have Bf:=FOk.mk' F13 m13 b13 (j5 (P:=l.prog) (w:=w) (base:=base) T GD_COUNTS F13)
 have AK:DOk l.prog w K mg base 1 "has_figures_alone_texts" (jw):=⟨_,_,_,m14,F14.kp,b14,wA (P:=l.prog) (w:=w) (base:=base) T F14⟩
 have Ak:=DOk.mk' F15 m15 b15 (n8 T AK F15)
 have Aa:=DOk.mk' F16 m16 b16 (io (P:=l.prog) (w:=w) (base:=base) T F16)
 have Ac:=DOk.mk' F17 m17 b17 (f_ T Aa F17)
 have GR:KOk l.prog w K mg base 3 "Plain" A.Plain "base" (Kd.ok .plain):=⟨_,_,_,mo Fc,⟨Gm.mks,Ff,r18.1,Gm.kc⟩,b18,mj T Ac F18⟩
 have GS:KOk l.prog w K mg base 3 "Below" A.Below "base" (Kd.ok .below):=⟨_,_,_,mo GY,⟨Gn.mks,Fg,r19.1,Gn.kc⟩,b19,mr T Ac F19⟩
 have GT:KOk l.prog w K mg base 3 "Balanced" A.Balanced "half" (Kd.ok .balanced):=⟨_,_,_,mo Fd,⟨Go.mks,Fh,r20.1,Go.kc⟩,b20,qB T Ac F20⟩
 have GU:KOk l.prog w K mg base 3 "Growing" A.Growing "first" (Kd.ok .growing):=⟨_,_,_,mo Fe,⟨Gp.mks,Fj,r21.1,Gp.kc⟩,b21,pR T Ac F21⟩
 have GV:KOk l.prog w K mg base 3 "Falling" A.Falling "most" (Kd.ok .falling):=⟨_,_,_,mo GZ,⟨Gq.mks,Fk,r22.1,Gq.kc⟩,b22,pT T Ac F22⟩
 have GW:KOk l.prog w K mg base 3 "Pairs" A.Pairs "most" (Kd.ok .pairs):=⟨_,_,_,mo G0,⟨Gr.mks,Fl,r23.1,Gr.kc⟩,b23,mm T Ac F23⟩
 have AL:=DOk.mk' F24 m24 b24 (j7 T GR GS GT GU GV GW F24)
 have AD:=DOk.mk' F25 m25 b25 (j6 T Ak AL F25)
 have Ao:=DOk.mk' F26 m26 b26 (qz (P:=l.prog) (w:=w) (base:=base) T F26)
 have Ao:=DOk.mk' F26 m26 b26 (oZ (P:=l.prog) (w:=w) (base:=base) T Ao F26)
 have Am:=DOk.mk' F27 m27 b27 (ko T Ao F27)
 have Aq:=FOk.mk' F28 m28 b28 (fP (P:=l.prog) (w:=w) (base:=base) T F28)
 have Al:=DOk.mk' F29 m29 b29 (eh T Aa F29)
 have Ag:=DOk.mk' F30 m30 b30 (Zv T Aa Al F30)
 have Ah:=DOk.mk' F31 m31 b31 (md T Aa Al F31)
 have Ed:=mkr l w base T.Ge Fm r32 F32 b32 (yY T F32)
 have Ee:=mkr l w base T.Gf Fn r32 F32 b32 (yY T F32)
 have Ef:=mkr l w base T.Gd Fo r32 F32 b32 (yY T F32)
 have Eg:=mkr l w base T.Gg Fp r32 F32 b32 (yY T F32)
 have Eh:=mkr l w base T.HX Fq r32 F32 b32 (yY T F32)
 have Ei:=mkr l w base T.H9 Fs r33 F33 b33 (pQ T F33)
 have HNo:∀k:Kd,MOk l.prog w K mg base 1 (A.at k) "nought" (Wh k):=fun k=>match k with
  | .plain=>Ed|.below=>Ee|.balanced=>Ef|.growing=>Eg|.falling=>Eh|.pairs=>Ei
 have Ej:=mkr l w base T.Ge Ft r34 F34 b34 (o3 T F34)
 have Ek:=mkr l w base T.Gf Fu r35 F35 b35 (o8 T F35)
 have El:=mkr l w base T.Gd Fv r36 F36 b36 (rj T F36)
 have Em:=mkr l w base T.Gg Fw r37 F37 b37 (qA T F37)
 have En:=mkr l w base T.H9 Fx r38 F38 b38 (o7 T F38)
 have HR:∀k:Kd,k.five=true→MOk l.prog w K mg base 1 (A.at k) "ratio" (vf A k (k.ratN)):=fun k hk=>match k,hk with
  | .plain,_=>Ej
  | .below,_=>Ek
  | .balanced,_=>El
  | .growing,_=>Em
  | .pairs,_=>En
 have Eo:=bR l w base T.Ge Fy r39 F39 b39 (yN T Ag Ah HNo HR F39)
 have Ep:=bR l w base T.Gf Fz r39 F39 b39 (yN T Ag Ah HNo HR F39)
 have Er:=bR l w base T.Gd FA r39 F39 b39 (yN T Ag Ah HNo HR F39)
 have Es:=bR l w base T.Gg FB r39 F39 b39 (yN T Ag Ah HNo HR F39)
 have Et:=bR l w base T.H9 FC r39 F39 b39 (yN T Ag Ah HNo HR F39)
 have Eu:=bR l w base T.HX FF r40 F40 b40 (sE T F40)
 have HW:∀k:Kd,FMOk l.prog w K mg base 4 (A.at k) "weights" (Yv A k):=fun k=>match k with
  | .plain=>(Eo.imp fun ds Q ⟨n,m,e,a,b,c,q⟩=>⟨.plain,n,m,e,rfl,a,b,c,q⟩).mono (by decide)
  | .below=>(Ep.imp fun ds Q ⟨n,m,e,a,b,c,q⟩=>⟨.below,n,m,e,rfl,a,b,c,q⟩).mono (by decide)
  | .balanced=>(Er.imp fun ds Q ⟨n,m,e,a,b,c,q⟩=>⟨.balanced,n,m,e,rfl,a,b,c,q⟩).mono (by decide)
  | .growing=>(Es.imp fun ds Q ⟨n,m,e,a,b,c,q⟩=>⟨.growing,n,m,e,rfl,a,b,c,q⟩).mono (by decide)
  | .falling=>Eu.mono (by decide)
  | .pairs=>(Et.imp fun ds Q ⟨n,m,e,a,b,c,q⟩=>⟨.pairs,n,m,e,rfl,a,b,c,q⟩).mono (by decide)
 have AN:=FOk.mk' F41 m41 b41 (um T Aq HW F41)
 have Aj:=DOk.mk' F42 m42 b42 (j8 (P:=l.prog) (w:=w) (base:=base) T F42)
 have Ev:=mkr l w base T.Ge FG r43 F43 b43 (sD T Aa F43)
 have Ew:=mkr l w base T.Gg FH r43 F43 b43 (sD T Aa F43)
 have Ex:=mkr l w base T.HX FI r43 F43 b43 (sD T Aa F43)
 have Ey:=mkr l w base T.Gf FJ r44 F44 b44 (kD T Aa F44)
 have Ez:=mkr l w base T.Gd FK r45 F45 b45 (pW T Aa F45)
 have Ar:=DOk.mk' F46 m46 b46 (fY T Aa F46)
 have EA:=mkr l w base T.H9 FL r47 F47 b47 (kC T Ar F47)
 have HHas:∀k:Kd,MOk l.prog w K mg base 3 (A.at k) "has" (sV k):=fun k=>match k with
  | .plain=>Ev.mono (by decide)
  | .below=>Ey.mono (by decide)
  | .balanced=>Ez.mono (by decide)
  | .growing=>(Ew.imp fun ds Q ⟨o,d,m,e,a,q⟩=>⟨o,d,m,e,a,by cases m<;>exact q⟩).mono (by decide)
  | .falling=>(Ex.imp fun ds Q ⟨o,d,m,e,a,q⟩=>⟨o,d,m,e,a,by cases m<;>exact q⟩).mono (by decide)
  | .pairs=>EA.mono (by decide)
 have EB:=mkr l w base T.Ge FN r48 F48 b48 (wB T F48)
 have EC:=mkr l w base T.Gf FO r48 F48 b48 (wB T F48)
 have ED:=mkr l w base T.Gg FP r48 F48 b48 (wB T F48)
 have EE:=mkr l w base T.HX FQ r48 F48 b48 (wB T F48)
 have EF:=mkr l w base T.H9 FR r48 F48 b48 (wB T F48)
 have EG:=mkr l w base T.Gd FS r49 F49 b49 (pV T F49)
 have EH:=mkr l w base T.Ge FT r50 F50 b50 (ml T F50)
 have EI:=mkr l w base T.Gf FU r51 F51 b51 (mt T F51)
 have EJ:=mkr l w base T.Gd FV r52 F52 b52 (qC T F52)
 have EK:=mkr l w base T.Gg FW r53 F53 b53 (pS T F53)
 have EL:=mkr l w base T.HX FY r54 F54 b54 (pU T F54)
 have EM:=mkr l w base T.H9 FZ r55 F55 b55 (mq T F55)
 have HLo:∀k:Kd,MOk l.prog w K mg base 1 (A.at k) "low" (vx A k (k.low))∧MOk l.prog w K mg base 1 (A.at k) "high" (vx A k (k.high)):=fun k=>match k with
  | .plain=>⟨EB.imp fun ds Q ⟨n,p,e,_,q⟩=>⟨_,_,e,q⟩,EH⟩
  | .below=>⟨EC.imp fun ds Q ⟨n,p,e,_,q⟩=>⟨_,_,e,q⟩,EI⟩
  | .balanced=>⟨EG,EJ⟩
  | .growing=>⟨ED.imp fun ds Q ⟨n,p,e,_,q⟩=>⟨_,_,e,q⟩,EK⟩
  | .falling=>⟨EE.imp fun ds Q ⟨n,p,e,_,q⟩=>⟨_,_,e,q⟩,EL⟩
  | .pairs=>⟨EF.imp fun ds Q ⟨n,p,e,_,q⟩=>⟨_,_,e,q⟩,EM⟩
 have EN:=mkr l w base T.Ge F0 r56 F56 b56 (xZ T HLo HR F56)
 have EO:=mkr l w base T.Gf F_ r56 F56 b56 (xZ T HLo HR F56)
 have EQ:=mkr l w base T.Gd Ea r56 F56 b56 (xZ T HLo HR F56)
 have ER:=mkr l w base T.Gg Eb r56 F56 b56 (xZ T HLo HR F56)
 have ES:=mkr l w base T.H9 Ec r57 F57 b57 (o6 T Al Ah F57)
 have HSp:∀k:Kd,k.five=true→MOk l.prog w K mg base 4 (A.at k) "split" (cS A k):=fun k hk=>match k,hk with
  | .plain,_=>(EN.imp fun ds Q ⟨n,m,j,e,⟨a,em⟩,h1,h2,q⟩=>⟨.plain,n,a,j,by rw[e,em];rfl,rfl,h1,h2,by rw[em]at q;exact q⟩).mono (by decide)
  | .below,_=>(EO.imp fun ds Q ⟨n,m,j,e,⟨a,em⟩,h1,h2,q⟩=>⟨.below,n,a,j,by rw[e,em];rfl,rfl,h1,h2,by rw[em]at q;exact q⟩).mono (by decide)
  | .balanced,_=>(EQ.imp fun ds Q ⟨n,m,j,e,⟨a,em⟩,h1,h2,q⟩=>⟨.balanced,n,a,j,by rw[e,em];rfl,rfl,h1,h2,by rw[em]at q;exact q⟩).mono (by decide)
  | .growing,_=>(ER.imp fun ds Q ⟨n,m,j,e,⟨a,em⟩,h1,h2,q⟩=>⟨.growing,n,a,j,by rw[e,em];rfl,rfl,h1,h2,by rw[em]at q;exact q⟩).mono (by decide)
  | .pairs,_=>(ES.imp fun ds Q ⟨n,m,j,e,_,h1,h2,q⟩=>⟨n,_,m,j,e,ym m,h1,q⟩).mono (by decide)
 have AM:=DOk.mk' F58 m58 b58 (vV T Ag Aj HNo HHas HSp F58)
 have Ay:=FOk.mk' F59 m59 b59 (fR T Aq AM F59)
 have AB:=FOk.mk' F60 m60 b60 (fO T AN Ay HHas F60)
 have Bg:=DOk.mk' F61 m61 b61 (o0 T Ak F61)
 have AA:=DOk.mk' F62 m62 b62 (pM T Ar Ao F62)
 have AC:=DOk.mk' F63 m63 b63 (Zq T Ag Ah HNo HW F63)
 have AO:=DOk.mk' F64 m64 b64 (xp (P:=l.prog) (w:=w) (base:=base) T F64)
 have AQ:DOk l.prog w K mg base 2 "has_figures_alone_writings" (du A):=⟨_,_,_,m65,F65.kp,b65,xL (P:=l.prog) (w:=w) (base:=base) T HLo F65⟩
 have Az:=DOk.mk' F66 m66 b66 (mi T AO AQ F66)
 have Ad:=DOk.mk' F67 m67 b67 (vU T Az F67)
 have AR:=DOk.mk' F68 m68 b68 (vk (P:=l.prog) (w:=w) (base:=base) T F68)
 have AS:=DOk.mk' F69 m69 b69 (uo (P:=l.prog) (w:=w) (base:=base) T HR F69)
 have A0:=DOk.mk' F70 m70 b70 (uq T AR AS F70)
 have AU:=DOk.mk' F71 m71 b71 (uN (P:=l.prog) (w:=w) (base:=base) T F71)
 have AV:=DOk.mk' F72 m72 b72 (fQ (P:=l.prog) (w:=w) (base:=base) T F72)
 have AW:=DOk.mk' F73 m73 b73 (kA (P:=l.prog) (w:=w) (base:=base) T F73)
 have AT:=DOk.mk' F74 m74 b74 (fZ (P:=l.prog) (w:=w) (base:=base) T F74)
 have AX:=AOk.mk' F75 m75 b75 (ip T AT F75)
 have AY:=TOk.mk' F76 m76 b76 (uL T AU AV AW AX Aq F76)
 have AZ:=FOk.mk' F77 m77 b77 (bB T AY F77)
 have Ae:=FOk.mk' F78 m78 b78 (oY T AZ Ay F78)
 have A1:=TOk.mk' F79 m79 b79 (bA T Ad A0 Ae F79)
 have Bc:=DOk.mk' F80 m80 b80 (n_ T A1 Am AA F80)
 have A2:=DOk.mk' F81 m81 b81 (kB T Al Ar F81)
 have Bd:=FOk.mk' F82 m82 b82 (Zt T Ad AB A2 AC F82)
 have An:=DOk.mk' F83 m83 b83 (ig T Ag Aj F83)
 have A_:=FOk.mk' F84 m84 b84 (Xw T Ad Ae An F84)
 have Ap:=DOk.mk' F85 m85 b85 (kn T Ah F85)
 have A3:=AOk.mk' F86 m86 b86 (Xx (P:=l.prog) (w:=w) (base:=base) T F86)
 have A4:=DOk.mk' F87 m87 b87 (pN (P:=l.prog) (w:=w) (base:=base) T F87)
 have A5:=FOk.mk' F88 m88 b88 (qy T A3 A4 F88)
 have A':=FOk.mk' F89 m89 b89 (Zu T Ad An Ap Ae A5 F89)
 have A6:=FOk.mk' F90 m90 b90 (tR T An Ap Ae F90)
 have A7:=FOk.mk' F91 m91 b91 (rd T Ap Ae An HR F91)
 have Ba:=FOk.mk' F92 m92 b92 (Zr T Ad A6 A7 F92)
 have A8:=DOk.mk' F93 m93 b93 (fS T Aj F93)
 have A9:=DOk.mk' F94 m94 b94 (Zs T Ad A8 Aj F94)
 have Bb:=DOk.mk' F95 m95 b95 (ma T A9 F95)
 have Be:=DOk.mk' F96 m96 b96 (rg T Am A_ A' Ba Bb F96)
 have AE:=FOk.mk' F97 m97 b97 (j9 T Ak Az F97)
 have Bh:=DOk.mk' F98 m98 b98 (pL T AA AC Bc Ak Am Bd AD Be AE F98)
 have Ai:=DOk.mk' F99 m99 b99 (Xv T Bf AD Am AB Bg Bh AE F99)
 have AG:=DOk.mk' F100 m100 b100 (sB (P:=l.prog) (w:=w) (base:=base) T F100)
 have Af:=DOk.mk' F101 m101 b101 (kv (P:=l.prog) (w:=w) (base:=base) T F101)
 have Bi:=DOk.mk' F102 m102 b102 (fX (P:=l.prog) (w:=w) (base:=base) T F102)
 have Bl:=DOk.mk' F103 m103 b103 (fV T Ab Ai Af As Bi F103)
 have Bm:=DOk.mk' F104 m104 b104 (ij T Ab Ai Af As F104)
 have Bn:=DOk.mk' F105 m105 b105 (ky T Ab Ai Af F105)
 have Bo:=DOk.mk' F106 m106 b106 (kx T Ai Af Ax Aw Ab F106)
 have Bp:=DOk.mk' F107 m107 b107 (pP T Bj AF Bk As Ai AG Af Ab Bl Bm Bn Bo F107)
 exact Uv T Bp F108
theorem walk{l:PySem.W.OpenLaw}{q:Program}{loose:List Str}{XP:(Str→Option Value)→Heap→Prop}{YP:World→Heap→Prop}{d:DefRec}{K:Params→PySem.W.Frag}(hn:l.most=some 63)(hdf:d.params.defaults=[])
  (hY:∀(w:World)(h:Heap),YP w h→(K w.params).In h)
  (F:∀(w:World)(mg:be)(fa:Addr)(h:Heap),(K w.params).In h→h.Ns mainGlobals mg→mg d.name=some (.ref fa)→
   ∃fd:FuncData,(∀(s:Shared)(u:Value),BindsTo s fd ⟨[u],[]⟩ [("_law_script",u)])∧∀base:Heap,(K w.params).In base→base.Ns mainGlobals mg→FnOk l.prog w (K w.params) mg base CX0 15 fa fd ["_law_script"] (zw (K w.params) (cZ))):
  PySem.W.WalkO q loose XP YP l.row.toRowW d [] (fun f vs=>PySem.call f vs):=
 L2.walk_of (n:=63) (k:=15) (x:="_law_script") (CX:=fun _=>CX0) (sp:=fun w=>zw (K w.params) (cZ)) hn (by decide) hdf ⟨rfl,by decide,by decide⟩ hY F (fun w H a ns hl _ hS=>⟨⟨H,H,Same.refl H⟩,[.scr ns],fun d=>d=.bl true,rfl,allIs_cons.mpr ⟨_,_,rfl,is_scr.mpr ⟨a,rfl,hS⟩,allIs_nil.mpr rfl⟩,⟨ns,rfl,hl,rfl⟩,fun d v W' _ i e=>by subst e;exact is_bl.mp i⟩) fun _ _ _ _ _ z=>z
end My
local macro_rules | `(tactic| walk_at "fx") => `(tactic| (refine' My.FX.mk ?l ?c ?k; (case l => k_is); (case c => k_is); (case k => k_is)))
local macro_rules | `(tactic| walk_at "pp") => `(tactic| (repeat (with_reducible refine' And.intro ?a ?_; (case a => walk_at "pq"))); walk_at "pq")
local macro_rules | `(tactic| walk_at "pq") => `(tactic| (repeat (with_reducible refine' And.intro ?a ?_; (case a => walk_at "kk"))); walk_at "kk")
local macro_rules | `(tactic| walk_at "kk") => `(tactic| first | k_is | kit_is | kts_exm | (delta L2.ExcK; k_exc) | (delta My.Fi; k_is) | (delta My.Zn; k_is) | (delta My.Gs; k_is) | (delta My.Gc; k_is) | (delta My.Ki; kit_is) | (delta My.FD; refine ⟨?a, ?b⟩; (case a => k_is); (case b => walk_at "fx")) | (delta My.FE; refine ⟨?a, ?b⟩; (case a => k_is); (case b => walk_at "fx")) | (delta My.FM; refine ⟨?a, ?b⟩; (case a => k_is); (case b => walk_at "fx")) | (refine ⟨⟨?_, ?_, ?_, ?_⟩, ?_, ?_, ?_⟩ <;> k_is) | (refine ⟨?_, ?_, ?_, ?_, ?_, ?_, ?_⟩ <;> k_is) | (refine ⟨?_, ?_⟩ <;> k_is) | kernel_rfl)
open PySem PySem.W PyProof.Rows
set_option maxRecDepth 100000 in
set_option maxHeartbeats 0 in
theorem PySem.Challenge.cw_oddbases_k59_rows_answered_holds : PySem.Challenge.rw_oddbases_k59_rows_answered.Holds := by
 w_on;o_law
 refine holds_open (q:=My.h_view_39) (loose:=["has_figures_alone_writings","has_figures_alone_texts","COUNTS"]) (Xt:=(fun s=>xlAt My.h_view_39 [] s&&recOk (RowW.records (OpenRow.toRowW PySem.Challenge.rw_oddbases_k59_rows_answered.row)) s)) (XP:=XL My.h_view_39 []) (Yf:=Hook.obs (kHook My.h_heap_39 My.myAs My.myE)) (Ya:=Hook.val (kHook My.h_heap_39 My.myAs My.myE)) (YP:=Hook.says (kHook My.h_heap_39 My.myAs My.myE)) (N:=15278) My.left (Hook.of _) (Hook.keeps _) (fun s e=>xl_of s (Bool.and_eq_true_iff.mp e).1) XL.keeps (by rfl) (by rfl) (by rfl) (fun s e=>recFacts_of (Bool.and_eq_true_iff.mp e).2) (by rfl) (by first|assumption|decide +kernel) (by decide +kernel) ⟨rfl,rfl,rfl,rfl,rfl,by decide +kernel⟩ ?hw ?hc
 case hw=>w_witness2
 k_fill
 refine My.walk (l:=PySem.Challenge.rw_oddbases_k59_rows_answered) rfl rfl (fun w h Y=>PySem.W.kIn_of Y) ?F
 case F=>
  intro w mg fa h KX G hmg
  refine' My.all_mk KX G hmg ?h
  case h=>walk_at "pp"
